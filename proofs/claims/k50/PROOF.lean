import PyProof.Rows.All
import Wide.All
import OpenK.AllK
import Wide.FinOn
import Lean
import PyProof.EqAt
import PyProof.EqKinds
import PyProof.TupleCall
import PySem.Challenge.RW_ringhouse_k50_boxed
set_option Elab.async false
set_option linter.all false
open PySem.W (instObj methodObj lookIn InstAt plainGet hasDictIn plainOver takerIn makesIn emptyDict keepIn fnOf codeIn excIn nsIn kitOne)
open List (set_cons_zero set_cons_succ replicate length all_cons any_cons foldl forIn_nil sum_cons Nodup)
open Nat (le_of_eq add_comm mul_comm)
open Int (le_of_lt natAbs_neg one_mul)
open PySem.Heap (SameBut ExtBut FlyingW HeldW MadeExcOf)
open Option (getD_none bind_some)
open Array (toList)
set_option maxRecDepth 100000
set_option compiler.extract_closed false
set_option bootstrap.genMatcherCode false
local macro_rules | `(tactic| walk_at "z") => `(tactic| first|exact .inl rfl|exact .inr rfl|assumption)
def aa{p:Prop}(h:p:=by omega):p:=h
def ac{p:Prop}(h:p:=by decide):p:=h
def ad{p:Prop}(h:p:=by lia):p:=h
def ae{p:Prop}(h:p:=by simp):p:=h
def af{p:Prop}(h:p:=by decide +kernel):p:=h
def al{p:Prop}(h:p:=by rfl):p:=h
local macro_rules|`(↥$t)=>`(autoParam $t al._auto_1)|`(⇑$t)=>`(autoParam $t ac._auto_1)
local macro_rules|`(nonrec def $i:declId $s:optDeclSig $v:declVal)=>`(noncomputable def $i:declId $s:optDeclSig $v:declVal)
local macro_rules|`($x∩$e $s*)=>`(PySem.wpAny (PySem.model ($x).prog ($x).w) ($x).A $e $s*)
local macro_rules|`($x∪0)=>`(($x==("__debug__":PySem.Str))=false)
local macro_rules|`({$q:ident with})=>`({nx:=λ_=>$q (.pu .non),rt:=$q})
local macro_rules|`(@$n:num)=>`($(Lean.mkIdent `M.uC) (.int $n))
local macro_rules|`($f<$>$x:ident)=>`($f $x $(Lean.mkIdent `w) $(Lean.mkIdent `K) $(Lean.mkIdent `mg) $(Lean.mkIdent `base))|`($f<$>$g $s*)=>`($f $(Lean.mkIdent `P) $(Lean.mkIdent `w) $(Lean.mkIdent `K) $(Lean.mkIdent `mg) $(Lean.mkIdent `base) $g $s*)
local macro_rules|`(tactic|exists $t)=>`(tactic|simpa using $t)
local macro_rules|`(tactic|right)=>`(tactic|dsimp only)
def ag{p:Prop}(h:p:=by walk_at "n"):p:=h
def ah{p:Prop}(h:p:=by walk_at "b2"):p:=h
def aA:= @PySem.wpAny_bind
def aR:= @List.getD_eq_getElem?_getD
def aG:= @List.length_map
def a7:= @if_neg
def aU:= @List.getElem?_eq_getElem
def a9:= @if_pos
def aV:= @PySem.Heap.get?_push_of_some
def aH:= @Nat.le_refl
def aJ:= @Nat.le_trans
def aL:= @PySem.wpAny_pure
def b9:= @Nat.lt_of_lt_of_le
def aW:= @PySem.Heap.lt_size
def bG:= @List.size_toArray
def bN:= @Bool.false_ne_true
def bJ:= @List.getElem?_map
def aZ:= @List.mem_cons
def bV:= @List.length_append
def cC:= @PySem.Heap.get?_push_size
def bW:= @Nat.zero_lt_succ
def cD:= @Int.toNat_natCast
def bX:= @List.map_append
def bK:= @Nat.ne_of_lt
def bD:= @PySem.wpAny_mono
def cR:= @List.mem_singleton
def dX:= @List.mem_append_right
def cX:= @Int.emod_lt_of_pos
def bY:= @List.map_cons
def cI:= @List.range_succ
def cY:= @List.length_cons
def cS:= @List.getElem_mem
def cZ:= @List.lookup_cons
def cT:= @Int.emod_nonneg
def dY:= @PySem.W.mg_none_of
def eQ:= @Nat.pow_le_pow_right
def fK:= @List.mem_cons_of_mem
def cJ:= @PySem.W.mg_of
def fT:= @List.getElem?_eq_none
def dI:= @List.mem_append
def cK:= @Int.zero_add
def eG:= @Bool.and_eq_true
def jC:= @PyProof.Rows.callWith_type1
def cU:= @Int.mul_zero
def eR:= @List.all_eq_true
def eS:= @List.not_mem_nil
def eH:= @List.length_set
def fL:= @Int.emod_eq_of_lt
def jD:= @List.getElem?_eq_some_iff
def dJ:= @Nat.lt_irrefl
def eI:= @List.mem_range
def dL:= @List.mem_map
def eT:= @Int.natAbs_mul
def gD:= @decide_eq_true_eq
def d6:= @PySem.wpAny_field
def dM:= @Nat.zero_le
def lK:= @List.getElem?_append_right
def cV:= @And.right
def iC:= @Nat.lt_of_le_of_lt
def gE:= @decide_eq_false
def jE:= @List.filterMap_cons
def lL:= @PySem.wpAny_callSpecial?_slot
def gF:= @Nat.mul_le_mul
def fU:= @Int.zero_emod
def jF:= @List.mem_cons_self
def gW:= @List.append_nil
def fM:= @List.map_nil
def nQ:= @List.getElem?_append_left
def kK:= @List.replicate_succ
def jG:= @PySem.wpAny_newObj_type
def jH:= @List.length_range
def gG:= @PySem.wpAny_holding
def iD:= @Option.some.inj
def iE:= @PySem.PassesOwn.never
def iF:= @Nat.min_eq_left
def lM:= @PySem.Heap.get?_none_of_le
def jI:= @PySem.wpAny_call_entry
def gH:= @List.map_map
def gI:= @Int.mul_emod
def pV:= @PySem.F.excBase_ValueError
def kL:= @PySem.wpAny_loadPart_at
def kM:= @PySem.wpAny_loadPart'
def nR:= @List.length_replicate
def dZ:= @congrArg
def fV:= @beq_iff_eq
def jJ:= @PySem.Heap.size_push
def lN:= @Nat.lt_succ_of_lt
def kN:= @PySem.wpAny_execs_nil
def iG:= @Int.add_zero
def iH:= @Int.add_emod
def zR:= @PySem.F.slot_tuple_iterator_next
def eU:= @or_false
def lP:= @List.ext_getElem
def nS:= @PySem.wpAny_Call_Name_kw
def eA:= @if_true
def pW:= @PySem.Heap.get?_update_self
def kO:= @decide_eq_true
def pX:= @Bool.beq_eq_decide_eq
def u6:= @Int.natAbs_ediv_le_natAbs
def zS:= @PyProof.Rows.slot_tuple_getitem
def iI:= @Nat.pow_add
def jK:= @Nat.le_of_lt
def pY:= @List.getElem?_set_ne
def pZ:= @PySem.wpAny_loadName_local
def jL:= @Int.zero_mul
def nT:= @List.flatten_cons
def kP:= @PySem.wpAny_standAt
def kQ:= @List.map_take
def kR:= @Int.emod_emod
def u7:= @List.length_eq_zero_iff
def u8:= @List.getElem?_cons_zero
def qA:= @beq_eq_false_iff_ne
def qB:= @PySem.mem_of_lookup
def qC:= @PySem.wpAny_isSubtype_exc
def nU:= @List.length_take
def fW:= @if_false
def lQ:= @PySem.wpAny_seqItems
def jM:= @PySem.wpAny_of_eq
def qD:= @PySem.Obj.data_mapFields
def qE:= @PySem.wpAny_setField_rec
def qF:= @Nat.add_sub_cancel
def nV:= @PySem.wpAny_passesOwn
def qG:= @List.length_nil
def zT:= @List.length_eraseIdx_of_lt
def qH:= @PySem.wpAny_truthy_bool
def qI:= @PySem.Heap.get?_push_ne
def zU:= @Decidable.byContradiction
def nW:= @Bool.false_xor
def qJ:= @PySem.wpAny_execs_cons
def qK:= @Nat.lt_succ_self
def zV:= @Option.isSome_iff_exists
def lU:= @Int.mul_comm
def u9:= @PyProof.Rows.call_isinstance_yes
def uA:= @PySem.Heap.SameBut.update
def uB:= @List.map_congr_left
def aN4:= @PySem.plainObj_wpAny_Assign_Attribute
def zW:= @List.getElem?_replicate
def zX:= @List.pairwise_singleton
def nX:= @Bool.true_xor
def nY:= @PySem.wpAny_attempt
def qL:= @List.mem_filter
def uD:= @PySem.W.of_hideAll
def kS:= @PySem.call_meets
def zY:= @List.getElem?_set_self
def uE:= @List.ext_getElem?
def nZ:= @PySem.codeAny_mono
def zZ:= @PySem.F.slot_zip_next
def qM:= @PySem.isSubtype_type
def a00:= @PySem.builtinLookup_eq_fast
def o7:= @Nat.sub_self
def a01:= @List.length_filter_le
def a02:= @List.mem_append_left
def lW:= @PySem.wpAny_rule
def uF:= @PySem.Heap.size_update
def a03:= @Nat.mul_le_mul_right
def qN:= @Nat.add_assoc
def qO:= @Int.mul_assoc
def o8:= @Int.mul_one
def a04:= @PySem.Heap.get?_update_ne
def a05:= @Nat.mul_le_mul_left
def a06:= @Nat.pow_le_pow_left
def qP:= @Nat.ne_of_gt
def a07:= @PySem.W.callWith_K
def aN5:= @PySem.F.args_tuple_add_2
def kT:= @Prod.ext
def aN6:= @PySem.AutoSeq1.wpAny_loadPart'
def aN7:= @PySem.F.args_tuple_mul_2
def a08:= @List.contains_cons
def bF9:= @set_cons_zero
def bG0:= @set_cons_succ
def aN8:= @List.mem_of_mem_eraseIdx
def qQ:= @Int.pow_zero
def qR:= @Int.le_trans
def o9:= @PySem.wpAny_Name
def oA:= @PySem.wpAny_call
def uG:= @PySem.wpAny_setField
def aN9:= @PySem.F.entry_tuple_add
def aO0:= @PySem.F.entry_tuple_mul
def aO1:= @decide_eq_false_iff_not
def a09:= @Int.natAbs_add_le
def a10:= @of_decide_eq_true
def aO2:= @PySem.wpAny_pyIter_rangeiter
def aO3:= @PySem.W.cellsFrom_some
def aO4:= @PySem.F.slot_tuple_add
def aO5:= @PySem.Heap.get?_update_other
def aO6:= @PySem.F.slot_tuple_mul
def uH:= @Int.le_of_dvd
def a11:= @List.length_drop
def aO7:= @List.length_singleton
def aO8:= @PySem.Obj.isFreed_of_fields
def a12:= @Bool.eq_iff_iff
def a13:= @List.nodup_cons
def a14:= @List.of_mem_zip
def aO9:= @List.mem_of_getElem?
def qS:= @PySem.typeIs_int
def aP0:= @PySem.Calls.evalArgs_plain
def a15:= @List.nil_append
def aP1:= @PySem.isinstance_false_int
def a16:= @List.forIn_cons
def aP2:= @PySem.wpAny_updateSeq_pair
def a17:= @PySem.typeLookup_type
def aP3:= @PySem.codeAny_call_builtin
def aP4:= @Nat.pow_lt_pow_right
def uI:= @Nat.pow_succ
def uJ:= @Nat.mul_succ
def a18:= @Bool.or_eq_true
def aP5:= @List.forall_mem_cons
def aP6:= @Array.length_toList
def aP7:= @PySem.W.looks_clsIn
def aP8:= @List.length_flatMap
def a19:= @List.take_zero
def a20:= @Int.mul_le_mul
def uK:= @PySem.IsRange.new
def uL:= @Nat.le_succ
def uM:= @Nat.one_mul
def uN:= @Int.mul_pos
def uO:= @Nat.add_mul
def aP9:= @PyProof.Rows.assignInOrder_cons
def qT:= @PyProof.Rows.IsTup.new
def aQ0:= @PySem.wpAny_pyIter_range
def aQ1:= @List.mem_filterMap
def aQ2:= @PySem.wpAny_pyIter_tuple
def aQ3:= @List.zip_cons_cons
def aQ4:= @PySem.Code.quiet_builtin
def a21:= @PySem.wpAny_onRaise
def a22:= @List.map_drop
def a23:= @Bool.true_and
def aQ5:= @List.getElem?_set
def aQ6:= @PySem.wpAny_pyIter_list
def aQ7:= @Bool.not_eq_true'
def aQ8:= @Nat.le_succ_of_le
def aQ9:= @Int.natAbs_sub_le
def aR0:= @Int.gcd_dvd_right
def uP:= @PyProof.Rows.boot_range
def aR1:= @PySem.noFill_tuple_add
def a24:= @PySem.wpAny_typeOf
def a25:= @PySem.seqIndex_neg
def aR2:= @PySem.AutoSeq1.idx_int
def aR3:= @beq_self_eq_true
def a26:= @Bool.or_true
def a27:= @Nat.sub_zero
def a28:= @Int.sub_emod
def a29:= @Int.pow_succ
def a30:= @Int.add_comm
def a31:= @List.all_map
def aR4:= @List.mem_flatMap
def aR5:= @PySem.pushCells_keeps
def aR6:= @PySem.codeAny_of_tree
def aR7:= @Int.natCast_mul
def aR8:= @List.sum_append
def a32:= @PySem.seqIndex_of
def a33:= @Int.add_mul
def a34:= @Int.mul_add
open PySem PySem.Spec PyProof.Rows
section
variable {us its bmB:List Value}{a b it t f C dx R sl l l1 l2 fI:Addr}{P prog q:Program}{w:World}{h g base h':Heap}{o oe:Obj}{t' i j k n tk k' last kt:Nat}{ch fp:List Addr}{x y qual r f1 f2:Str}{e c tg iter elt:Expr}{N loose XN ks:List Str}{A:Around}{E Q:Value->Shared->Prop}{u v vl vu fl:Value}{s' s:Shared}{α:Type}{pos pos' py tpos p apos cpos p2 spos tp np:Pos}{pins:List (Addr×Obj)}{op:CmpOp}{K:PySem.W.Frag}{st:Stmt}{es ifs elts:List Expr}{body:List Stmt}{vs items xs:Array Value}{lo:Int}{hi:Option Int}{kw:List (Str×Value)}{env:Env}{mg:Str->Option Value}{fd:FuncData}{outer:List Env}{scope:Scope}{YP:World->Heap->Prop}{od:Option Addr}{φ:Φ}{T T1 T2:Bool}{cl:List (Str×Addr)}{cap:List (Option Nat)}{em:Value->Env->Sem Unit}{js:List Nat}{esc:List (Str×NameKind)}{newId initId:String}
namespace L2
abbrev Key:=Sum Int Str
nonrec def e38:Key->Value->Bool
 | .inl k,v=>Value.isInt k v
 | .inr x,v=>Value.isStrOf x v
nonrec def keyH (w:World):Key->Int
 | .inl k=>hashInt k
 | .inr x=>hashStr w x
theorem iX: ∀{k:Key} {v:Value},e38 k v=true->(∃i t,k=Sum.inl i/\v=Value.int i t)\/(∃x t,k=Sum.inr x/\v=Value.str x t)
 | .inl i,v,h=>by
  obtain⟨t,e⟩:=Value.isInt_shape (k:=i) (v:=v) h;exact .inl ⟨i,t,rfl,e⟩
 | .inr x,v,h=>by
  obtain⟨t,e⟩:=Value.isStrOf_shape (x:=x) (v:=v) h;exact .inr ⟨x,t,rfl,e⟩
theorem key_ll (a b:Int):decide ((Sum.inl a:Key)=Sum.inl b)=(a==b):=by
 by_cases e:a=b
 .subst e;simp
 .have h: ¬(Sum.inl a:Key)=Sum.inl b:=λq=>e (Sum.inl.inj q)
  rw[gE h];exact(qA.mpr e).symm
theorem key_rr (a b:Str):decide ((Sum.inr a:Key)=Sum.inr b)=decide (a=b):=by
 by_cases e:a=b
 .subst e;simp
 .have h: ¬(Sum.inr a:Key)=Sum.inr b:=λq=>e (Sum.inr.inj q)
  rw[gE h,gE e]
theorem key_lr (a:Int)(b:Str):decide ((Sum.inl a:Key)=Sum.inr b)=false:=gE (λq=>nomatch q)
theorem key_rl (a:Str)(b:Int):decide ((Sum.inr a:Key)=Sum.inl b)=false:=gE (λq=>nomatch q)
nonrec def cX5 (prog:Program)(w:World):PySem.KeyKind prog w Key where
 is:=e38
 hash:=keyH w
 inj:=λv a b ha hb=>by
  rcases iX ha with⟨i,t,rfl,rfl⟩| ⟨x,t,rfl,rfl⟩
  .rcases iX hb with⟨j,u,rfl,e⟩| ⟨y,u,rfl,e⟩
   .injection e with e1 _;rw[e1]
   .exact nomatch e
  .rcases iX hb with⟨j,u,rfl,e⟩| ⟨y,u,rfl,e⟩
   .exact nomatch e
   .injection e with e1 _;rw[e1]
 byValue:=λk v h=>by
  rcases iX h with⟨i,t,rfl,rfl⟩| ⟨x,t,rfl,rfl⟩<;>rfl
 pyHash:=λhv h=>by
  rcases iX hv with⟨i,t,rfl,rfl⟩| ⟨x,t,rfl,rfl⟩
  .exact wpAny_pyHash_int h
  .exact wpAny_pyHash_str h
 eqBool:=λhu hv h=>by
  rcases iX hu with⟨i,t,rfl,rfl⟩| ⟨x,t,rfl,rfl⟩
  .rcases iX hv with⟨j,u,rfl,rfl⟩| ⟨y,u,rfl,rfl⟩
   .rw[key_ll]at h;exact wpAny_eqBool_int h
   .rw[key_lr]at h;exact SeqAt.EqAt.int_str i t y u _ _ _ _ h
  .rcases iX hv with⟨j,u,rfl,rfl⟩| ⟨y,u,rfl,rfl⟩
   .rw[key_rl]at h;exact SeqAt.EqAt.str_int x t j u _ _ _ _ h
   .rw[key_rr]at h;exact wpAny_eqBool_str h
 «strs» :=λk x t v h=>by
  rcases iX h with⟨i,u,rfl,e⟩| ⟨y,u,rfl,e⟩
  .exact nomatch e
  .injection e with e1 _
   subst e1;cases v<;>rfl
end L2
open L2
namespace L2
inductive V where
 | non|bl (b:Bool)|int (i:Int)|str (x:Str)|byt (b:Array UInt8)|flt (b:UInt64)|ref (a:Addr)|ty (n:String)
 deriving DecidableEq
def RelV:V->Value->Prop
 | .non,u=>u=Value.none
 | .bl b,u=>u=Value.bool b
 | .int i,u=> ∃t,u=Value.int i t
 | .str x,u=> ∃t,u=Value.str x t
 | .byt b,u=> ∃t,u=Value.bytes b t
 | .flt b,u=> ∃t,u=Value.float b t
 | .ref a,u=>u=Value.ref a
 | .ty n,u=>u=Value.type n
abbrev Vals:List V->List Value->Prop:=Paired RelV
theorem Vals.length {xs:List V}(r:Vals xs us):xs.length=us.length:=Paired.length r
theorem Vals.get: ∀{xs:List V} {us:List Value} {i:Nat} {x:V},Vals xs us->xs[i]? =some x-> ∃u,us[i]? =some u/\RelV x u
 | _,_,_,_,.nil,e=>by simp at e
 | _,_,0,_,.cons r _,e=>by simp at e;subst e;exact⟨_,rfl,r⟩
 | _,_,i+1,x,.cons _ t,e=>by
  obtain⟨u,h1,h2⟩:=Vals.get (i:=i) (x:=x) t (by exists e)
  exact⟨u,by simpa using h1,h2⟩
theorem Vals.set {x:V}{u:Value}(r:RelV x u): ∀{xs:List V} {us:List Value} (i:Nat),Vals xs us->Vals (xs.set i x) (us.set i u)
 | _,_,_,.nil=> .nil
 | _,_,0,.cons _ t=> .cons r t
 | _,_,i+1,.cons q t=> .cons q (Vals.set r i t)
theorem Vals.append: ∀{xs ys:List V} {us ws:List Value},Vals xs us->Vals ys ws->Vals (xs++ys) (us++ws)
 | _,_,_,_,.nil,s=>s
 | _,_,_,_,.cons r t,s=> .cons r (Vals.append t s)
theorem Vals.take: ∀{xs:List V} {us:List Value} (n:Nat),Vals xs us->Vals (xs.take n) (us.take n)
 | _,_,0,_=> .nil
 | _,_,_+1,.nil=> .nil
 | _,_,n+1,.cons r t=> .cons r (Vals.take n t)
theorem Vals.drop: ∀{xs:List V} {us:List Value} (n:Nat),Vals xs us->Vals (xs.drop n) (us.drop n)
 | _,_,0,r=>r
 | _,_,_+1,.nil=> .nil
 | _,_,n+1,.cons _ t=>Vals.drop n t
def cO5:Option V->Option Value->Prop
 | some v,some u=>RelV v u
 | none,none=>True
 | _,_=>False
def KV {κ:Type}:List (κ×V)->List (κ×Value)->Prop:=Paired fun(p:κ×V) (q:κ×Value)=>p.1=q.1/\RelV p.2 q.2
nonrec def kV:Key->V
 | .inl i=> .int i
 | .inr x=> .str x
inductive HO where
 | lst (xs:List V)
 | tup (xs:List V)
 | dK (kvs:List (Key×V))|dT (kvs:List (List Key×V))
 | set (S:Int->Bool) (n:Nat)
 | ins (C dx:Addr) (fs:List (Str×V))
 | own (x:Addr)
 | xd (fs:List (Str×V))
 | met (f x:Addr)
 | rng (lo hi:Int)
 | frz (o:Obj) (u:HO)
 | tbl (ps:Array Value)
 | ext (φ:Heap->Prop)
abbrev Hp:=Addr->Option HO
nonrec def upd (H:Hp)(a:Addr)(o:HO):Hp:=λb=>if b=a then some o else H b
theorem iY {H:Hp}{o:HO}:upd H a o a=some o:=by unfold upd;rw[a9 rfl]
theorem cL {H:Hp}{o:HO}(h:b≠a):upd H a o b=H b:=by unfold upd;rw[a7 h]
theorem dA {H:Hp}{o:HO}(h:H a=some o)(h':H b=none):a≠b:=by
 intro e;subst e;rw[h]at h';cases h'
section
variable (P:Program)(w:World)
nonrec def rX (H:Hp)(h:Heap)(a:Addr):HO->Prop
 | .lst xs=>xs.length<=sizeLine/\ ∃(its:List Value) (n:Nat),Vals xs its/\h.get? a=some {cls:= .type "list",data:= .seq its.toArray n}
 | .tup xs=>xs.length<=sizeLine/\ ∃its:List Value,Vals xs its/\IsTup h a its.toArray
 | .dK kvs=>kvs.length<=sizeLine/\(a==sysModules)=false/\ ∃vs,KV kvs vs/\h.DictOf (cX5 P w) a vs
 | .dT kvs=>kvs.length<=sizeLine/\(a==sysModules)=false/\ ∃xs:List (List Key×Addr×Value),
   Paired (fun(p:List Key×V) (q:List Key×Addr×Value)=>p.1=q.1/\H q.2.1=some (.tup<|p.1.map kV)/\RelV p.2 q.2.2) kvs xs/\
   ∃o es ep,h.get? a=some o/\o.ExactDict/\o.data= .dict es ep/\es.toList=xs.map (entryOfKey<|tupleKind<|cX5 P w)/\(xs.map (·.1)).Nodup
 | .set S n=>h.SetOf (intKind P w) a S n
 | .ins C dx fs=>H dx=some (.own a)/\fs.length<=1000/\dx≠a/\h.get? a=some (instObj C dx)/\
   ∃mA,h.Ns1 dx mA/\(∀f,cO5 (fs.lookup f)<|mA f)/\PySem.Within mA (fs.map (·.1))
 | .own _=> ∃o,h.get? a=some o
 | .xd fs=> ∃mA,h.Ns1 a mA/\ ∀f,cO5 (fs.lookup f) (mA f)
 | .rng lo hi=> ∃t u v,h.get? a=some {cls:= .type "range",data:= .fields #[.int lo t,.int hi u,.int 1 v]}
 | .frz o u=>h.get? a=some o/\rX H h a u
 | .tbl ps=>h.get? a=some {cls:= .none,data:= .fields ps}
 | .met f x=>h.get? a=some (methodObj (.ref f)<|.ref x)
 | .ext φ=>φ h/\(∃o,h.get? a=some o)/\ ∀h1 h2:Heap,φ h1->(∀o,h1.get? a=some o->h2.get? a=some o)->φ h2
def HOk (H:Hp)(h:Heap):Prop:= ∀a o,H a=some o->rX P w H h a o
end
section
variable {P:Program}{w:World}{H H':Hp}{h h':Heap}{a:Addr}{o:HO}
theorem rX.lt (x:rX P w H h a o):a<h.objs.size:=by
 cases o with
 | lst xs=>obtain⟨_,_,_,_,e⟩:=x;exact aW e
 | tup xs=>obtain⟨_,_,_,p⟩:=x;exact p.lt
 | dK kvs=>obtain⟨_,_,_,_,o,_,_,e,_⟩:=x;exact aW e
 | dT kvs=>obtain⟨_,_,_,_,o,_,_,e,_⟩:=x;exact aW e
 | set S n=>obtain⟨o,_,_,_,e,_⟩:=x;exact aW e
 | ins C dx fs=>obtain⟨_,_,_,e,_⟩:=x;exact aW e
 | own y=>obtain⟨_,e⟩:=x;exact aW e
 | xd fs=>obtain⟨_,⟨_,_,_,e,_⟩,_⟩:=x;exact aW e
 | rng lo hi=>obtain⟨_,_,_,e⟩:=x;exact aW e
 | frz ob u=>obtain⟨e,_⟩:=x;exact aW e
 | tbl ps=>exact aW (show h.get? a=some _ from x)
 | met f y=>exact aW (show h.get? a=some _ from x)
 | ext φ=>obtain⟨_,⟨_,e⟩,_⟩:=x;exact aW e
theorem Paired.mapP {α β:Type}{F G:α->β->Prop}: ∀{l₁:List α} {l₂:List β},Paired F l₁ l₂->(∀a b,F a b->G a b)->Paired G l₁ l₂
 | _,_,.nil,_=> .nil
 | _,_,.cons r t,f=> .cons (f _ _ r) (Paired.mapP t f)
theorem rX.stay (x:rX P w H h a o)(k: ∀b u,(b=a\/H b=some (.own a))->h.get? b=some u->h'.get? b=some u)
  (ho: ∀b,H b=some (.own a)->H' b=some (.own a)) (ht: ∀b xs,H b=some (.tup xs)->H' b=some (.tup xs)):rX P w H' h' a o:=by
 induction o with
 | lst xs=>obtain⟨z,its,n,r,e⟩:=x;exact⟨z,its,n,r,k _ _ (.inl rfl) e⟩
 | tup xs=>obtain⟨z,its,r,ob,e,c⟩:=x;exact⟨z,its,r,ob,k _ _ (.inl rfl) e,c⟩
 | dK kvs=>obtain⟨z,y,vs,r,ob,es,ep,e,c⟩:=x;exact⟨z,y,vs,r,ob,es,ep,k _ _ (.inl rfl) e,c⟩
 | dT kvs=>
  obtain⟨z,y,xs,r,ob,es,ep,e,c⟩:=x;exact⟨z,y,xs,Paired.mapP r λp q z=>⟨z.1,ht _ _ z.2.1,z.2.2⟩,ob,es,ep,k _ _ (.inl rfl) e,c⟩
 | set S n=>obtain⟨ob,es,ep,t,e,c⟩:=x;exact⟨ob,es,ep,t,k _ _ (.inl rfl) e,c⟩
 | ins C dx fs=>
  obtain⟨d,z,ne,e,mA,⟨od,es,ep,e2,c⟩,r⟩:=x;exact⟨ho _ d,z,ne,k _ _ (.inl rfl) e,mA,⟨od,es,ep,k _ _ (.inr d) e2,c⟩,r⟩
 | own y=>obtain⟨ob,e⟩:=x;exact⟨ob,k _ _ (.inl rfl) e⟩
 | xd fs=>obtain⟨mA,⟨od,es,ep,e,c⟩,r⟩:=x;exact⟨mA,⟨od,es,ep,k _ _ (.inl rfl) e,c⟩,r⟩
 | rng lo hi=>obtain⟨t,u,v,e⟩:=x;exact⟨t,u,v,k _ _ (.inl rfl) e⟩
 | frz ob u ih=>obtain⟨e,q⟩:=x;exact⟨k _ _ (.inl rfl) e,ih q⟩
 | tbl ps=>
  have e:h.get? a=some {cls:= .none,data:= .fields ps}:=x;show h'.get? a=some {cls:= .none,data:= .fields ps};exact k a _ (.inl rfl) e
 | met f y=>
  have e:h.get? a=some (methodObj (.ref f)<|.ref y):=x;show h'.get? a=some (methodObj (.ref f)<|.ref y);exact k a _ (.inl rfl) e
 | ext φ=>obtain⟨p,⟨o,e⟩,st⟩:=x;exact⟨st _ _ p λo q=>k _ _ (.inl rfl) q,⟨o,k _ _ (.inl rfl) e⟩,st⟩
theorem HOk.lt (x:HOk P w H h)(e:H a=some o):a<h.objs.size:=(x a o e).lt
theorem HOk.fresh (x:HOk P w H h)(e:h.objs.size<=a):H a=none:=by
 cases q:H a with
 | none=>rfl
 | some u=>exact absurd (b9 (x.lt q) e) (dJ _)
theorem HOk.kept (x:HOk P w H h)(k: ∀b u,h.get? b=some u->h'.get? b=some u):HOk P w H h':=λa o e=>
 (x a o e).stay (λb u _ q=>k b u q) (λ_ q=>q) λ_ _ q=>q
theorem HOk.laid (x:HOk P w H h)(k: ∀b u,h.get? b=some u->h'.get? b=some u)(hp:h.objs.size<=a)(new:rX P w (upd H a o) h' a o):HOk P w (upd H a o) h':=λb u e=>by
 have hn:=x.fresh hp
 by_cases hb:b=a
 .subst hb;rw[iY]at e;cases e;exact new
 .rw[cL hb]at e;exact(x b u e).stay (λc v _ q=>k c v q) (λc q=>by rw[cL<|dA q hn];exact q) λc xs q=>by rw[cL<|dA q hn];exact q
end
def Rd (H:Hp)(a:Addr)(u:HO):Prop:=H a=some u\/ ∃o,H a=some (.frz o u)
theorem Rd.ok {H:Hp}{u:HO}(r:Rd H a u)(x:HOk P w H h):rX P w H h a u:=by
 rcases r with r| ⟨o,r⟩
 .exact x a u r
 .obtain⟨_,q⟩:=x a _ r;exact q
def Mut:Option HO->Prop
 | some (.lst _)=>True
 | some (.dK _)=>True
 | some (.dT _)=>True
 | some (.set _ _)=>True
 | some (.ins _ _ _)=>True
 | some (.ext _)=>True
 | _=>False
section
variable {P:Program}{w:World}{H:Hp}{h h':Heap}{x e:Addr}{o':HO}
theorem HOk.write (ok:HOk P w H h)(mu:Mut (H x))(he:e=x\/H e=some (.own x))(k: ∀b u,b≠e->h.get? b=some u->h'.get? b=some u)(heo: ∃u,h'.get? e=some u)
  (new:rX P w (upd H x o') h' x o'):HOk P w (upd H x o') h':=λb u q=>by
 have nown: ∀c y,H c=some (.own y)->c≠x:=λc y r z=>by subst z;rw[r]at mu;exact mu
 have ntup: ∀c xs,H c=some (.tup xs)->c≠x:=λc xs r z=>by subst z;rw[r]at mu;exact mu
 by_cases hb:b=x
 .subst hb;rw[iY]at q;cases q;exact new
 .rw[cL hb]at q
  by_cases hbe:b=e
  .have q':H b=some (.own x):=by
    rcases he with z|z
    .exact absurd (hbe.trans z) hb
    .rw[hbe];exact z
   rw[q]at q';cases q';obtain⟨v,hv⟩:=heo;exact⟨v,by rw[hbe];exact hv⟩
  .refine(ok b u q).stay (λc v hc r=>k c v ?_ r) (λc r=>by rw[cL<|nown c b r];exact r) λc xs r=>by rw[cL<|ntup c xs r];exact r
   rcases hc with rfl|hc
   .exact hbe
   .rintro rfl;rcases he with z|z
    .exact nown c b hc z
    .rw[hc]at z;cases z;exact hb rfl
end
structure Un (fs ex:List Addr)(H H':Hp)(h h':Heap):Prop where
 keep: ∀b o,h.get? b=some o->H b=none->b ∉ fs->b ∉ ex->h'.get? b=some o
 slot: ∀b o,h.get? b=some o->H b=none->b∈fs->b ∉ ex-> ∃sl,h'.get? b=some {o with slots:=sl}
 free: ∀b o,h.get? b=some o->H b=none->b ∉ ex->H' b=none
 there: ∀b o,h.get? b=some o->b ∉ ex-> ∃o',h'.get? b=some o'
 tups: ∀b xs,H b=some (.tup xs)->H' b=some (.tup xs)
 frzs: ∀b o u,H b=some (.frz o u)->H' b=some (.frz o u)
 tbls: ∀b ps,H b=some (.tbl ps)-> ∃more,H' b=some (.tbl<|ps++more)
section
variable {fs fs' ex ex':List Addr}{H H1 H2:Hp}{h h1 h2 h':Heap}{a x e:Addr}{o:HO}
theorem Un.any (u:Un fs ex H H1 h h1){ob:Obj}(q:h.get? b=some ob)(n:H b=none)(hx:b ∉ ex): ∃sl,h1.get? b=some {ob with slots:=sl}:=by
 by_cases hb:b∈fs
 .exact u.slot b ob q n hb hx
 .exact⟨ob.slots,u.keep b ob q n hb hx⟩
theorem Un.kept (k: ∀b u,h.get? b=some u->h'.get? b=some u):Un fs ex H H h h':=
 ⟨λb ob q _ _ _=>k b ob q,λb ob q _ _ _=>⟨ob.slots,k b ob q⟩,λ_ _ _ n _=>n,λb ob q _=>⟨ob,k b ob q⟩,λ_ _ q=>q,λ_ _ _ q=>q,λ_ ps q=>⟨#[],by rw[q];simp⟩⟩
theorem Un.refl:Un fs ex H H h h:=Un.kept λ_ _ q=>q
theorem Un.laid (k: ∀b u,h.get? b=some u->h'.get? b=some u)(hp:h.objs.size<=a)(hn:H a=none):Un fs ex H (upd H a o) h h' where
 keep:=λb u q _ _ _=>k b u q
 slot:=λb u q _ _ _=>⟨u.slots,k b u q⟩
 free:=λb u q n _=>by rw[cL<|bK<|b9 (aW q) hp];exact n
 there:=λb u q _=>⟨u,k b u q⟩
 tups:=λb xs q=>by rw[cL<|dA q hn];exact q
 frzs:=λb u xs q=>by rw[cL<|dA q hn];exact q
 tbls:=λb ps q=>⟨#[],by rw[cL<|dA q hn,q];simp⟩
theorem Un.write (mu:Mut (H x))(he:e=x\/H e=some (.own x))(k: ∀b u,b≠e->h.get? b=some u->h'.get? b=some u)(heo: ∃u,h'.get? e=some u):Un fs ex H (upd H x o) h h':=by
 have hx: ∀b,H b=none->b≠x:=λb n z=>by subst z;rw[n]at mu;exact mu
 have hb: ∀b,H b=none->b≠e:=λb n z=>by
  subst z;rcases he with r|r
  .exact hx b n r
  .rw[n]at r;cases r
 have hm: ∀b u,H b=some u-> ¬Mut (some u)->b≠x:=λb u q nm z=>by subst z;rw[q]at mu;exact nm mu
 refine⟨λb u q n _ _=>k b u (hb b n) q,λb u q n _ _=>⟨u.slots,k b u (hb b n) q⟩,λb u q n _=>by rw[cL<|hx b n];exact n,λb u q _=> ?_,
  λb xs q=>by rw[cL<|hm b _ q λz=>z];exact q,λb u xs q=>by rw[cL<|hm b _ q λz=>z];exact q,λb ps q=>⟨#[],by rw[cL<|hm b _ q λz=>z,q];simp⟩⟩
 by_cases hbe:b=e
 .subst hbe;exact heo
 .exact⟨u,k b u hbe q⟩
end
nonrec def trk (h:Heap)(H:Hp):List Addr:=(List.range h.objs.size).filter λa=>(H a).isSome
nonrec def c35 (h:Heap)(H:Hp):Heap:=PySem.W.hideAll h (trk h H)
theorem d31 (h:Heap)(H:Hp):(c35 h H).objs.size=h.objs.size:=PySem.W.hideAll_size _ _
theorem dA3 {H:Hp}(e:h.get? b=some o)(n:H b=none):(c35 h H).get? b=some o:=
 PySem.W.hideAll_get _ e λhm=>by
  have q:(H b).isSome=true:=(qL.mp hm).2;rw[n]at q;simp at q
theorem dR3 {H:Hp}(e:(c35 h H).get? b=some o):h.get? b=some o/\H b=none:=by
 have e':h.get? b=some o:=uD (trk h H) e;refine⟨e',?_⟩;cases q:H b with
 | none=>rfl
 | some x=>
  have hm:b∈trk h H:=qL.mpr ⟨eI.mpr<|aW e',by simp[q]⟩
  have z:(c35 h H).get? b=none:=PySem.W.hideAll_none (trk h H) hm;rw[z]at e;cases e
nonrec def dR4 (g h:Heap)(L:Addr):List (Addr×Obj):=(List.range h.objs.size).filterMap λa=>if a=L\/(g.get? a).isSome=true then none else(h.get? a).map λo=>(a,o)
nonrec def iS (g h:Heap)(L d:Addr):List (Addr×Obj):=(dR4 g h L).filter λp=>decide (p.1≠d)
structure Mod (K:PySem.W.Frag)(mg:Str->Option Value)(base:Heap):Prop where
 kin:K.In base
 glob:base.Ns mainGlobals mg
 blt: ∃mb,base.Ns builtinsNs mb/\ ∀x:Str,x≠"__name__"->mb x=bootBuiltins x
 nolimit:base.NoLimit
structure Cx where
 prog:Program
 w:World
 K:PySem.W.Frag
 mg:Str->Option Value
 base:Heap
 A:Around
 N:List Str
 s₀:Shared
 H₀:Hp
 env:Env
 outer:List Env
 stack:List Env
 ex:List Addr
 fn:Str->Bool
 calm:Bool
 pn:List (Addr×Obj)
 xe:Value->Shared->Prop
nonrec def frs (l:List Env):List Addr:=l.filterMap (·.frame)
noncomputable abbrev Cx.fs (X:Cx):List Addr:=frs X.outer
def Vis (sc:Scope)(x:Str):Prop:=sc.names.lookup x=some .local\/sc.names.lookup x=some .cell\/sc.names.lookup x=some .free
def Loc (sc:Scope)(x:Str):Prop:=sc.names.lookup x=some .local\/sc.names.lookup x=some .cell
def Look (env:Env)(h:Heap)(m:Str->Option Value)(x:Str)(u:Value):Prop:=
 (env.kindOf x=some .local/\m x=some u)\/((env.kindOf x=some .cell\/env.kindOf x=some .free)/\ ∃c,env.cells.lookup x=some c/\h.IsCell c (some u))
structure Cx.Ok (X:Cx):Prop where
 mod:Mod X.K X.mg X.base
 kind:X.env.scope.kind= .function
 glob:X.env.globals=mainGlobals
 blt:X.env.builtins=builtinsNs
 above:X.s₀.heap.objs.size<=X.env.locals
 inj: ∀x y c,X.env.cells.lookup x=some c->X.env.cells.lookup y=some c->x=y
 has: ∀x,(X.env.kindOf x=some .cell\/X.env.kindOf x=some .free)-> ∃c,X.env.cells.lookup x=some c
 cab: ∀x c,X.fn x=true->X.env.cells.lookup x=some c->X.s₀.heap.objs.size<=c
 hd:X.calm=true->X.A.handled=none
 frames:X.A.frames=some X.stack
 stk:X.stack=X.outer\/(X.stack=X.env::X.outer/\X.env.frame=some X.env.locals)
 exf: ∀b∈X.ex,b≠X.env.locals/\ ∀x c,X.env.cells.lookup x=some c->c≠b
 bs: ∀b o,X.base.get? b=some o->X.s₀.heap.get? b=some o/\X.H₀ b=none
 bsz:X.base.objs.size<=X.s₀.heap.objs.size
 noex: ∀b o,X.base.get? b=some o->b ∉ X.ex
 exfs: ∀b∈X.ex,b ∉ X.fs
 funs:X.s₀.heap.FunFrames X.base X.outer
 frf: ∀b∈X.fs,X.H₀ b=none
structure Inv (X:Cx)(pins:List (Addr×Obj))(σ:List (Option V))(H:Hp)(s:Shared):Prop where
 ok:X.Ok
 os:s.os=X.s₀.os
 bare:AllBare s.gens
 base:Un X.fs X.ex X.H₀ H X.s₀.heap s.heap
 loc: ∃m,s.heap.Ns X.env.locals m/\ ∀(i:Nat) (x:Str) (v:V),X.N[i]? =some x->σ[i]? =some (some v)->Vis X.env.scope x-> ∃u,RelV v u/\Look X.env s.heap m x u
 cell: ∀x c,X.env.cells.lookup x=some c-> ∃v,s.heap.IsCell c v
 free:H X.env.locals=none
 freeC: ∀x c,X.env.cells.lookup x=some c->H c=none
 pin: ∀p∈X.pn++pins,s.heap.get? p.1=some p.2/\H p.1=none/\p.1≠X.env.locals/\p.1 ∉ X.fs/\ ∀v,p.2.data≠ .cell v
 hok:HOk X.prog X.w H s.heap
 len:σ.length=X.N.length
section
variable {X:Cx}{pins:List (Addr×Obj)}{σ:List (Option V)}{H H':Hp}{s:Shared}{h':Heap}
theorem Cx.Ok.nofr (ok:X.Ok)(e:X.base.get? b=some o):b ∉ X.fs:=λhb=>by
 have:=(ok.funs.mem hb).1;rw[e]at this;cases this
theorem Inv.bs (I:Inv X pins σ H s): ∀b o,X.base.get? b=some o->s.heap.get? b=some o/\H b=none:=λb o e=>
 ⟨I.base.keep b o (I.ok.bs b o e).1 (I.ok.bs b o e).2 (I.ok.nofr e)<|I.ok.noex b o e,I.base.free b o (I.ok.bs b o e).1 (I.ok.bs b o e).2<|I.ok.noex b o e⟩
theorem Inv.bk (I:Inv X pins σ H s): ∀b o,X.base.get? b=some o->s.heap.get? b=some o:=λb o e=>(I.bs b o e).1
theorem Inv.mod (I:Inv X pins σ H s):Mod X.K X.mg X.base:=I.ok.mod
theorem Inv.kIn (I:Inv X pins σ H s):X.K.In s.heap:=I.ok.mod.kin.keeps I.bk
theorem Inv.nolimit (I:Inv X pins σ H s):s.heap.NoLimit:=I.ok.mod.nolimit.keeps I.bk
theorem Inv.lt (I:Inv X pins σ H s):X.env.locals<s.heap.objs.size:=let ⟨_,hn,_⟩:=I.loc;hn.lt
theorem Inv.sz (I:Inv X pins σ H s):X.s₀.heap.objs.size<=s.heap.objs.size:=aJ I.ok.above (jK I.lt)
theorem Inv.nofs (I:Inv X pins σ H s)(h:s.heap.objs.size<=a):a ∉ X.fs:=λhb=>by
 obtain⟨_,o,ho,_⟩:=I.ok.funs.mem hb;exact absurd (b9 (aW ho)<|aJ I.sz h) (dJ _)
theorem Inv.cne (I:Inv X pins σ H s): ∀x c,X.env.cells.lookup x=some c->c≠X.env.locals:=λx c e z=>by
 obtain⟨v,o,ho,hd⟩:=I.cell x c e;obtain⟨m,⟨o',es,ep,ho',hd',_⟩,_⟩:=I.loc;rw[z,ho']at ho;cases ho;rw[hd']at hd;cases hd
theorem Inv.funs (I:Inv X pins σ H s):s.heap.FunFrames X.base X.outer:=by
 have all: ∀(l:List Env),(∀b∈frs l,b∈X.fs)->X.s₀.heap.FunFrames X.base l->s.heap.FunFrames X.base l:=by
  intro l
  induction l with
  | nil=>intro _ _;trivial
  | cons env r ih=>
   intro hs hl;obtain⟨hk,⟨L,o,hf,hn,ho,hd⟩,hr⟩:=hl;have hL:L∈X.fs:=hs L (by unfold frs;rw[jE,hf];exact jF)
   obtain⟨sl,e⟩:=I.base.slot L o ho (I.ok.frf L hL) hL λz=>I.ok.exfs L z hL
   exact⟨hk,⟨L,_,hf,hn,e,hd⟩,ih (λb hb=>hs b (by unfold frs;rw[jE,hf];exact fK _ hb)) hr⟩
 exact all X.outer (λ_ hb=>hb) I.ok.funs
theorem Inv.stack (I:Inv X pins σ H s):s.heap.FunFrames X.base X.stack:=by
 rcases I.ok.stk with e| ⟨e,hf⟩
 .rw[e];exact I.funs
 .rw[e];obtain⟨m,hn,_⟩:=I.loc;refine .cons (by rw[I.ok.kind];decide) hf hn ?_ I.funs
  exact lM (aJ I.ok.bsz I.ok.above)
theorem Inv.stkSub (I:Inv X pins σ H s): ∀b∈frs X.stack,b∈X.env.locals::X.fs:=λb hb=>by
 rcases I.ok.stk with e| ⟨e,hf⟩
 .rw[e]at hb;exact fK _ hb
 .rw[e]at hb;unfold frs at hb;rw[jE,hf]at hb;exact hb
theorem Inv.stkFree (I:Inv X pins σ H s): ∀b∈frs X.stack,H b=none:=λb hb=>by
 rcases aZ.mp (I.stkSub b hb)with e|hb
 .rw[e];exact I.free
 .obtain⟨_,o,ho,_⟩:=I.ok.funs.mem hb;exact I.base.free b o ho (I.ok.frf b hb) λz=>I.ok.exfs b z hb
theorem Inv.step {g':Array GenState}{d':Drawn}(I:Inv X pins σ H s)
  (hch: ∀b∈ch,(b∈X.ex\/X.s₀.heap.objs.size<=b)/\b≠X.env.locals/\(∀x c,X.env.cells.lookup x=some c->c≠b)/\ ∀p∈X.pn++pins,p.1≠b)
  (keep: ∀b o,b≠X.env.locals->b ∉ X.fs->b ∉ ch->s.heap.get? b=some o->H b=none->h'.get? b=some o)
  (slot: ∀b o,b≠X.env.locals->b∈X.fs->b ∉ ch->s.heap.get? b=some o->H b=none-> ∃sl,h'.get? b=some {o with slots:=sl}) (free: ∀b o,b ∉ ch->s.heap.get? b=some o->H b=none->H' b=none)
  (there: ∀b o,b ∉ ch->s.heap.get? b=some o-> ∃o',h'.get? b=some o')
  (tups: ∀b xs,H b=some (.tup xs)->H' b=some (.tup xs)) (frzs: ∀b o u,H b=some (.frz o u)->H' b=some (.frz o u)) (tbls: ∀b ps,H b=some (.tbl ps)-> ∃more,H' b=some (.tbl<|ps++more))
  (ns: ∀m,s.heap.Ns X.env.locals m->h'.Ns X.env.locals m) (hok:HOk X.prog X.w H' h') (hg:AllBare g') :
  Inv X pins σ H' {s with heap:=h',gens:=g',drawn:=d',toks:=t'}:=by
 have neL: ∀b o,X.s₀.heap.get? b=some o->b≠X.env.locals:=λb o e=>bK (b9 (aW e) I.ok.above)
 have neC: ∀b o,X.s₀.heap.get? b=some o->b ∉ X.ex->b ∉ ch:=λb o e hx hb=>by
  rcases(hch b hb).1 with z|z
  .exact hx z
  .exact absurd (b9 (aW e) z) (dJ _)
 have cellK: ∀x c,X.env.cells.lookup x=some c-> ∀v,s.heap.IsCell c v->h'.IsCell c v:=λx c e v ⟨o,ho,hd⟩=>by
  have nch:c ∉ ch:=λz=>(hch c z).2.2.1 x c e rfl
  by_cases hc:c∈X.fs
  .obtain⟨sl,q⟩:=slot c o (I.cne x c e) hc nch ho (I.freeC x c e);exact⟨_,q,hd⟩
  .exact⟨o,keep c o (I.cne x c e) hc nch ho<|I.freeC x c e,hd⟩
 refine⟨I.ok,I.os,hg,⟨λb o e n hb hx=> ?_,λb o e n hb hx=> ?_,λb o e n hx=> ?_,λb o e hx=> ?_,λb xs e=>tups b xs (I.base.tups b xs e),λb o xs e=>frzs b o xs (I.base.frzs b o xs e),λb ps e=> ?_⟩,?_,λx c e=> ?_,?_,λx c e=> ?_,λp hp=> ?_,hok,I.len⟩
 .exact keep b o (neL b o e) hb (neC b o e hx) (I.base.keep b o e n hb hx) (I.base.free b o e n hx)
 .obtain⟨sl,e1⟩:=I.base.slot b o e n hb hx;obtain⟨sl',e2⟩:=slot b _ (neL b o e) hb (neC b o e hx) e1 (I.base.free b o e n hx);exact⟨sl',e2⟩
 .obtain⟨o',e1⟩:=I.base.there b o e hx;exact free b o' (neC b o e hx) e1 (I.base.free b o e n hx)
 .obtain⟨o',e1⟩:=I.base.there b o e hx;exact there b o' (neC b o e hx) e1
 .obtain⟨m1,e1⟩:=I.base.tbls b ps e;obtain⟨m2,e2⟩:=tbls b _ e1;exact⟨m1++m2,by rw[e2,Array.append_assoc]⟩
 .obtain⟨m,hn,hl⟩:=I.loc;refine⟨m,ns m hn,λi x v e1 e2 e3=> ?_⟩
  obtain⟨u,r,l⟩:=hl i x v e1 e2 e3;refine⟨u,r,?_⟩;rcases l with l| ⟨k,c,e,z⟩
  .exact .inl l
  .exact .inr ⟨k,c,e,cellK x c e _ z⟩
 .obtain⟨v,z⟩:=I.cell x c e;exact⟨v,cellK x c e v z⟩
 .obtain⟨m,⟨o,_,_,ho,_⟩,_⟩:=I.loc;exact free _ o (λz=>(hch _ z).2.1 rfl) ho I.free
 .obtain⟨v,o,ho,hd⟩:=I.cell x c e;exact free c o (λz=>(hch c z).2.2.1 x c e rfl) ho (I.freeC x c e)
 .obtain⟨e,n,ne,nf,d⟩:=I.pin p hp;have nch:p.1 ∉ ch:=λz=>(hch p.1 z).2.2.2 p hp rfl
  exact⟨keep p.1 p.2 ne nf nch e n,free p.1 p.2 nch e n,ne,nf,d⟩
theorem Inv.un (I:Inv X pins σ H s)(u:Un X.fs [] H H' s.heap h')(hok:HOk X.prog X.w H' h'):Inv X pins σ H' {s with heap:=h',toks:=t'}:=by
 obtain⟨m,⟨o,es,ep,ho,r⟩,_⟩:=id I.loc;obtain⟨sl,hL⟩:=u.any ho I.free ae
 exact I.step (g':=s.gens) (d':=s.drawn) (ch:=[]) (λ_ z=>nomatch z) (λb o _ hb _ e n=>u.keep b o e n hb ae) (λb o _ hb _ e n=>u.slot b o e n hb ae) (λb o _ e n=>u.free b o e n ae) (λb o _ e=>u.there b o e ae) u.tups u.frzs u.tbls (λm' hm=>by
  obtain⟨o',es',ep',ho',r'⟩:=hm;rw[ho]at ho';cases ho';exact⟨_,es',ep',hL,r'⟩) hok I.bare
theorem Inv.call {g':Array GenState}{d':Drawn}(I:Inv X pins σ H s)(u:Un (frs X.stack) ch H H' s.heap h')(hok:HOk X.prog X.w H' h')(hg:AllBare g')
  (hch: ∀b∈ch,(b∈X.ex\/X.s₀.heap.objs.size<=b)/\b≠X.env.locals/\(∀x c,X.env.cells.lookup x=some c->c≠b)/\ ∀p∈X.pn++pins,p.1≠b) :
  Inv X pins σ H' {s with heap:=h',gens:=g',drawn:=d',toks:=t'}:=by
 obtain⟨m,⟨o,es,ep,ho,r⟩,_⟩:=id I.loc;obtain⟨sl,hL⟩:=u.any ho I.free λz=>(hch _ z).2.1 rfl
 exact I.step (ch:=ch) hch (λb o hL hb hc e n=>u.keep b o e n (λz=>(aZ.mp<|I.stkSub b z).elim hL hb) hc) (λb o _ _ hc e n=>u.any e n hc) (λb o hc e n=>u.free b o e n hc) (λb o hc e=>u.there b o e hc) u.tups u.frzs u.tbls (λm' hm=>by
  obtain⟨o',es',ep',ho',r'⟩:=hm;rw[ho]at ho';cases ho';exact⟨_,es',ep',hL,r'⟩) hok hg
theorem Inv.turned (I:Inv X pins σ H s)(k: ∀b o,b≠it->s.heap.get? b=some o->h'.get? b=some o)(hn:H it=none)(hL:it≠X.env.locals)
  (h1:it∈X.ex\/X.s₀.heap.objs.size<=it) (h2: ∀x c,X.env.cells.lookup x=some c->c≠it) (h3: ∀p∈X.pn++pins,p.1≠it):Inv X pins σ H {s with heap:=h',toks:=t'}:=by
 have nit: ∀b u,H b=some u->b≠it:=λb u e z=>by rw[z,hn]at e;cases e
 refine I.step (g':=s.gens) (d':=s.drawn) (ch:=[it]) (λb hb=> ?_) (λb o _ _ hc e _=>k b o (λz=>hc (by simp[z])) e) (λb o _ _ hc e _=>⟨o.slots,k b o (λz=>hc (by simp[z])) e⟩) (λ_ _ _ _ n=>n)
  (λb o hc e=>⟨o,k b o (λz=>hc (by simp[z])) e⟩) (λ_ _ e=>e) (λ_ _ _ e=>e) (λb ps e=>⟨#[],by rw[e];simp⟩) (λm hm=> ?_) (λb u e=> ?_) I.bare
 .have e:b=it:=by exists hb
  subst e;exact⟨h1,hL,h2,h3⟩
 .obtain⟨o,es,ep,ho,r⟩:=hm;exact⟨o,es,ep,k _ o (Ne.symm hL) ho,r⟩
 .refine(I.hok b u e).stay (λc v hc q=>k c v ?_ q) (λ_ q=>q) λ_ _ q=>q
  rcases hc with z|z
  .rw[z];exact nit b u e
  .exact nit c _ z
theorem Inv.tok (I:Inv X pins σ H s)(t:Nat):Inv X pins σ H {s with toks:=t}:=I.un (h':=s.heap) (t':=t) Un.refl I.hok
theorem Inv.kept (I:Inv X pins σ H s)(k: ∀b u,s.heap.get? b=some u->h'.get? b=some u):Inv X pins σ H {s with heap:=h',toks:=t'}:=I.un (Un.kept k) (I.hok.kept k)
theorem Inv.laid {o:HO}(I:Inv X pins σ H s)(k: ∀b u,s.heap.get? b=some u->h'.get? b=some u)(hp:s.heap.objs.size<=a)(new:rX X.prog X.w (upd H a o) h' a o) :
  Inv X pins σ (upd H a o) {s with heap:=h',toks:=t'}:=I.un (Un.laid k hp<|I.hok.fresh hp) (I.hok.laid k hp new)
theorem Inv.write {x e:Addr}{o:HO}(I:Inv X pins σ H s)(mu:Mut (H x))(he:e=x\/H e=some (.own x))(k: ∀b u,b≠e->s.heap.get? b=some u->h'.get? b=some u)(heo: ∃u,h'.get? e=some u)
  (new:rX X.prog X.w (upd H x o) h' x o):Inv X pins σ (upd H x o) {s with heap:=h',toks:=t'}:=I.un (Un.write mu he k heo) (I.hok.write mu he k heo new)
theorem Inv.pins_of {pins':List (Addr×Obj)}(I:Inv X pins σ H s)(h: ∀p∈pins',s.heap.get? p.1=some p.2/\H p.1=none/\p.1≠X.env.locals/\p.1 ∉ X.fs/\ ∀v,p.2.data≠ .cell v):Inv X pins' σ H s:=
 ⟨I.ok,I.os,I.bare,I.base,I.loc,I.cell,I.free,I.freeC,λp hp=>(dI.mp hp).elim (λz=>I.pin p (a02 _ z)) (h p),I.hok,I.len⟩
theorem bG1 (hN:N.Nodup)(a:N[i]? =some x)(b:N[j]? =some x):i=j:=by
 obtain⟨h1,e1⟩:=jD.mp a;obtain⟨h2,e2⟩:=jD.mp b;exact(List.getElem_inj hN).mp (e1.trans e2.symm)
theorem d32 {M:Model}{v:V}{Q:Unit->Shared->Prop}(I:Inv X pins σ H s)(hN:X.N.Nodup)(hi:X.N[i]? =some x)(hx:Loc X.env.scope x)(r:RelV v u)
  (h: ∀s',Inv X pins (σ.set i<|some v) H s'->(∃a,SameBut a s.heap s'.heap/\(a=X.env.locals\/X.env.cells.lookup x=some a))->Q () s') (hf:X.fn x=true\/X.env.scope.names.lookup x=some .local:=by walk_at "z"):wpAny M A (storeName X.env x u) Q E s:=by
 obtain⟨m,hn,hl⟩:=id I.loc;have hcls:(X.env.scope.kind== .class||(X.env.scope.kind== .module&&X.env.locals != X.env.globals))=false:=by rw[I.ok.kind];rfl
 have hiσ:i<σ.length:=by rw[I.len];exact(jD.mp hi).1
 have cne:=I.cne;have tracked: ∀{a:Addr} {h':Heap},(∃o,s.heap.get? a=some o/\H a=none)->SameBut a s.heap h'->HOk X.prog X.w H h':=λ{a h'} ha hs b ob e=>by
  obtain⟨_,_,hfree⟩:=ha;refine(I.hok b ob e).stay (λc w' hc q=>(hs.2 c ?_).trans q) (λ_ q=>q) λ_ _ q=>q
  rintro rfl;rcases hc with rfl|hc
  .rw[hfree]at e;cases e
  .rw[hfree]at hc;cases hc
 rcases hx with hk|hk
 .refine wpAny_storeName_local hk hn (λh' hn' hs=> ?_) hcls
  obtain⟨oL,_,_,hoL,_⟩:=id hn;refine h _ ⟨I.ok,I.os,I.bare,⟨λb o e n hb hx=> ?_,λb o e n hb hx=> ?_,I.base.free,λb o e hx=> ?_,I.base.tups,I.base.frzs,I.base.tbls⟩,⟨_,hn',λj y v' e1 e2 e3=> ?_⟩,λy c e=> ?_,I.free,I.freeC,λp hp=> ?_,tracked ⟨oL,hoL,I.free⟩ hs,by exists I.len⟩ ⟨_,hs,.inl rfl⟩
  .exact(hs.2 b<|bK<|b9 (aW e) I.ok.above).trans (I.base.keep b o e n hb hx)
  .obtain⟨sl,e1⟩:=I.base.slot b o e n hb hx;exact⟨sl,(hs.2 b<|bK<|b9 (aW e) I.ok.above).trans e1⟩
  .obtain⟨o',e1⟩:=I.base.there b o e hx;exact⟨o',(hs.2 b<|bK<|b9 (aW e) I.ok.above).trans e1⟩
  .by_cases hj:j=i
   .subst hj;rw[hi]at e1;cases e1;rw[zY hiσ]at e2;cases e2;exact⟨u,r,.inl ⟨hk,ae⟩⟩
   .rw[pY<|Ne.symm hj]at e2;obtain⟨u',r',q⟩:=hl j y v' e1 e2 e3;refine⟨u',r',?_⟩;rcases q with⟨k,e⟩| ⟨k,c,e,z⟩
    .refine .inl ⟨k,?_⟩
     have:y≠x:=λe=>hj (bG1 hN e1<|e▸hi)
     simp[this,e]
    .exact .inr ⟨k,c,e,z.sameBut hs<|cne y c e⟩
  .obtain⟨w',z⟩:=I.cell y c e;exact⟨w',z.sameBut hs<|cne y c e⟩
  .obtain⟨e,n,ne,nf,d⟩:=I.pin p hp;exact⟨(hs.2 p.1 ne).trans e,n,ne,nf,d⟩
 .have hfn:X.fn x=true:=by
   rcases hf with z|z
   .exact z
   .rw[z]at hk;cases hk
  obtain⟨c,hc⟩:=I.ok.has x (.inl hk);obtain⟨w',z⟩:=I.cell x c hc;refine wpAny_storeName_cell I.ok.kind hk hc z (λh' hc' hs=> ?_)
  obtain⟨oc,hoc,hocd⟩:=id z;refine h {s with heap:=h'} ⟨I.ok,I.os,I.bare,⟨λb o e n hb hx=> ?_,λb o e n hb hx=> ?_,I.base.free,λb o e hx=> ?_,I.base.tups,I.base.frzs,I.base.tbls⟩,⟨m,hn.sameBut hs<|Ne.symm<|cne x c hc,λj y v' e1 e2 e3=> ?_⟩,λy c' e=> ?_,I.free,I.freeC,λp hp=> ?_,tracked ⟨oc,hoc,I.freeC x c hc⟩ hs,by exists I.len⟩ ⟨c,hs,.inr hc⟩
  .exact(hs.2 b<|bK<|b9 (aW e)<|I.ok.cab x c hfn hc).trans (I.base.keep b o e n hb hx)
  .obtain⟨sl,e1⟩:=I.base.slot b o e n hb hx;exact⟨sl,(hs.2 b<|bK<|b9 (aW e)<|I.ok.cab x c hfn hc).trans e1⟩
  .obtain⟨o',e1⟩:=I.base.there b o e hx;exact⟨o',(hs.2 b<|bK<|b9 (aW e)<|I.ok.cab x c hfn hc).trans e1⟩
  .by_cases hj:j=i
   .subst hj;rw[hi]at e1;cases e1;rw[zY hiσ]at e2;cases e2;exact⟨u,r,.inr ⟨.inl hk,c,hc,hc'⟩⟩
   .rw[pY<|Ne.symm hj]at e2;obtain⟨u',r',q⟩:=hl j y v' e1 e2 e3;refine⟨u',r',?_⟩;rcases q with q| ⟨k,c',e,z'⟩
    .exact .inl q
    .refine .inr ⟨k,c',e,z'.sameBut hs ?_⟩
     rintro rfl;exact hj (bG1 hN e1<|I.ok.inj _ _ _ e hc▸hi)
  .by_cases hcc:c'=c
   .subst hcc;exact⟨_,hc'⟩
   .obtain⟨w2,z2⟩:=I.cell y c' e;exact⟨w2,z2.sameBut hs hcc⟩
  .obtain⟨e,n,ne,nf,d⟩:=I.pin p hp;refine⟨(hs.2 p.1 ?_).trans e,n,ne,nf,d⟩;intro q;rw[q,hoc]at e;have q':oc=p.2:=iD e;exact d w' (by rw[<-q'];exact hocd)
theorem uQ {M:Model}{v:V}{Q:Unit->Shared->Prop}(I:Inv X pins σ H s)(hN:X.N.Nodup)(hi:X.N[i]? =some x)(hx:Loc X.env.scope x)(r:RelV v u)
  (h: ∀s',Inv X pins (σ.set i<|some v) H s'->Q () s') (hf:X.fn x=true\/X.env.scope.names.lookup x=some .local:=by walk_at "z"):wpAny M A (storeName X.env x u) Q E s:=
 d32 I hN hi hx r (λs' I' _=>h s' I') hf
theorem Inv.call' (I:Inv X pins σ H s)(ho:s'.os=s.os)(u:Un (frs X.stack) ch H H' s.heap s'.heap)(hok:HOk X.prog X.w H' s'.heap)(hg:AllBare s'.gens)
  (hch: ∀b∈ch,(b∈X.ex\/X.s₀.heap.objs.size<=b)/\b≠X.env.locals/\(∀x c,X.env.cells.lookup x=some c->c≠b)/\ ∀p∈X.pn++pins,p.1≠b):Inv X pins σ H' s':=by
 obtain⟨h',g',d',t',o'⟩:=s';have e:o'=s.os:=ho;subst e;exact I.call (g':=g') (t':=t') (d':=d') u hok hg hch
end
abbrev XK:=Value->Option Addr->Hp->Prop
abbrev St:=List (Option V)
abbrev VK:=V->Hp->Prop
abbrev TE:=St->Hp->VK->Prop
abbrev TT:=St->Hp->(Bool->Hp->Prop)->Prop
abbrev TA:=St->Hp->(List V->Hp->Prop)->Prop
structure aW0 where
 nx:St->Hp->Prop
 rt:VK
 bk:St->Hp->Prop:=λ_ _=>False
 ct:St->Hp->Prop:=λ_ _=>False
abbrev TS:=aW0->St->Hp->Prop
def EP (X:Cx)(pins:List (Addr×Obj))(σ:St)(Q:VK)(u:Value)(s':Shared):Prop:= ∃v H',Inv X pins σ H' s'/\RelV v u/\Q v H'
def TP (X:Cx)(pins:List (Addr×Obj))(σ:St)(Q:Bool->Hp->Prop)(b:Bool)(s':Shared):Prop:= ∃H',Inv X pins σ H' s'/\Q b H'
def AP (X:Cx)(pins:List (Addr×Obj))(σ:St)(Q:List V->Hp->Prop)(us:List Value)(s':Shared):Prop:= ∃vs H',Inv X pins σ H' s'/\Vals vs us/\Q vs H'
def SP (X:Cx)(pins:List (Addr×Obj))(D:aW0)(f:Flow)(s':Shared):Prop:=
 match f with
 | .next=> ∃σ' H',Inv X pins σ' H' s'/\D.nx σ' H'
 | .brk=> ∃σ' H',Inv X pins σ' H' s'/\D.bk σ' H'
 | .cont=> ∃σ' H',Inv X pins σ' H' s'/\D.ct σ' H'
 | .ret u=> ∃v σ' H',Inv X pins σ' H' s'/\RelV v u/\D.rt v H'
def PE (X:Cx)(e:Expr)(t:TE):Prop:=
 ∀(pins:List (Addr×Obj)) (s:Shared) (σ:St) (H:Hp) (Q:VK),Inv X pins σ H s->t σ H Q->X∩(eval e X.env) (EP X pins σ Q) X.xe s
def PT (X:Cx)(e:Expr)(t:TT):Prop:=
 ∀(pins:List (Addr×Obj)) (s:Shared) (σ:St) (H:Hp) (Q:Bool->Hp->Prop),Inv X pins σ H s->t σ H Q->X∩(isTrue e X.env<|eval e X.env) (TP X pins σ Q) X.xe s
def PW (X:Cx)(e:Expr)(t:TT):Prop:=
 ∀(whole:Sem Value) (pins:List (Addr×Obj)) (s:Shared) (σ:St) (H:Hp) (Q:Bool->Hp->Prop),Inv X pins σ H s->t σ H Q->X∩(isTrue e X.env whole) (TP X pins σ Q) X.xe s
theorem PW.pt {X:Cx}{t:TT}(h:PW X e t):PT X e t:=h _
def PA (X:Cx)(es:List Expr)(t:TA):Prop:=
 ∀(pos:Pos) (pins:List (Addr×Obj)) (s:Shared) (σ:St) (H:Hp) (Q:List V->Hp->Prop),Inv X pins σ H s->t σ H Q->X∩(spliced<|backTo pos<|starEach es X.env) (AP X pins σ Q) X.xe s
def PS (X:Cx)(st:Stmt)(t:TS):Prop:=
 ∀(pins:List (Addr×Obj)) (s:Shared) (σ:St) (H:Hp) (D:aW0),Inv X pins σ H s->t D σ H->X∩(exec st X.env) (SP X pins D) X.xe s
def PSs (X:Cx)(st:List Stmt)(t:TS):Prop:=
 ∀(pins:List (Addr×Obj)) (s:Shared) (σ:St) (H:Hp) (D:aW0),Inv X pins σ H s->t D σ H->X∩(execs st X.env) (SP X pins D) X.xe s
theorem thn {t:Sem α}{Q Q':α->Shared->Prop}{M:Model}(h:wpAny M A t Q E s)(hQ: ∀a s,Q a s->Q' a s):wpAny M A t Q' E s:=bD h hQ λ_ _ x=>x
section
variable {X:Cx}
def aB0 (i:Nat):TE:=λσ H Q=> ∃v,σ[i]? =some (some v)/\Q v H
def tC (v:V):TE:=λ_ H Q=>Q v H
theorem pe_var (hN:X.N[i]? =some x)(hv:Vis X.env.scope x)(hd:⇑(x∪0))(hcd:⇑((x==("__classdict__":Str))=false)):PE X (.Name x pos) (aB0 i):=by
 intro pins s σ H Q I h;obtain⟨v,e,h⟩:=h;obtain⟨m,hn,hl⟩:=I.loc;obtain⟨u,r,l⟩:=hl i x v hN e hv;have fin:EP X pins σ Q u s:=⟨v,H,I,r,h⟩;rcases l with⟨hk,hm⟩| ⟨hk,c,hc,hcell⟩
 .exact o9 (pZ I.ok.kind hk hn hm fin) hd
 .rcases hk with hk|hk
  .exact o9 (wpAny_loadName_cell I.ok.kind hk hc hcell fin) hd
  .exact o9 (wpAny_loadName_free I.ok.kind hk hc hcell fin hcd) hd
theorem dA4 {i j pos}:PE X (.Constant (.int i) j pos) (tC<|.int i):=λ_ _ _ H _ I h=>wpAny_Constant_int ⟨.int i,H,I.tok _,⟨_,rfl⟩,h⟩
theorem pe_bl {b j pos}:PE X (.Constant (.bool b) j pos) (tC<|.bl b):=λ_ _ _ H _ I h=>Constant_bool ⟨.bl b,H,I,rfl,h⟩
theorem pe_non {j pos}:PE X (.Constant .none j pos) (tC .non):=λ_ _ _ H _ I h=>Constant_none ⟨.non,H,I,rfl,h⟩
theorem pe_str {x j pos}:PE X (.Constant (.str x) j pos) (tC<|.str x):=λ_ _ _ H _ I h=>Calls.Constant_str ⟨.str x,H,I.tok _,⟨_,rfl⟩,h⟩
def Gl (X:Cx)(x:Str):Prop:=X.env.kindOf x=some .globalImplicit
theorem rQ {σ:St}{H:Hp}(I:Inv X pins σ H s)(hg:Gl X x)(hm:X.mg x=some u)(h:Q u s)
  (hd:⇑(x∪0)):X∩(eval (.Name x pos) X.env) Q E s:=
 Calls.Name_function_global I.ok.kind hg (Calls.loadGlobal_global (by rw[I.ok.glob];exact I.mod.glob.keeps I.bk) hm h) hd
theorem sP {σ:St}{H:Hp}(I:Inv X pins σ H s)(hg:Gl X x)(hm:X.mg x=none)(hv:bootBuiltins x=some u)(h:Q u s)
  (hn:⇑(x≠"__name__")) (hd:⇑(x∪0)):X∩(eval (.Name x pos) X.env) Q E s:=by
 obtain⟨mb,h1,h2⟩:=I.mod.blt;exact Calls.Name_function_global I.ok.kind hg (Calls.loadGlobal_builtin (by rw[I.ok.glob];exact I.mod.glob.keeps I.bk) hm (by rw[I.ok.blt];exact h1.keeps I.bk) ((h2 x hn).trans hv) h) hd
theorem bD3 {v:V}(hg:Gl X x)(hm:X.mg x=some u)(r:RelV v u)(hd:⇑(x∪0)):PE X (.Name x pos) (tC v):=
 λ_ _ _ H _ I h=>rQ I hg hm ⟨v,H,I,r,h⟩ hd
theorem dR5 {v:V}(hg:Gl X x)(hm:X.mg x=none)(hv:bootBuiltins x=some u)(r:RelV v u)(hn:⇑(x≠"__name__"))(hd:⇑(x∪0)):PE X (.Name x pos) (tC v):=
 λ_ _ _ H _ I h=>sP I hg hm hv ⟨v,H,I,r,h⟩ hn hd
variable {a b:Expr}{ta tb:TE}{pos:Pos}
def PC (X:Cx)(op:CmpOp)(a b:Expr)(t:TE):Prop:=
 ∀(pins:List (Addr×Obj)) (s:Shared) (σ:St) (H:Hp) (Q:VK),Inv X pins σ H s->t σ H Q->
  X∩(eval a X.env) (λv s₁=>X∩(eval b X.env) (λu s₂=>X∩(compareOp op v u) (EP X pins σ Q) X.xe s₂) X.xe s₁) X.xe s
theorem dA5 (b:Expr)(h:op≠ .In)(h2:op≠ .NotIn):behindInMarks op b=false:=by
 have e1:(op==CmpOp.In)=false:=by cases op<;>first|rfl|exact absurd rfl h
 have e2:(op==CmpOp.NotIn)=false:=by cases op<;>first|rfl|exact absurd rfl h2
 cases b<;>simp[behindInMarks,e1,e2]
def tIsN (ta:TE):TE:=λσ H Q=>ta σ H λx H1=>Q (.bl<|decide (x= .non)) H1
def e39 (ta:TE):TE:=λσ H Q=>ta σ H λx H1=>Q (.bl<|!decide (x= .non)) H1
theorem RelV.none_iff {x:V}(r:RelV x v):(v==Value.none)=decide (x= .non):=by
 cases x with
 | non=>cases r;rfl
 | bl _=>cases r;rfl
 | int _=>obtain⟨t,rfl⟩:=r;rfl
 | str _=>obtain⟨t,rfl⟩:=r;rfl
 | byt _=>obtain⟨t,rfl⟩:=r;rfl
 | flt _=>obtain⟨t,rfl⟩:=r;rfl
 | ref _=>cases r;rfl
 | ty _=>cases r;rfl
theorem pc_isN {j pos'}(ha:PE X a ta):PC X .Is a (.Constant .none j pos') (tIsN ta):=by
 intro pins s σ H Q I h;refine thn (ha pins s σ H _ I h) λv s1 ⟨x,H1,I1,r1,q1⟩=> ?_
 exact Constant_none (is_none_gen ⟨.bl _,H1,I1,by rw[r1.none_iff];rfl,q1⟩)
theorem dR6 {j pos'}(ha:PE X a ta):PC X .IsNot a (.Constant .none j pos') (e39 ta):=by
 intro pins s σ H Q I h;refine thn (ha pins s σ H _ I h) λv s1 ⟨x,H1,I1,r1,q1⟩=> ?_
 exact Constant_none (isnot_none_gen ⟨.bl _,H1,I1,by rw[r1.none_iff];rfl,q1⟩)
def tB (t:TE):TT:=λσ H Q=>t σ H λx H1=> ∃c,x= .bl c/\Q c H1
theorem dA6 {t:TE}(h:PC X op a b t)(h1:behindInMarks op b=false:=by first|exact dA5 _ ac ac|rfl):PT X (.Compare a [op] [b] pos) (tB t):=by
 intro pins s σ H Q I hw;refine wpAny_isTrue_Compare1 (thn (h pins s σ H _ I hw) λv s1 h1=>thn h1 λu s2 h2=>thn h2 λc s3 ⟨x,H1,I1,r1,q1⟩=> ?_) h1
 obtain⟨d,rfl,q⟩:=q1;cases r1;exact qH ⟨H1,I1,q⟩
theorem pt_val {t:TE}(h:PE X e t)(he: ∀whole,isTrue e X.env whole=(do let v<-whole;standAt e.pos;holding [v] (truthy v)):=by intro _;rfl):PT X e (tB t):=by
 intro pins s σ H Q I hw;refine isTrue_plain (thn (h pins s σ H _ I hw) λv s1 ⟨x,H1,I1,r1,q1⟩=> ?_) (he _)
 obtain⟨d,rfl,q⟩:=q1;cases r1;exact qH ⟨H1,I1,q⟩
variable {tA tB':TT}{iS:List Expr}
def tAnd (t u:TT):TT:=λσ H Q=>t σ H λc H1=>if c=true then u σ H1 Q else Q false H1
def tOr (t u:TT):TT:=λσ H Q=>t σ H λc H1=>if c=true then Q true H1 else u σ H1 Q
def tNot (t:TT):TT:=λσ H Q=>t σ H λc H1=>Q (!c) H1
theorem dR7 (ha:PT X a tA):PW X (.BoolOp .And [a] pos) tA:=by
 intro wh pins s σ H Q I h;refine isTrue_and (thn (ha pins s σ H Q I h) λc s1 e=> ?_)
 cases c with
 | true=>exact isTrue_and_nil e
 | false=>exact e
theorem pw_or1 (ha:PT X a tA):PW X (.BoolOp .Or [a] pos) tA:=by
 intro wh pins s σ H Q I h;refine isTrue_or (thn (ha pins s σ H Q I h) λc s1 e=> ?_)
 cases c with
 | false=>exact isTrue_or_nil e
 | true=>exact e
theorem pw_and (ha:PT X a tA)(hb:PW X (.BoolOp .And (b::iS) pos) tB'):PW X (.BoolOp .And (a::b::iS) pos) (tAnd tA tB'):=by
 intro wh pins s σ H Q I h;refine isTrue_and (thn (ha pins s σ H _ I h) λc s1 ⟨H1,I1,q1⟩=> ?_)
 cases c with
 | true=>exact hb wh pins s1 σ H1 Q I1 q1
 | false=>exact⟨H1,I1,q1⟩
theorem pw_or (ha:PT X a tA)(hb:PW X (.BoolOp .Or (b::iS) pos) tB'):PW X (.BoolOp .Or (a::b::iS) pos) (tOr tA tB'):=by
 intro wh pins s σ H Q I h;refine isTrue_or (thn (ha pins s σ H _ I h) λc s1 ⟨H1,I1,q1⟩=> ?_)
 cases c with
 | true=>exact⟨H1,I1,q1⟩
 | false=>exact hb wh pins s1 σ H1 Q I1 q1
theorem pt_not (ha:PT X a tA):PT X (.UnaryOp .Not a pos) (tNot tA):=by
 intro pins s σ H Q I h;exact isTrue_not (ha pins s σ H (λc H1=>Q (!c) H1) I h)
def tAndV (ta tb:TE):TE:=λσ H Q=>ta σ H λx H1=> ∃c,x= .bl c/\if c=true then tb σ H1 Q else Q (.bl false) H1
def tNotV (ta:TE):TE:=λσ H Q=>ta σ H λx H1=> ∃c,x= .bl c/\Q (.bl<|!c) H1
theorem pe_one {op}{t:TE}(h:PE X a t):PE X (.BoolOp op [a] pos) t:=λpins s σ H Q I hw=>BoolOp_one (h pins s σ H Q I hw)
theorem pe_and (ha:PE X a ta)(hb:PE X (.BoolOp .And (b::iS) pos) tb):PE X (.BoolOp .And (a::b::iS) pos) (tAndV ta tb):=by
 intro pins s σ H Q I h;refine BoolOp_and (thn (ha pins s σ H _ I h) λv s1 ⟨x,H1,I1,r1,q1⟩=> ?_)
 obtain⟨c,rfl,q1⟩:=q1;cases r1;refine qH ?_;cases c with
 | true=>exact hb pins s1 σ H1 Q I1 q1
 | false=>exact⟨.bl false,H1,I1,rfl,q1⟩
theorem pe_not (ha:PE X a ta):PE X (.UnaryOp .Not a pos) (tNotV ta):=by
 intro pins s σ H Q I h;refine UnaryOp_ (thn (ha pins s σ H _ I h) λv s1 ⟨x,H1,I1,r1,q1⟩=> ?_)
 obtain⟨c,rfl,q1⟩:=q1;cases r1;exact not_of (qH ⟨.bl<|!c,H1,I1,rfl,q1⟩)
def tIf (t:TT)(ta tb:TE):TE:=λσ H Q=>t σ H λc H1=>if c=true then ta σ H1 Q else tb σ H1 Q
theorem dA7 (hc:PT X c tA)(ha:PE X a ta)(hb:PE X b tb):PE X (.IfExp c a b pos) (tIf tA ta tb):=by
 intro pins s σ H Q I h;refine wpAny_IfExp (thn (hc pins s σ H _ I h) λd s1 ⟨H1,I1,q1⟩=> ?_)
 cases d with
 | true=>exact ha pins s1 σ H1 Q I1 q1
 | false=>exact hb pins s1 σ H1 Q I1 q1
end
def SqL (K:PySem.W.Frag)(H:Hp)(a:Addr)(xs:List V):Prop:=
 Rd H a (.lst xs)\/
  ∃(o:Obj) (its:Array Value) (n:Nat),K.lookup a=some o/\o.cls= .type "list"/\o.dict=none/\o.data= .seq its n/\its.size<=sizeLine/\Vals xs its.toList
def SqT (K:PySem.W.Frag)(H:Hp)(a:Addr)(xs:List V):Prop:=
 Rd H a (.tup xs)\/
  ∃(o:Obj) (its:Array Value) (n:Nat),K.lookup a=some o/\o.cls= .type "tuple"/\o.data= .seq its n/\its.size<=sizeLine/\Vals xs its.toList
nonrec def absV:Value->Option V
 | .none=>some .non
 | .bool b=>some (.bl b)
 | .int i _=>some (.int i)
 | .str x _=>some (.str x)
 | .bytes b _=>some (.byt b)
 | .float b _=>some (.flt b)
 | .ref a=>some (.ref a)
 | .type n=>some (.ty n)
 | _=>none
theorem RelV.abs {x:V}(r:RelV x u):absV u=some x:=by
 cases x with
 | non=>cases r;rfl
 | bl _=>cases r;rfl
 | int _=>obtain⟨t,rfl⟩:=r;rfl
 | str _=>obtain⟨t,rfl⟩:=r;rfl
 | byt _=>obtain⟨t,rfl⟩:=r;rfl
 | flt _=>obtain⟨t,rfl⟩:=r;rfl
 | ref _=>cases r;rfl
 | ty _=>cases r;rfl
theorem RelV.inj {x y:V}(r:RelV x u)(q:RelV y u):x=y:=iD (r.abs.symm.trans q.abs)
theorem Vals.inj: ∀{xs ys:List V} {us:List Value},Vals xs us->Vals ys us->xs=ys
 | _,_,_,.nil,.nil=>rfl
 | _,_,_,.cons r t,.cons r' t'=>by rw[r.inj r',Vals.inj t t']
section
variable {X:Cx}{pins:List (Addr×Obj)}{σ:St}{H:Hp}{s:Shared}{a:Addr}{xs ys:List V}
theorem SqL.of (h:H a=some (.lst xs)):SqL K H a xs:= .inl (.inl h)
theorem Inv.list (I:Inv X pins σ H s)(h:SqL X.K H a xs): ∃its:List Value,Vals xs its/\PlainL s.heap a its.toArray/\xs.length<=sizeLine:=by
 rcases h with h| ⟨o,its,n,hk,hc,hd,hs,hz,r⟩
 .obtain⟨z,its,n,r,e⟩:=h.ok I.hok;exact⟨its,r,⟨_,n,e,rfl,rfl,rfl⟩,z⟩
 .refine⟨its.toList,r,⟨o,n,I.kIn a o hk,hc,hd,by exists hs⟩,?_⟩
  have e:=r.length;simp only[aP6]at e
  lia
theorem Inv.tuple (I:Inv X pins σ H s)(h:SqT X.K H a xs): ∃its:List Value,Vals xs its/\IsTup s.heap a its.toArray/\xs.length<=sizeLine:=by
 rcases h with h| ⟨o,its,n,hk,hc,hs,hz,r⟩
 .obtain⟨z,its,r,p⟩:=h.ok I.hok;exact⟨its,r,p,z⟩
 .refine⟨its.toList,r,⟨o,I.kIn a o hk,hc,n,by exists hs⟩,?_⟩
  have e:=r.length;simp only[aP6]at e
  lia
theorem Inv.list_inj (I:Inv X pins σ H s)(h:SqL X.K H a xs)(h':SqL X.K H a ys):xs=ys:=by
 obtain⟨its,r,⟨o,n,e,_,_,d⟩,_⟩:=I.list h;obtain⟨its',r',⟨o',n',e',_,_,d'⟩,_⟩:=I.list h';rw[e]at e';cases e';rw[d]at d'
 injection d' with d1 _
 have:its=its':=by simpa using dZ toList d1
 subst this;exact r.inj r'
theorem Inv.tuple_inj (I:Inv X pins σ H s)(h:SqT X.K H a xs)(h':SqT X.K H a ys):xs=ys:=by
 obtain⟨its,r,⟨o,e,_,n,d⟩,_⟩:=I.tuple h;obtain⟨its',r',⟨o',e',_,n',d'⟩,_⟩:=I.tuple h';rw[e]at e';cases e';rw[d]at d'
 injection d' with d1 _
 have:its=its':=by simpa using dZ toList d1
 subst this;exact r.inj r'
end
noncomputable abbrev Cx.wish (X:Cx)(E:Value->Shared->Prop):Cx:={X with xe:=E}
noncomputable abbrev Cx.nox (X:Cx):Cx:=X.wish λ_ _=>False
theorem Cx.Ok.wish {X:Cx}(ok:X.Ok)(E:Value->Shared->Prop):(X.wish E).Ok:=
 ⟨ok.mod,ok.kind,ok.glob,ok.blt,ok.above,ok.inj,ok.has,ok.cab,ok.hd,ok.frames,ok.stk,ok.exf,ok.bs,ok.bsz,ok.noex,ok.exfs,ok.funs,ok.frf⟩
theorem Cx.Ok.unwish {X:Cx}(ok:(X.wish E).Ok):X.Ok:=
 ⟨ok.mod,ok.kind,ok.glob,ok.blt,ok.above,ok.inj,ok.has,ok.cab,ok.hd,ok.frames,ok.stk,ok.exf,ok.bs,ok.bsz,ok.noex,ok.exfs,ok.funs,ok.frf⟩
section
variable {X:Cx}{pins:List (Addr×Obj)}{σ:St}{H:Hp}{s:Shared}{E:Value->Shared->Prop}
theorem Inv.wish (I:Inv X pins σ H s)(E:Value->Shared->Prop):Inv (X.wish E) pins σ H s:=⟨I.ok.wish E,I.os,I.bare,I.base,I.loc,I.cell,I.free,I.freeC,I.pin,I.hok,I.len⟩
theorem Inv.unwish (I:Inv (X.wish E) pins σ H s):Inv X pins σ H s:=⟨I.ok.unwish,I.os,I.bare,I.base,I.loc,I.cell,I.free,I.freeC,I.pin,I.hok,I.len⟩
theorem SP.unwish {D:aW0}{f:Flow}(h:SP (X.wish E) pins D f s'):SP X pins D f s':=by
 cases f with
 | next=>obtain⟨σ',H',I,q⟩:=h;exact⟨σ',H',I.unwish,q⟩
 | brk=>obtain⟨σ',H',I,q⟩:=h;exact⟨σ',H',I.unwish,q⟩
 | cont=>obtain⟨σ',H',I,q⟩:=h;exact⟨σ',H',I.unwish,q⟩
 | ret u=>obtain⟨v,σ',H',I,r,q⟩:=h;exact⟨v,σ',H',I.unwish,r,q⟩
theorem PSs.nox {st:List Stmt}{t:TS}(h:PSs X.nox st t):PSs X st t:=λpins s σ H D I hw=>
 bD (h pins s σ H D (I.wish _) hw) (λ_ _ q=>q.unwish) λ_ _ z=>False.elim z
end
section
variable {X:Cx}{st:Stmt}{iS:List Stmt}{t u:TS}{e:Expr}{te:TE}{pos:Pos}
def tNext:TS:=λD σ H=>D.nx σ H
def tSeq (t u:TS):TS:=λD σ H=>t {D with nx:=u D} σ H
theorem dR8:PSs X [] tNext:=λ_ _ σ H _ I h=>kN ⟨σ,H,I,h⟩
theorem yJ (h1:PS X st t)(h2:PSs X iS u):PSs X (st::iS) (tSeq t u):=by
 intro pins s σ H D I h;refine qJ (thn (h1 pins s σ H {D with nx:=u D} I h) λf s1 q=> ?_)
 cases f with
 | next=>
  obtain⟨σ',H',I',q⟩:=q;exact h2 pins s1 σ' H' D I' q
 | ret v=>exact q
 | brk=>exact q
 | cont=>exact q
theorem c36 (h1:PS X st t):PSs X [st] t:=by
 intro pins s σ H D I h;refine qJ (thn (h1 pins s σ H D I h) λf s1 q=> ?_)
 cases f with
 | next=>exact kN q
 | ret v=>exact q
 | brk=>exact q
 | cont=>exact q
theorem Inv.quiet {σ:St}{H:Hp}(I:Inv X pins σ H s):interactive X.env=false:=by simp[interactive,I.ok.kind]
def tDrop (te:TE):TS:=λD σ H=>te σ H λ_ H1=>D.nx σ H1
theorem bD4 (he:PE X e te)(hs:↥(swapsWith e none pos.line X.env=pure false)):PS X (.Expr e pos) (tDrop te):=by
 intro pins s σ H D I h;exact wpAny_Expr_any (thn (he pins s σ H _ I h) λv s1 ⟨x,H1,I1,r1,q1⟩=>⟨σ,H1,I1,q1⟩) I.quiet hs
def tRet (te:TE):TS:=λD σ H=>te σ H D.rt
theorem dA8 (he:PE X e te):PS X (.Return (some e) pos) (tRet te):=by
 intro pins s σ H D I h;exact wpAny_Return_some (thn (he pins s σ H _ I h) λv s1 ⟨x,H1,I1,r1,q1⟩=>⟨x,σ,H1,I1,r1,q1⟩)
def tIfS (c:TT)(t u:TS):TS:=λD σ H=>c σ H λb H1=>if b=true then t D σ H1 else u D σ H1
theorem e40 {a b:List Stmt}{tc:TT}(hc:PT X c tc)(ha:PSs X a t)(hb:PSs X b u):PS X (.If c a b pos) (tIfS tc t u):=by
 intro pins s σ H D I h;refine wpAny_If (thn (hc pins s σ H _ I h) λd s1 ⟨H1,I1,q1⟩=> ?_)
 cases d with
 | true=>exact ha pins s1 σ H1 D I1 q1
 | false=>exact hb pins s1 σ H1 D I1 q1
def tNever:TS:=λ_ _ _=>False
theorem dA9:PS X st tNever:=λ_ _ _ _ _ _ h=>h.elim
end
abbrev TG:=V->St->Hp->(St->Hp->Prop)->Prop
abbrev TGs:=List V->St->Hp->(St->Hp->Prop)->Prop
def PG (X:Cx)(target:Expr)(t:TG):Prop:=
 ∀(pins:List (Addr×Obj)) (s:Shared) (σ:St) (H:Hp) (v:V) (u:Value) (Q:St->Hp->Prop),Inv X pins σ H s->RelV v u->t v σ H Q->
  X∩(assign target X.env u) (λ_ s'=> ∃σ' H',Inv X pins σ' H' s'/\Q σ' H') X.xe s
def PGs (X:Cx)(ts:List Expr)(t:TGs):Prop:=
 ∀(pins:List (Addr×Obj)) (s:Shared) (σ:St) (H:Hp) (vs:List V) (us:List Value) (Q:St->Hp->Prop),Inv X pins σ H s->Vals vs us->t vs σ H Q->
  X∩(assignInOrder ((assignEach ts X.env).map (·.2)) us) (λ_ s'=> ∃σ' H',Inv X pins σ' H' s'/\Q σ' H') X.xe s
abbrev dB0:=V->V->V->Hp->(Hp->Prop)->Prop
def PSet (X:Cx)(t:dB0):Prop:=
 ∀(pins:List (Addr×Obj)) (s:Shared) (σ:St) (H:Hp) (o i v:V) (ov iv u:Value) (Q:Hp->Prop),Inv X pins σ H s->RelV o ov->RelV i iv->RelV v u->t o i v H Q->
  X∩(setItem ov iv u) (λ_ s'=> ∃H',Inv X pins σ H' s'/\Q H') X.xe s
abbrev TIp:=V->V->Hp->VK->Prop
def PIp (X:Cx)(op:Operator)(t:TIp):Prop:=
 ∀(pins:List (Addr×Obj)) (s:Shared) (σ:St) (H:Hp) (x y:V) (v u:Value) (Q:VK),Inv X pins σ H s->RelV x v->RelV y u->t x y H Q->
  X∩(inplaceOp op v u) (EP X pins σ Q) X.xe s
section
variable {X:Cx}{pos:Pos}
def a91 (i:Nat):TG:=λv σ H Q=>Q (σ.set i<|some v) H
theorem cG (hN:X.N.Nodup)(hi:X.N[i]? =some x)(hx:Loc X.env.scope x)(hf:X.fn x=true\/X.env.scope.names.lookup x=some .local:=by walk_at "z"):PG X (.Name x pos) (a91 i):=by
 intro pins s σ H v u Q I r h;exact wpAny_assign_Name (uQ I hN hi hx r (λs' I'=>⟨_,H,I',h⟩) hf)
def gNil:TGs:=λvs σ H Q=>vs=[]/\Q σ H
def gCons (t:TG)(u:TGs):TGs:=λvs σ H Q=> ∃v r,vs=v::r/\t v σ H λσ' H'=>u r σ' H' Q
theorem dR9:PGs X [] gNil:=by
 intro pins s σ H vs us Q I r h;obtain⟨e,h⟩:=h;subst e;cases r;exact assignInOrder_nil ⟨σ,H,I,h⟩
theorem dB1 {e:Expr}{es:List Expr}{t:TG}{u:TGs}(h1:PG X e t)(h2:PGs X es u)
  (hs:↥((assignEach (e::es) X.env).map (·.2)=assign e X.env::(assignEach es X.env).map (·.2))):PGs X (e::es) (gCons t u):=by
 intro pins s σ H vs us Q I r h;obtain⟨v,vr,e1,h⟩:=h;subst e1;cases r with
 | cons r rr=>
  rw[hs];refine aP9 (thn (h1 pins s σ H _ _ _ I r h) λ_ s1 ⟨σ1,H1,I1,q1⟩=> ?_)
  exact h2 pins s1 σ1 H1 _ _ Q I1 rr q1
def gTup (K:PySem.W.Frag)(n:Nat)(t:TGs):TG:=λv σ H Q=> ∃a xs,v= .ref a/\SqT K H a xs/\xs.length=n/\t xs σ H Q
theorem pg_tup {t:TGs}(hc:X.calm=true)(h:PGs X es t)
  (hn:↥((assignEach es X.env).length=n)) (hst:↥((assignEach es X.env).findIdx? (·.1)=none)):PG X (.Tuple es k pos) (gTup X.K n t):=by
 intro pins s σ H v u Q I r hw;obtain⟨a,xs,e1,hq,hl,hw⟩:=hw;subst e1;cases r;obtain⟨its,rv,ht,hz⟩:=I.tuple hq;refine assign_Tuple_tuple (I.ok.hd hc) ht (by simp[hn,<-hl,rv.length]) hst λh' hx=> ?_
 have I1:Inv X pins σ H {s with heap:=h'}:=I.kept (t':=s.toks) λb o e=>hx b o (bK<|aW e) e
 exact h pins _ σ H xs _ Q I1 (by exists rv) hw
def gSub (to ti:TE)(t:dB0):TG:=λv σ H Q=>to σ H λo H1=>ti σ H1 λi H2=>t o i v H2 λH3=>Q σ H3
theorem pg_sub {o i:Expr}{to ti:TE}{t:dB0}(ho:PE X o to)(hi:PE X i ti)(hs:PSet X t)
  (ha: ∀v,assign (.Subscript o i pos) X.env v=(do
   let ov<-holding [v] (eval o X.env)
   let iv<-holding [v,ov] (eval i X.env)
   standAt pos
   holding [v,ov,iv] (setItem ov iv v)
   release [v,ov,iv] []):=by intro _;rfl):PG X (.Subscript o i pos) (gSub to ti t):=by
 intro pins s σ H v u Q I r h;rw[ha];refine aA (gG<|thn (ho pins s σ H _ I h) λov s1 ⟨x,H1,I1,r1,q1⟩=> ?_)
 refine aA (gG<|thn (hi pins s1 σ H1 _ I1 q1) λiv s2 ⟨y,H2,I2,r2,q2⟩=> ?_)
 refine aA (kP<|aA<|gG<|thn (hs pins s2 σ H2 x y v ov iv u _ I2 r1 r2 r q2) λ_ s3 ⟨H3,I3,q3⟩=> ?_)
 exact wpAny_release ⟨σ,H3,I3,q3⟩
def dS0 (te:TE)(g:TG):TS:=λD σ H=>te σ H λx H1=>g x σ H1 D.nx
theorem dB2 {te:TE}{g:TG}(he:PE X e te)(hg:PG X tg g)(hs:↥(swapsWithSole [tg] e pos.line X.env=pure false))(hw:↥(swappedStores [tg] e X.env=pure none))
  (h1:↥((assignEach [tg] X.env).map (·.2)=[assign tg X.env])):PS X (.Assign [tg] e pos) (dS0 te g):=by
 intro pins s σ H D I h;refine wpAny_Assign_stores (thn (he pins s σ H _ I h) λv s1 ⟨x,H1,I1,r1,q1⟩=> ?_) hs hw
 rw[h1];exact thn (hg pins s1 σ H1 x v _ I1 r1 q1) λ_ s2 q=>q
theorem ps_set {te:TE}(hN:X.N.Nodup)(hi:X.N[i]? =some x)(hx:Loc X.env.scope x)(he:PE X e te)(hs:↥(swapsWith e (some<|.Name x pos') pos.line X.env=pure false))(hf:X.fn x=true\/X.env.scope.names.lookup x=some .local:=by walk_at "z") :
  PS X (.Assign [.Name x pos'] e pos) (dS0 te<|a91 i):=by
 intro pins s σ H D I h;refine wpAny_Assign_Name (thn (he pins s σ H _ I h) λv s1 ⟨y,H1,I1,r1,q1⟩=> ?_) hs
 exact uQ I1 hN hi hx r1 (λs2 I2=>⟨_,H1,I2,q1⟩) hf
def tPar (i j:Nat)(ta:TA):TS:=λD σ H=>ta σ H λvs H1=> ∃v w,vs=[v,w]/\D.nx ((σ.set i<|some v).set j<|some w) H1
theorem ps_par {a b:Expr}{ta:TA}{px pt:Pos}{kt k2 pt2}(hc:X.calm=true)(hN:X.N.Nodup)(hi:X.N[i]? =some x)(hj:X.N[j]? =some y)(hij:i≠j)
  (hx:X.env.scope.names.lookup x=some .local) (hy:X.env.scope.names.lookup y=some .local) (ha:PA X [a,b] ta)
  (hw:swappedStores [.Tuple [.Name x px,.Name y py] kt pt] (.Tuple [a,b] k2 pt2) X.env=pure (some [x,y]))
  (hs:↥(swapsWithSole [.Tuple [.Name x px,.Name y py] kt pt] (.Tuple [a,b] k2 pt2) pos.line X.env=pure false)) :
  PS X (.Assign [.Tuple [.Name x px,.Name y py] kt pt] (.Tuple [a,b] k2 pt2) pos) (tPar i j ta):=by
 intro pins s σ H D I h;rw[exec_Assign_arm];refine aA (kP ?_);rw[hs];refine aA (aL ?_);rw[a7 ac]
 refine aA (Tuple_<|thn (ha _ pins s σ H _ I h) λus s1 ⟨vs,H1,I1,r1,q1⟩=> ?_)
 obtain⟨v,w,e1,q1⟩:=q1;subst e1;obtain⟨u1,u2,rfl,rv,rw'⟩: ∃u1 u2,us=[u1,u2]/\RelV v u1/\RelV w u2:=by
  cases r1 with
  | cons p q=>
   cases q with
   | cons p' q'=>
    cases q';exact⟨_,_,rfl,p,p'⟩
 refine jG ?_ (by show 2<=sizeLine;decide)
 have I2:Inv X pins σ H1 {s1 with heap:=s1.heap.push {cls:= .type "tuple",data:= .seq [u1,u2].toArray}}:=I1.kept (t':=s1.toks) λb o e=>aV _ e
 rw[hw];refine aA (aL ?_);show X∩(do rule "assign.swapped-stores";let items<-unpackItems (.ref s1.heap.objs.size) 2 none;assignInOrder [λv=>bindName X.env y v,λv=>bindName X.env x v] items.reverse;pure Flow.next) _ _ _
 refine aA (lW<|aA<|unpackItems_tuple (items:= #[u1,u2]) (I.ok.hd hc) (qT s1.heap _) λh' hx'=> ?_)
 have I3:=I2.kept (h':=h') (t':=s1.toks) λb o e=>hx' b o (bK<|aW e) e
 show wpAny _ _ (assignInOrder [λv=>bindName X.env y v,λv=>bindName X.env x v] [u2,u1] >>= λ_=>pure Flow.next) _ _ _
 refine aA (aP9<|wpAny_bindName<|uQ I3 hN hj (.inl hy) rw' (λs2 I4=> ?_)<|.inr hy)
 refine aP9 (wpAny_bindName<|uQ I4 hN hi (.inl hx) rv (λs3 I5=>assignInOrder_nil (aL ?_))<|.inr hx)
 rw[List.set_comm _ _<|Ne.symm hij]at I5;exact⟨_,H1,I5,q1⟩
def tAug (i:Nat)(te:TE)(ti:TIp):TS:=λD σ H=> ∃x,σ[i]? =some (some x)/\te σ H λy H1=>ti x y H1 λz H2=>D.nx (σ.set i<|some z) H2
theorem ps_aug {te:TE}{op:Operator}{ti:TIp}(hN:X.N.Nodup)(hi:X.N[i]? =some x)(hx:Loc X.env.scope x)(he:PE X e te)(ho:PIp X op ti)(hf:X.fn x=true\/X.env.scope.names.lookup x=some .local:=by walk_at "z") :
  PS X (.AugAssign (.Name x pos') op e pos) (tAug i te ti):=by
 intro pins s σ H D I h;obtain⟨v,e1,h⟩:=h;obtain⟨m,hn,hl⟩:=I.loc;have vis:Vis X.env.scope x:=by rcases hx with k|k;exact .inl k;exact .inr (.inl k)
 obtain⟨u,r,l⟩:=hl i x v hi e1 vis;refine wpAny_AugAssign_Name ?_;have go:X∩(eval e X.env) (λw s₂=>X∩(inplaceOp op u w) (λr s₃=>X∩(storeName X.env x r) (λ_=>SP X pins D .next) X.xe s₃) X.xe s₂) X.xe s:=by
  refine thn (he pins s σ H _ I h) λw s1 ⟨y,H1,I1,r1,q1⟩=> ?_
  refine thn (ho pins s1 σ H1 v y u w _ I1 r r1 q1) λz s2 ⟨zv,H2,I2,r2,q2⟩=> ?_
  exact uQ I2 hN hi hx r2 (λs3 I3=>⟨_,H2,I3,q2⟩) hf
 rcases l with⟨hk,hm⟩| ⟨hk,c,hc,hcell⟩
 .exact pZ I.ok.kind hk hn hm go
 .rcases hk with hk|hk
  .exact wpAny_loadName_cell I.ok.kind hk hc hcell go
  .rcases hx with k|k
   .have:X.env.scope.names.lookup x=some .free:=hk;rw[k]at this;cases this
   .have:X.env.scope.names.lookup x=some .free:=hk;rw[k]at this;cases this
def tAugS (to ti te:TE)(tget:V->V->Hp->VK->Prop)(tip:TIp)(tset:dB0):TS:=λD σ H=>to σ H λo H1=>ti σ H1 λi H2=>tget o i H2 λx H3=>te σ H3 λy H4=>tip x y H4 λz H5=>tset o i z H5 λH6=>D.nx σ H6
def PGet (X:Cx)(t:V->V->Hp->VK->Prop):Prop:=
 ∀(pins:List (Addr×Obj)) (s:Shared) (σ:St) (H:Hp) (o i:V) (ov iv:Value) (Q:VK),Inv X pins σ H s->RelV o ov->RelV i iv->t o i H Q->
  X∩(getItem ov iv) (EP X pins σ Q) X.xe s
theorem dS1 {o i:Expr}{to ti te:TE}{tget:V->V->Hp->VK->Prop}{tip:TIp}{tset:dB0}{op:Operator}(ho:PE X o to)(hi:PE X i ti)(hg:PGet X tget)(he:PE X e te)(hp:PIp X op tip)(hs:PSet X tset)
  (ha: ∀ov iv new,augStore i ov iv new=(do holding [new,ov,iv] (setItem ov iv new);release [new,ov,iv] [];pure .next):=by intros;rfl):PS X (.AugAssign (.Subscript o i tpos) op e pos) (tAugS to ti te tget tip tset):=by
 intro pins s σ H D I h;refine wpAny_AugAssign_SubscriptAny (thn (ho pins s σ H _ I h) λov s1 ⟨x1,H1,I1,r1,q1⟩=> ?_) ha
 refine thn (hi pins s1 σ H1 _ I1 q1) λiv s2 ⟨x2,H2,I2,r2,q2⟩=> ?_
 refine thn (hg pins s2 σ H2 x1 x2 ov iv _ I2 r1 r2 q2) λold s3 ⟨x3,H3,I3,r3,q3⟩=> ?_
 refine thn (he pins s3 σ H3 _ I3 q3) λv s4 ⟨x4,H4,I4,r4,q4⟩=> ?_
 refine thn (hp pins s4 σ H4 x3 x4 old v _ I4 r3 r4 q4) λnew s5 ⟨x5,H5,I5,r5,q5⟩=> ?_
 exact thn (hs pins s5 σ H5 x1 x2 x5 ov iv new _ I5 r1 r2 r5 q5) λ_ s6 ⟨H6,I6,q6⟩=>⟨σ,H6,I6,q6⟩
def ipI (f:Int->Int->Int):TIp:=λx y H Q=> ∃i j,x= .int i/\y= .int j/\Q (.int<|f i j) H
theorem ip_add:PIp X .Add (ipI λi j=>i+j):=by
 intro pins s σ H x y v u Q I r1 r2 h;obtain⟨i,j,e1,e2,q⟩:=h;subst e1;subst e2;obtain⟨t,rfl⟩:=r1;obtain⟨t',rfl⟩:=r2;exact iadd_int ⟨.int _,H,I.tok _,⟨_,rfl⟩,q⟩
theorem dB3:PIp X .Sub (ipI λi j=>i-j):=by
 intro pins s σ H x y v u Q I r1 r2 h;obtain⟨i,j,e1,e2,q⟩:=h;subst e1;subst e2;obtain⟨t,rfl⟩:=r1;obtain⟨t',rfl⟩:=r2;exact isub_int ⟨.int _,H,I.tok _,⟨_,rfl⟩,q⟩
end
section
variable {X:Cx}{pos:Pos}
def tWhile (c:TT)(tb:TS):TS:=λD σ H=> ∃W:Nat->St->Hp->Prop,(∃m,W m σ H)/\ ∀m σ H,W m σ H->
 c σ H λb H1=>if b=true then ∃N:St->Hp->Prop,(∀σ' H',N σ' H'-> ∃m',m'<m/\W m' σ' H')/\tb {D with nx:=N,ct:=N,bk:=D.nx} σ H1 else D.nx σ H1
theorem dB4 {tc:TT}{tb:TS}(hp:PassesOwn (model X.prog X.w) X.A X.env X.xe)(hc:PT X c tc)(hb:PSs X body tb):PS X (.While c body [] pos) (tWhile tc tb):=by
 intro pins s σ H D I h;obtain⟨W,⟨m0,w0⟩,turn⟩:=h;refine wpAny_While (codeAny_whileLoop (λn s'=> ∃σ' H',Inv X pins σ' H' s'/\W n σ' H') ?_ m0 ⟨σ,H,I,w0⟩)
 rintro n s1 ⟨σ1,H1,I1,w1⟩;refine nV hp (thn (hc pins s1 σ1 H1 _ I1<|turn n σ1 H1 w1) λb s2 ⟨H2,I2,q2⟩=> ?_)
 cases b with
 | true=>
  obtain⟨N,hN,q2⟩:=q2;rw[a9 rfl];refine nV hp (thn (hb pins s2 σ1 H2 _ I2 q2) λf s3 q3=> ?_)
  cases f with
  | next=>
   obtain⟨σ3,H3,I3,n3⟩:=q3;obtain⟨m',hm,w3⟩:=hN σ3 H3 n3;exact⟨m',hm,σ3,H3,I3,w3⟩
  | cont=>
   obtain⟨σ3,H3,I3,n3⟩:=q3;obtain⟨m',hm,w3⟩:=hN σ3 H3 n3;exact⟨m',hm,σ3,H3,I3,w3⟩
  | brk=>exact q3
  | ret v=>exact q3
 | false=>
  rw[a7 bN];exact kN ⟨σ1,H2,I2,q2⟩
end
structure It where
 go:Nat->Hp->Prop
 yld:Nat->Hp->V->Hp->Prop
 stop:Nat->Hp->Prop
def aR9 (X:Cx)(pins:List (Addr×Obj))(H:Hp)(b:Addr):Prop:=
 H b=none/\b≠X.env.locals/\b ∉ X.fs/\(b∈X.ex\/X.s₀.heap.objs.size<=b)/\(∀x c,X.env.cells.lookup x=some c->c≠b)/\ ∀p∈X.pn++pins,p.1≠b
theorem Inv.fpOk {X:Cx}{σ:St}{H H':Hp}(I:Inv X pins σ H s)(hb:s.heap.objs.size<=b)(hn:H' b=none):aR9 X pins H' b:=by
 refine⟨hn,qP<|b9 I.lt hb,I.nofs hb,.inr<|aJ I.sz hb,λx c e z=> ?_,λp hp z=> ?_⟩
 .obtain⟨v,q⟩:=I.cell x c e;exact absurd (b9 q.lt (by rw[z];exact hb)) (dJ _)
 .exact absurd (b9 (aW (I.pin p hp).1) (by rw[z];exact hb)) (dJ _)
structure c37 (P:Program)(w:World)(K:PySem.W.Frag)(tg:Expr)(J:It)(fp:List Addr)(it:Addr)(tn:Nat->Heap->Prop):Prop where
 mem:it∈fp
 obj: ∀i h,tn i h-> ∀b∈fp,∃o,h.get? b=some o/\ ∀v,o.data≠ .cell v
 keep: ∀i h h',tn i h->(∀b∈fp,∀o,h.get? b=some o->h'.get? b=some o)->tn i h'
 item: ∀(X:Cx),X.prog=P->X.w=w->X.K=K->X.calm=true-> ∀(i:Nat) (pins:List (Addr×Obj)) (s:Shared) (σ:St) (H:Hp) (E:Value->Shared->Prop),Inv X pins σ H s->(∀b∈fp,aR9 X pins H b)->tn i s.heap->J.go i H->
  wpAny (model P w) X.A (pyNext<|.ref it) (λr s1=> ∃u,r=some u/\
   wpAny (model P w) X.A (letOwnedTupleGo tg (.ref it) u) (λ_ s2=> ∃x H',Inv X pins σ H' s2/\RelV x u/\J.yld i H x H'/\tn (i+1) s2.heap/\ ∀b∈fp,H' b=none) E s1) E s
 done: ∀(X:Cx),X.prog=P->X.w=w->X.K=K->X.calm=true-> ∀(i:Nat) (pins:List (Addr×Obj)) (s:Shared) (σ:St) (H:Hp) (E:Value->Shared->Prop),Inv X pins σ H s->(∀b∈fp,aR9 X pins H b)->tn i s.heap->J.stop i H->
  wpAny (model P w) X.A (pyNext<|.ref it) (λr s1=>r=none/\Inv X pins σ H s1) E s
 self: ∀(A:Around) (i:Nat) (s:Shared) (Q:Value->Shared->Prop) (E:Value->Shared->Prop),tn i s.heap->Q (.ref it) s->wpAny (model P w) A (pyIter<|.ref it) Q E s
abbrev TI:=St->Hp->(It->Hp->Prop)->Prop
def PIE (X:Cx)(pins:List (Addr×Obj))(σ:St)(tg:Expr)(R:It->Hp->Prop)(itv:Value)(s2:Shared):Prop:=
 ∃(it:Addr) (fp:List Addr) (tn:Nat->Heap->Prop) (J:It) (H':Hp),itv= .ref it/\Inv X pins σ H' s2/\c37 X.prog X.w X.K tg J fp it tn/\tn 0 s2.heap/\(∀b∈fp,aR9 X pins H' b)/\R J H'
def PI (X:Cx)(tg iter:Expr)(wi:TI):Prop:=
 ∀(pins:List (Addr×Obj)) (s:Shared) (σ:St) (H:Hp) (R:It->Hp->Prop),Inv X pins σ H s->wi σ H R->
  X∩(eval iter X.env) (λv s1=>X∩(pyIter v) (PIE X pins σ tg R) X.xe s1) X.xe s
theorem bV4 {M:Model}{n:String}{Q:Unit->Shared->Prop}(ho:s.heap.get? it=some o)(hc:o.cls= .type n)(hd:o.data= .fields vs)
  (hn:["enumerate","zip","dict_itemiterator","dict_reverseitemiterator","odict_iterator","itertools.zip_longest","itertools.pairwise"].contains n=false) (hQ:Q () s):wpAny M A (letOwnedTupleGo tg (.ref it) u) Q E s:=by
 unfold letOwnedTupleGo;cases tg<;>first
  | exact aL hQ
  | (cases u<;>first
    | exact aL hQ
    | (refine aA (wpAny_load ho ?_)
       rw[hc,hd];show wpAny M A (if(["enumerate","zip","dict_itemiterator","dict_reverseitemiterator","odict_iterator","itertools.zip_longest","itertools.pairwise"].contains n&&vs[0]? ==some (rawInt _))=true then _ else _) Q E s;rw[a7 (by intro h;rw[hn,Bool.false_and]at h;cases h)]
       exact aL hQ))
nonrec def Itl (K:PySem.W.Frag)(a:Addr):It:=
 ⟨λi H=> ∃xs x,SqL K H a xs/\xs[i]? =some x,λi H x H'=>H'=H/\ ∀xs,SqL K H a xs->xs[i]? =some x,λi H=> ∃xs,SqL K H a xs/\xs.length<=i⟩
nonrec def Itt (K:PySem.W.Frag)(a:Addr):It:=
 ⟨λi H=> ∃xs x,SqT K H a xs/\xs[i]? =some x,λi H x H'=>H'=H/\ ∀xs,SqT K H a xs->xs[i]? =some x,λi H=> ∃xs,SqT K H a xs/\xs.length<=i⟩
nonrec def Itr (lo:Int)(n:Nat):It:=⟨λi _=>i<n,λi H x H'=>H'=H/\x= .int (lo+i),λi _=>n<=i⟩
theorem d33 (a it:Addr):c37 P w K tg (Itl K a) [it] it (λi h=>h.IsListIter it a i) where
 mem:=ae
 obj:=λi h st b hb=>by
  have e:b=it:=by exists hb
  subst e;obtain⟨o,e,c,d⟩:=st;exact⟨o,e,λv z=>by rw[d]at z;cases z⟩
 keep:=λi h h' st k=>st.at λo e=>k it ae o e
 item:=by
  intro X hP hw hK hc i pins s σ H E I hf st hg;subst hP hw hK;obtain⟨xs,x,hq,hx⟩:=hg;obtain⟨its,rv,p,hz⟩:=I.list hq;obtain⟨u,hu,ru⟩:=rv.get hx;obtain⟨f0,f1,f2,f3,f4,f5⟩:=hf it ae
  refine wpAny_pyNext_list_item st p.isList (x:=u) (by exists hu) λh' st' sb=> ?_
  have I1:Inv X pins σ H {s with heap:=h'}:=I.turned (t':=s.toks) (λb o hb e=>(sb.2 b hb).trans e) f0 f1 f3 f4 f5
  obtain⟨o,e,c,d⟩:=id st';exact⟨u,rfl,bV4 (s:={s with heap:=h'}) e c d ac ⟨x,H,I1,ru,⟨rfl,λys hy=>by rw[I.list_inj hy hq];exact hx⟩,st',λb hb=>(hf b hb).1⟩⟩
 done:=by
  intro X hP hw hK hc i pins s σ H E I hf st hg;subst hP hw hK;obtain⟨xs,hq,hx⟩:=hg;obtain⟨its,rv,p,hz⟩:=I.list hq;obtain⟨f0,f1,f2,f3,f4,f5⟩:=hf it ae
  have hl:=rv.length;exact wpAny_pyNext_list_end (I.ok.hd hc) st p.isList (by simp;lia) λh' eb=>⟨rfl,I.turned (t':=s.toks) (λb o hb e=>eb b o hb e) f0 f1 f3 f4 f5⟩
 self:=λ_ _ _ _ _ st h=>wpAny_pyIter_listiter st h
theorem cO6 (a it:Addr):c37 P w K tg (Itt K a) [it] it (λi h=>h.IsTupleIter it a i) where
 mem:=ae
 obj:=λi h st b hb=>by
  have e:b=it:=by exists hb
  subst e;obtain⟨o,e,c,d⟩:=st;exact⟨o,e,λv z=>by rw[d]at z;cases z⟩
 keep:=λi h h' st k=>st.at λo e=>k it ae o e
 item:=by
  intro X hP hw hK hc i pins s σ H E I hf st hg;subst hP hw hK;obtain⟨xs,x,hq,hx⟩:=hg;obtain⟨its,rv,p,hz⟩:=I.tuple hq;obtain⟨u,hu,ru⟩:=rv.get hx;obtain⟨f0,f1,f2,f3,f4,f5⟩:=hf it ae
  refine wpAny_pyNext_tuple_item st (show s.heap.IsTuple a its.toArray from p) (x:=u) (by exists hu) λh' st' sb=> ?_
  have I1:Inv X pins σ H {s with heap:=h'}:=I.turned (t':=s.toks) (λb o hb e=>(sb.2 b hb).trans e) f0 f1 f3 f4 f5
  obtain⟨o,e,c,d⟩:=id st';exact⟨u,rfl,bV4 (s:={s with heap:=h'}) e c d ac ⟨x,H,I1,ru,⟨rfl,λys hy=>by rw[I.tuple_inj hy hq];exact hx⟩,st',λb hb=>(hf b hb).1⟩⟩
 done:=by
  intro X hP hw hK hc i pins s σ H E I hf st hg;subst hP hw hK;obtain⟨xs,hq,hx⟩:=hg;obtain⟨its,rv,p,hz⟩:=I.tuple hq;obtain⟨f0,f1,f2,f3,f4,f5⟩:=hf it ae
  have hl:=rv.length;exact wpAny_pyNext_tuple_end (I.ok.hd hc) st (show s.heap.IsTuple a its.toArray from p) (by simp;lia) λh' eb=>⟨rfl,I.turned (t':=s.toks) (λb o hb e=>eb b o hb e) f0 f1 f3 f4 f5⟩
 self:=λ_ _ _ _ _ st h=>wpAny_pyIter_tupleiter st h
theorem bG2 (it:Addr)(lo:Int)(n:Nat):c37 P w K tg (Itr lo n) [it] it (λi h=>IsRangeIter h it (lo+(i:Nat)*1) ((n:Int)-(i:Nat)) 1) where
 mem:=ae
 obj:=λi h st b hb=>by
  have e:b=it:=by exists hb
  subst e;exact⟨_,st,λv z=>by
   have z':Data.fields _=Data.cell v:=z;cases z'⟩
 keep:=λi h h' st k=>k it ae _ st
 item:=by
  intro X hP hw hK hc i pins s σ H E I hf st hg;subst hP hw hK;obtain⟨f0,f1,f2,f3,f4,f5⟩:=hf it ae
  have W:=Walks.range (prog:=X.prog) (w:=X.w) (I.ok.hd hc) it lo 1 n;refine W.item i s _ _ hg st λv h' tk hv st' kk=> ?_
  obtain⟨t,rfl⟩:=hv;have I1:Inv X pins σ H {s with heap:=h',toks:=tk}:=I.turned (λb o hb e=>kk b o (by exists hb) e) f0 f1 f3 f4 f5
  refine⟨_,rfl,bV4 (s:={s with heap:=h',toks:=tk}) (n:="range_iterator") st' rfl rfl ac ⟨.int<|lo+i,H,I1,⟨t,?_⟩,⟨rfl,rfl⟩,st',λb hb=>(hf b hb).1⟩⟩
  rw[o8]
 done:=by
  intro X hP hw hK hc i pins s σ H E I hf st hg;subst hP hw hK;obtain⟨f0,f1,f2,f3,f4,f5⟩:=hf it ae
  exact wpAny_pyNext_range_end (I.ok.hd hc) st (by have:n<=i:=hg;lia) λh' eb=>⟨rfl,I.turned (t':=s.toks) (λb o hb e=>eb b o hb e) f0 f1 f3 f4 f5⟩
 self:=λ_ _ _ _ _ st h=>aO2 st h
section
variable {X:Cx}{tg:Expr}
theorem cB8 {σ:St}{H:Hp}{R:It->Hp->Prop}{hi:Int}{t u v:Tok}(I:Inv X pins σ H s)(h1: -(2^62)<=lo)(h2:lo<2^62)(h3: -(2^62)<=hi)(h4:hi<2^62)
  (q:R (Itr lo (hi-lo).toNat) H):X∩(pyIter<|.ref s.heap.objs.size) (PIE X pins σ tg R) E {s with heap:=s.heap.push {cls:= .type "range",data:= .fields #[.int lo t,.int hi u,.int 1 v]},toks:=tk}:=by
 refine aQ0 (uK ..) (small_one h1 h2 h3 h4) ?_
 have I1:Inv X pins σ H {s with heap:=s.heap.push {cls:= .type "range",data:= .fields #[.int lo t,.int hi u,.int 1 v]},toks:=tk}:=I.kept λb o e=>aV _ e
 refine⟨(s.heap.push {cls:= .type "range",data:= .fields #[.int lo t,.int hi u,.int 1 v]}).objs.size,[(s.heap.push {cls:= .type "range",data:= .fields #[.int lo t,.int hi u,.int 1 v]}).objs.size],_,_,H,rfl,
  I1.kept (t':=tk) λb o e=>aV _ e,bG2 _ lo (hi-lo).toNat,?_,λb hb=> ?_,q⟩
 .have e1:lo+((0:Nat):Int)*1=lo:=ae
  have e2:(((hi-lo).toNat:Nat):Int)-((0:Nat):Int)=Builtin.Range.rangeSize lo hi 1:=by rw[rangeSize_one];split<;>lia
  show IsRangeIter _ _ (lo+((0:Nat):Int)*1) ((((hi-lo).toNat:Nat):Int)-((0:Nat):Int)) 1
  rw[e1,e2];exact cC _ rfl
 .have e:b=(s.heap.push {cls:= .type "range",data:= .fields #[.int lo t,.int hi u,.int 1 v]}).objs.size:=by exists hb
  subst e;exact I1.fpOk (aH _) (I1.hok.fresh<|aH _)
def iRng1 (ta:TA):TI:=λσ H R=>ta σ H λvs H1=> ∃j:Int,vs=[.int j]/\ -(2^62)<=j/\j<2^62/\R (Itr 0 j.toNat) H1
def iRng2 (ta:TA):TI:=λσ H R=>ta σ H λvs H1=> ∃i j:Int,vs=[.int i,.int j]/\(-(2^62)<=i/\i<2^62/\ -(2^62)<=j/\j<2^62)/\R (Itr i (j-i).toNat) H1
theorem d34 {a:Expr}{ta:TA}(hg:Gl X "range")(hm:X.mg "range"=none)(ha:PA X [a] ta)(hs:↥(starEach [a] X.env=[(false,eval a X.env)])):PI X tg (.Call (.Name "range" p) [a] [] pos) (iRng1 ta):=by
 intro pins s σ H R I h;refine Call_ (sP I hg hm uP<|jC (thn (ha pos pins s σ H _ I h) λus s1 ⟨vs,H1,I1,r1,q1⟩=> ?_) hs rfl)
 obtain⟨j,e,q1,q2,q⟩:=q1;subst e;cases r1 with
 | cons r rr=>
  cases rr;obtain⟨t,rfl⟩:=r;exact call_range_1 (cB8 I1 ad ad q1 q2<|by exists q)
theorem d35 {a b:Expr}{ta:TA}(hg:Gl X "range")(hm:X.mg "range"=none)(ha:PA X [a,b] ta)(hs:↥(starEach [a,b] X.env=[(false,eval a X.env),(false,eval b X.env)]))(hs2:↥(starEach [b] X.env=[(false,eval b X.env)])) :
  PI X tg (.Call (.Name "range" p) [a,b] [] pos) (iRng2 ta):=by
 intro pins s σ H R I h;refine Call_ (sP I hg hm uP<|jC (thn (ha pos pins s σ H _ I h) λus s1 ⟨vs,H1,I1,r1,q1⟩=> ?_) (by rw[hs,hs2]) (by rw[hs2];rfl))
 obtain⟨i,j,e,⟨q1,q2,q3,q4⟩,q⟩:=q1;subst e;cases r1 with
 | cons r rr=>
  cases rr with
  | cons r' rr=>
   cases rr;obtain⟨t,rfl⟩:=r;obtain⟨t',rfl⟩:=r';exact call_range_2 (cB8 I1 q1 q2 q3 q4 q)
def tFor (wi:TI)(g:TG)(tb:TS):TS:=λD σ H=>wi σ H λJ H1=> ∃W:Nat->Nat->St->Hp->Prop,(∃m,W 0 m σ H1)/\ ∀i m σ H,W i m σ H->
 (J.stop i H/\D.nx σ H)\/(J.go i H/\ ∃N:St->Hp->Prop,(∀σ' H',N σ' H'-> ∃m',m'<m/\W (i+1) m' σ' H')/\ ∀x H',J.yld i H x H'->g x σ H' λσ2 H2=>tb {D with nx:=N,ct:=N,bk:=D.nx} σ2 H2)
nonrec def b30 (fp:List Addr)(h:Heap):List (Addr×Obj):=fp.filterMap λb=>(h.get? b).map λo=>(b,o)
theorem qU (hb:b∈fp)(e:h.get? b=some o):(b,o)∈b30 fp h:=aQ1.mpr ⟨b,hb,by rw[e];rfl⟩
theorem d36 {p:Addr×Obj}(hp:p∈b30 fp h):p.1∈fp/\h.get? p.1=some p.2:=by
 obtain⟨b,hb,e⟩:=aQ1.mp hp;cases q:h.get? b with
 | none=>rw[q]at e;cases e
 | some o=>
  rw[q]at e;have e':(b,o)=p:=iD e;subst e';exact⟨hb,q⟩
theorem Inv.pinned {σ:St}{H:Hp}(I:Inv X pins σ H s)(hf: ∀b∈fp,aR9 X pins H b)(ho: ∀b∈fp,∃o,s.heap.get? b=some o/\ ∀v,o.data≠ .cell v):Inv X (pins++b30 fp s.heap) σ H s:=
 I.pins_of λp hp=>(dI.mp hp).elim (λz=>I.pin p (dX _ z)) λz=>by
  obtain⟨hb,e⟩:=d36 z;obtain⟨f0,f1,f2,_⟩:=hf p.1 hb;obtain⟨o,e',d⟩:=ho p.1 hb;rw[e]at e';cases e';exact⟨e,f0,f1,f2,d⟩
theorem Inv.unpinned {pl:List (Addr×Obj)}{σ:St}{H:Hp}(I:Inv X (pins++pl) σ H s):Inv X pins σ H s:=I.pins_of λp hp=>I.pin p (dX _<|a02 _ hp)
theorem ps_for {wi:TI}{g:TG}{tb:TS}(hp:PassesOwn (model X.prog X.w) X.A X.env X.xe)(hc:X.calm=true)(hi:PI X tg iter wi)(hg:PG X tg g)(hb:PSs X body tb)
  (hs: ∀x,foldedSetIterable iter X.env x=pure x:=by intro _;rfl):PS X (.For tg iter body [] pos) (tFor wi g tb):=by
 intro pins s σ H D I h;refine wpAny_For (thn (hi pins s σ H _ I h) λv s1 h1=>thn h1 λitv s2 h2=> ?_) hs
 obtain⟨it,fp,tn,J,H2,e,I2,T,st2,f2,W,⟨m0,w0⟩,turn⟩:=h2;subst e;have stat: ∀{H':Hp},(∀b∈fp,H' b=none)-> ∀b∈fp,aR9 X pins H' b:=λhn b hb=>⟨hn b hb,(f2 b hb).2⟩
 refine codeAny_forLoop_any (λn s'=> ∃i σ' H',Inv X pins σ' H' s'/\tn i s'.heap/\(∀b∈fp,H' b=none)/\W i n σ' H') ?_ m0 ⟨0,σ,H2,I2,st2,λb hb=>(f2 b hb).1,w0⟩
 rintro n s3 ⟨i,σ3,H3,I3,st3,fr3,w3⟩;rcases turn i n σ3 H3 w3 with⟨stop,qn⟩| ⟨go,N,hN,step⟩
 .refine nV hp (thn (T.done X rfl rfl rfl hc i pins s3 σ3 H3 X.xe I3 (stat fr3) st3 stop) λr s4 ⟨hr,I4⟩=> ?_)
  subst hr;exact kN ⟨σ3,H3,I4,qn⟩
 .refine nV hp (thn (T.item X rfl rfl rfl hc i pins s3 σ3 H3 X.xe I3 (stat fr3) st3 go) λr s4 ⟨u,hr,h4⟩=> ?_)
  subst hr;refine nV hp (thn h4 λ_ s5 ⟨x,H5,I5,r5,y5,st5,fr5⟩=> ?_)
  have I5':=I5.pinned (stat fr5) (T.obj _ _ st5);refine nV hp (thn (hg _ s5 σ3 H5 x u _ I5' r5<|step x H5 y5) λ_ s6 ⟨σ6,H6,I6,q6⟩=> ?_)
  refine nV hp (thn (hb _ s6 σ6 H6 _ I6 q6) λf s7 q7=> ?_)
  have again: ∀{σ7:St} {H7:Hp},Inv X (pins++b30 fp s5.heap) σ7 H7 s7->N σ7 H7-> ∃m,m<n/\ ∃i σ' H',Inv X pins σ' H' s7/\tn i s7.heap/\(∀b∈fp,H' b=none)/\W i m σ' H':=λ{σ7 H7} I7 n7=>by
   obtain⟨m',hm,w7⟩:=hN σ7 H7 n7;refine⟨m',hm,i+1,σ7,H7,I7.unpinned,T.keep _ _ _ st5 λb hb o e=>(I7.pin (b,o)<|dX _<|dX _<|qU hb e).1,λb hb=> ?_,w7⟩
   obtain⟨o,e,d⟩:=T.obj _ _ st5 b hb;exact(I7.pin (b,o)<|dX _<|dX _<|qU hb e).2.1
  cases f with
  | next=>obtain⟨σ7,H7,I7,n7⟩:=q7;exact again I7 n7
  | cont=>obtain⟨σ7,H7,I7,n7⟩:=q7;exact again I7 n7
  | brk=>obtain⟨σ7,H7,I7,q7⟩:=q7;exact⟨σ7,H7,I7.unpinned,q7⟩
  | ret v=>obtain⟨x7,σ7,H7,I7,r7,q7⟩:=q7;exact⟨x7,σ7,H7,I7.unpinned,r7,q7⟩
end
abbrev R2:=V->V->Hp->VK->Prop
def OpR (X:Cx)(f:Value->Value->Sem Value)(r:R2):Prop:=
 ∀(pins:List (Addr×Obj)) (s:Shared) (σ:St) (H:Hp) (x y:V) (v u:Value) (Q:VK),Inv X pins σ H s->RelV x v->RelV y u->r x y H Q->
  X∩(f v u) (EP X pins σ Q) X.xe s
def UnR (X:Cx)(f:Value->Sem Value)(r:V->Hp->VK->Prop):Prop:=
 ∀(pins:List (Addr×Obj)) (s:Shared) (σ:St) (H:Hp) (x:V) (v:Value) (Q:VK),Inv X pins σ H s->RelV x v->r x H Q->
  X∩(f v) (EP X pins σ Q) X.xe s
def pN (X:Cx)(f:Value)(r:List V->Hp->VK->Prop):Prop:=
 ∀(pins:List (Addr×Obj)) (s:Shared) (σ:St) (H:Hp) (xs:List V) (us:List Value) (Q:VK),Inv X pins σ H s->Vals xs us->r xs H Q->
  X∩(call f us) (EP X pins σ Q) X.xe s
def tOp (r:R2)(ta tb:TE):TE:=λσ H Q=>ta σ H λx H1=>tb σ H1 λy H2=>r x y H2 Q
def tUn (r:V->Hp->VK->Prop)(ta:TE):TE:=λσ H Q=>ta σ H λx H1=>r x H1 Q
def rI (C:Int->Int->Prop)(g:Int->Int->V):R2:=λx y H Q=> ∃i j,x= .int i/\y= .int j/\C i j/\Q (g i j) H
def rI0 (g:Int->Int->V):R2:=λx y H Q=> ∃i j,x= .int i/\y= .int j/\Q (g i j) H
def rU (g:Int->V):V->Hp->VK->Prop:=λx H Q=> ∃i,x= .int i/\Q (g i) H
section
variable {X:Cx}{a b c:Expr}{ta tb tc:TE}{pos:Pos}
theorem dS2 (ha:PE X a ta)(hb:PE X b tb){σ:St}{H:Hp}{R:V->V->Hp->Prop}(I:Inv X pins σ H s)
  (h:ta σ H λx H1=>tb σ H1 λy H2=>R x y H2) {Q:Value->Shared->Prop} {f:Value->Value->Sem Value}
  (hf: ∀v u s2 x y H2,Inv X pins σ H2 s2->RelV x v->RelV y u->R x y H2->X∩(f v u) Q X.xe s2) :
  X∩(eval a X.env) (λv s₁=>X∩(eval b X.env) (λu s₂=>X∩(f v u) Q X.xe s₂) X.xe s₁) X.xe s:=by
 refine thn (ha pins s σ H _ I h) λv s1 ⟨x,H1,I1,r1,q1⟩=> ?_
 refine thn (hb pins s1 σ H1 _ I1 q1) λu s2 ⟨y,H2,I2,r2,q2⟩=> ?_
 exact hf v u s2 x y H2 I2 r1 r2 q2
theorem pe_op {op:Operator}{r:R2}(ho:OpR X (binaryOp op) r)(ha:PE X a ta)(hb:PE X b tb):PE X (.BinOp a op b pos) (tOp r ta tb):=by
 intro pins s σ H Q I h;exact wpAny_BinOp (dS2 ha hb I h λv u s2 x y H2 I2 rx ry q=>ho pins s2 σ H2 x y v u Q I2 rx ry q)
theorem pe_un {op:UnaryOp}{r:V->Hp->VK->Prop}(ho:UnR X (unaryOp op) r)(ha:PE X a ta):PE X (.UnaryOp op a pos) (tUn r ta):=by
 intro pins s σ H Q I h;exact UnaryOp_ (thn (ha pins s σ H _ I h) λv s1 ⟨x,H1,I1,r1,q1⟩=>ho pins s1 σ H1 x v Q I1 r1 q1)
theorem opI {f:Value->Value->Sem Value}{C:Int->Int->Prop}{g:Int->Int->Int}
  (rule: ∀(i j:Int) (t u:Tok) (s:Shared) (Q:Value->Shared->Prop) (E:Value->Shared->Prop),C i j->Q (.int (g i j) s.toks) {s with toks:=s.toks+1}->X∩(f (.int i t)<|.int j u) Q E s) :
  OpR X f (rI C λi j=> .int (g i j)):=by
 intro pins s σ H x y v u Q I rx ry h;obtain⟨i,j,rfl,rfl,hc,q⟩:=h;obtain⟨t,rfl⟩:=rx;obtain⟨t',rfl⟩:=ry;exact rule i j t t' s _ _ hc ⟨.int<|g i j,H,I.tok _,⟨_,rfl⟩,q⟩
theorem opI0 {f:Value->Value->Sem Value}{g:Int->Int->Int}
  (rule: ∀(i j:Int) (t u:Tok) (s:Shared) (Q:Value->Shared->Prop) (E:Value->Shared->Prop),Q (.int (g i j) s.toks) {s with toks:=s.toks+1}->X∩(f (.int i t)<|.int j u) Q E s) :
  OpR X f (rI0 λi j=> .int (g i j)):=by
 intro pins s σ H x y v u Q I rx ry h;obtain⟨i,j,rfl,rfl,q⟩:=h;obtain⟨t,rfl⟩:=rx;obtain⟨t',rfl⟩:=ry;exact rule i j t t' s _ _ ⟨.int<|g i j,H,I.tok _,⟨_,rfl⟩,q⟩
theorem dS3 {f:Value->Value->Sem Value}{g:Int->Int->Bool}
  (rule: ∀(i j:Int) (t u:Tok) (s:Shared) (Q:Value->Shared->Prop) (E:Value->Shared->Prop),Q (.bool<|g i j) s->X∩(f (.int i t)<|.int j u) Q E s) :
  OpR X f (rI0 λi j=> .bl (g i j)):=by
 intro pins s σ H x y v u Q I rx ry h;obtain⟨i,j,rfl,rfl,q⟩:=h;obtain⟨t,rfl⟩:=rx;obtain⟨t',rfl⟩:=ry;exact rule i j t t' s _ _ ⟨.bl<|g i j,H,I,rfl,q⟩
def dS4 (i j:Int):Prop:=0<=j/\j<=1000000/\i.natAbs<2^64
def cO7 (i j:Int):Prop:=(-(2^64)<i/\i<2^64)\/(-(2^64)<j/\j<2^64)
theorem cO7.ok {i j:Int}(h:cO7 i j):IntMulOk i j:=by
 rcases h with⟨h1,h2⟩| ⟨h1,h2⟩
 .exact .of_left (intBits_le_64 h1 h2)
 .exact .of_right (intBits_le_64 h1 h2)
theorem op_add:OpR X (binaryOp .Add) (rI0 λi j=> .int (i+j)):=opI0 λ_ _ _ _ _ _ _ q=>add_int q
theorem op_sub:OpR X (binaryOp .Sub) (rI0 λi j=> .int (i-j)):=opI0 λ_ _ _ _ _ _ _ q=>sub_int q
theorem dS5:OpR X (binaryOp .Mod) (rI (λ_ j=>j≠0) λi j=> .int (i.fmod j)):=opI λ_ _ _ _ _ _ _ hc q=>mod_int' hc q
theorem op_pow:OpR X (binaryOp .Pow) (rI dS4 λi j=> .int (i^j.toNat)):=opI λ_ _ _ _ _ _ _ hc q=>pow_int_small hc.1 hc.2.1 hc.2.2 q
theorem unI {f:Value->Sem Value}{g:Int->Int}
  (rule: ∀(i:Int) (t:Tok) (s:Shared) (Q:Value->Shared->Prop) (E:Value->Shared->Prop),Q (.int (g i) s.toks) {s with toks:=s.toks+1}->X∩(f<|.int i t) Q E s) :
  UnR X f (rU λi=> .int (g i)):=by
 intro pins s σ H x v Q I rx h;obtain⟨i,rfl,q⟩:=h;obtain⟨t,rfl⟩:=rx;exact rule i t s _ _ ⟨.int<|g i,H,I.tok _,⟨_,rfl⟩,q⟩
theorem un_neg:UnR X (unaryOp .USub) (rU λi=> .int (-i)):=unI λ_ _ _ _ _ q=>neg_int q
end
nonrec def scal:V->V->Bool
 | .non,.non=>true| .non,.int _=>true| .int _,.non=>true| .non,.bl _=>true| .bl _,.non=>true| .non,.str _=>true| .str _,.non=>true
 | .int _,.int _=>true| .bl _,.bl _=>true| .str _,.str _=>true| .byt _,.byt _=>true
 | .int _,.str _=>true| .str _,.int _=>true| .bl _,.str _=>true| .str _,.bl _=>true
 | _,_=>false
nonrec def rEq:R2:=λx y H Q=>scal x y=true/\Q (.bl<|decide (x=y)) H
nonrec def rNe:R2:=λx y H Q=>scal x y=true/\Q (.bl<|!decide (x=y)) H
theorem bD5 {i j:Int}:decide (V.int i=V.int j)=(i==j):=by
 rw[a12];simp
theorem c38 {i j:Bool}:decide (V.bl i=V.bl j)=(i==j):=by
 rw[a12];simp
theorem bD6 {i j:Str}:decide (V.str i=V.str j)=(i==j):=by
 rw[a12];simp
theorem cX6 {i j:Array UInt8}:decide (V.byt i=V.byt j)=(i.toList==j.toList):=by
 rw[a12];cases i;cases j;simp
section
variable {X:Cx}{a b c:Expr}{ta tb tc:TE}{pos:Pos}
theorem fO {σ:St}{H:Hp}{Q:VK}{k k':Bool}(I:Inv X pins σ H s)(q:Q (.bl k) H)(e:k=k'):EP X pins σ Q (.bool k') s:=by
 subst e;exact⟨.bl k,H,I,rfl,q⟩
theorem dB5:OpR X (compareOp .Eq) rEq:=by
 intro pins s σ H x y v u Q I rx ry h;obtain⟨hs,q⟩:=h;cases x with
 | non=>
  cases rx;cases y with
  | non=>cases ry;exact PySem.EqNone.eq_none_none (fO I q ae)
  | bl j=>cases ry;exact PySem.EqNone.eq_none_bool (fO I q ae)
  | int j=>obtain⟨t',rfl⟩:=ry;exact PySem.EqNone.eq_none_int (fO I q ae)
  | str j=>obtain⟨t',rfl⟩:=ry;exact PySem.EqNone.eq_none_str (fO I q ae)
  | _=>exact absurd (show false=true from hs) bN
 | bl i=>
  cases rx;cases y with
  | non=>cases ry;exact PySem.EqNone.eq_bool_none (fO I q ae)
  | bl j=>cases ry;exact eq_bool (fO I q c38)
  | str j=>obtain⟨t',rfl⟩:=ry;exact PySem.EqMixed.eq_bool_str (fO I q ae)
  | _=>exact absurd (show false=true from hs) bN
 | int i=>
  obtain⟨t,rfl⟩:=rx;cases y with
  | non=>cases ry;exact PySem.EqNone.eq_int_none (fO I q ae)
  | int j=>obtain⟨t',rfl⟩:=ry;exact eq_int (fO I q bD5)
  | str j=>obtain⟨t',rfl⟩:=ry;exact PySem.EqMixed.eq_int_str (fO I q ae)
  | _=>exact absurd (show false=true from hs) bN
 | str i=>
  obtain⟨t,rfl⟩:=rx;cases y with
  | non=>cases ry;exact PySem.EqNone.eq_str_none (fO I q ae)
  | bl j=>cases ry;exact PySem.EqMixed.eq_str_bool (fO I q ae)
  | int j=>obtain⟨t',rfl⟩:=ry;exact PySem.EqMixed.eq_str_int (fO I q ae)
  | str j=>obtain⟨t',rfl⟩:=ry;exact eq_str (fO I q bD6)
  | _=>exact absurd (show false=true from hs) bN
 | byt i=>
  obtain⟨t,rfl⟩:=rx;cases y with
  | byt j=>obtain⟨t',rfl⟩:=ry;exact PySem.W.eq_bytes (fO I q cX6)
  | _=>exact absurd (show false=true from hs) bN
 | _=>cases y<;>exact absurd (show false=true from hs) bN
theorem dB6:OpR X (compareOp .NotEq) rNe:=by
 intro pins s σ H x y v u Q I rx ry h;obtain⟨hs,q⟩:=h;cases x with
 | non=>
  cases rx;cases y with
  | non=>cases ry;exact PySem.EqNone.ne_none_none (fO I q ae)
  | bl j=>cases ry;exact PySem.EqNone.ne_none_bool (fO I q ae)
  | int j=>obtain⟨t',rfl⟩:=ry;exact PySem.EqNone.ne_none_int (fO I q ae)
  | str j=>obtain⟨t',rfl⟩:=ry;exact PySem.EqNone.ne_none_str (fO I q ae)
  | _=>exact absurd (show false=true from hs) bN
 | bl i=>
  cases rx;cases y with
  | non=>cases ry;exact PySem.EqNone.ne_bool_none (fO I q ae)
  | bl j=>cases ry;exact ne_bool (fO I q<|dZ not c38)
  | str j=>obtain⟨t',rfl⟩:=ry;exact PySem.EqMixed.ne_bool_str (fO I q ae)
  | _=>exact absurd (show false=true from hs) bN
 | int i=>
  obtain⟨t,rfl⟩:=rx;cases y with
  | non=>cases ry;exact PySem.EqNone.ne_int_none (fO I q ae)
  | int j=>obtain⟨t',rfl⟩:=ry;exact ne_int (fO I q<|dZ not bD5)
  | str j=>obtain⟨t',rfl⟩:=ry;exact PySem.EqMixed.ne_int_str (fO I q ae)
  | _=>exact absurd (show false=true from hs) bN
 | str i=>
  obtain⟨t,rfl⟩:=rx;cases y with
  | non=>cases ry;exact PySem.EqNone.ne_str_none (fO I q ae)
  | bl j=>cases ry;exact PySem.EqMixed.ne_str_bool (fO I q ae)
  | int j=>obtain⟨t',rfl⟩:=ry;exact PySem.EqMixed.ne_str_int (fO I q ae)
  | str j=>obtain⟨t',rfl⟩:=ry;exact ne_str (fO I q<|dZ not bD6)
  | _=>exact absurd (show false=true from hs) bN
 | byt i=>
  obtain⟨t,rfl⟩:=rx;cases y with
  | byt j=>obtain⟨t',rfl⟩:=ry;exact PySem.W.ne_bytes (fO I q<|dZ not cX6)
  | _=>exact absurd (show false=true from hs) bN
 | _=>cases y<;>exact absurd (show false=true from hs) bN
theorem op_lt:OpR X (compareOp .Lt) (rI0 λi j=> .bl (decide (i<j))):=dS3 λ_ _ _ _ _ _ _ q=>lt_int q
theorem op_le:OpR X (compareOp .LtE) (rI0 λi j=> .bl (decide (i<=j))):=dS3 λ_ _ _ _ _ _ _ q=>le_int q
theorem op_gt:OpR X (compareOp .Gt) (rI0 λi j=> .bl (decide (j<i))):=dS3 λ_ _ _ _ _ _ _ q=>gt_int q
theorem op_ge:OpR X (compareOp .GtE) (rI0 λi j=> .bl (decide (j<=i))):=dS3 λ_ _ _ _ _ _ _ q=>ge_int q
theorem aS0 (b:Expr)(h:⇑(op≠ .In))(h2:⇑(op≠ .NotIn)):behindInMarks op b=false:=by
 have e1:(op==CmpOp.In)=false:=by cases op<;>first|rfl|exact absurd rfl h
 have e2:(op==CmpOp.NotIn)=false:=by cases op<;>first|rfl|exact absurd rfl h2
 cases b<;>simp[behindInMarks,e1,e2]
theorem dS6 {r:R2}(ho:OpR X (compareOp op) r)(ha:PE X a ta)(hb:PE X b tb)(hm:behindInMarks op b=false):PE X (.Compare a [op] [b] pos) (tOp r ta tb):=by
 intro pins s σ H Q I h;exact wpAny_Compare1 (dS2 ha hb I h λv u s2 x y H2 I2 rx ry q=>ho pins s2 σ H2 x y v u Q I2 rx ry q) hm
def tTest (t:TE):TT:=λσ H Q=>t σ H λx H'=> ∃k,x= .bl k/\Q k H'
theorem dS7 {r:R2}(ho:OpR X (compareOp op) r)(ha:PE X a ta)(hb:PE X b tb)(hm:behindInMarks op b=false):PT X (.Compare a [op] [b] pos) (tTest<|tOp r ta tb):=by
 intro pins s σ H Q I h;refine wpAny_isTrue_Compare1 (thn (ha pins s σ H _ I h) λv s1 ⟨x,H1,I1,r1,q1⟩=>thn (hb pins s1 σ H1 _ I1 q1) λu s2 ⟨y,H2,I2,r2,q2⟩=>
  thn (ho pins s2 σ H2 x y v u _ I2 r1 r2 q2) λc s3 ⟨z,H3,I3,r3,k,e,q3⟩=> ?_) hm
 subst e;cases r3;exact qH ⟨H3,I3,q3⟩
theorem b31:(sizeLine:Nat)<2^63:=by rw[sizeLine_eq];decide
theorem vals1 {x:V}(r:Vals [x] us): ∃u,us=[u]/\RelV x u:=by
 cases r with
 | cons r1 r2=>cases r2;exact⟨_,rfl,r1⟩
theorem vals2 {x y:V}(r:Vals [x,y] us): ∃u w',us=[u,w']/\RelV x u/\RelV y w':=by
 cases r with
 | cons r1 r2=>
  cases r2 with
  | cons r3 r4=>cases r4;exact⟨_,_,rfl,r1,r3⟩
theorem dB7:pN X (.builtin "abs") (λxs H Q=> ∃i,xs=[.int i]/\Q (.int<|if i<0 then -i else i) H):=by
 intro pins s σ H xs us Q I r h;obtain⟨i,rfl,q⟩:=h;obtain⟨u,rfl,t,rfl⟩:=vals1 r;exact call_abs_int λu tk=>⟨.int<|if i<0 then -i else i,H,I.tok _,⟨_,rfl⟩,q⟩
theorem d37 (hc:X.calm=true):pN X (.builtin "max") (λxs H Q=> ∃i j,xs=[.int i,.int j]/\Q (.int<|if j>i then j else i) H):=by
 intro pins s σ H xs us Q I r h;obtain⟨i,j,rfl,q⟩:=h;obtain⟨u,w',rfl,⟨t,rfl⟩,⟨t',rfl⟩⟩:=vals2 r;refine max_two_ints (I.ok.hd hc) λh' tk k=>⟨_,H,I.kept k,?_,q⟩
 by_cases hj:j>i
 .rw[a9 hj,a9 hj];exact⟨_,rfl⟩
 .rw[a7 hj,a7 hj];exact⟨_,rfl⟩
theorem d38 (hc:X.calm=true):pN X (.builtin "min") (λxs H Q=> ∃i j,xs=[.int i,.int j]/\Q (.int<|if j<i then j else i) H):=by
 intro pins s σ H xs us Q I r h;obtain⟨i,j,rfl,q⟩:=h;obtain⟨u,w',rfl,⟨t,rfl⟩,⟨t',rfl⟩⟩:=vals2 r;refine min_two_ints (I.ok.hd hc) λh' tk k=>⟨_,H,I.kept k,?_,q⟩
 by_cases hj:j<i
 .rw[a9 hj,a9 hj];exact⟨_,rfl⟩
 .rw[a7 hj,a7 hj];exact⟨_,rfl⟩
theorem bV5:pN X (.type "int") (λxs H Q=>(∃i,xs=[.int i]/\Q (.int i) H)\/ ∃k,xs=[.bl k]/\Q (.int<|if k then 1 else 0) H):=by
 intro pins s σ H xs us Q I r h;rcases h with⟨i,rfl,q⟩| ⟨k,rfl,q⟩
 .obtain⟨u,rfl,t,rfl⟩:=vals1 r;exact call_int_int ⟨.int i,H,I,⟨_,rfl⟩,q⟩
 .obtain⟨u,rfl,r1⟩:=vals1 r;cases r1;exact call_int_bool ⟨.int<|if k then 1 else 0,H,I.tok _,⟨_,rfl⟩,q⟩
end
structure d39 (h:Heap)(x dx C:Addr)(mA:Str->Option Value):Prop where
 obj:h.get? x=some (instObj C dx)
 ns:h.Ns1 dx mA
 ne:dx≠x
theorem d40 {mA:Str->Option Value}(n:h.Ns1 dx mA): ∃od,h.get? dx=some od/\ ∀name,lookIn name od=some (mA name):=by
 obtain⟨o,es,ep,ho,hd,hk,_,hm⟩:=n;refine⟨o,ho,λname=> ?_⟩
 have e:=hm name;unfold nsFind findBy at e;rw[<-Array.find?_toList]at e;unfold lookIn;rw[hd];right;split
 .rename_i y q
  rw[q]at e;exact dZ some e
 .rename_i q
  rw[q]at e;have a:es.toList.any (·.refKey)=false:=by
   rw[List.any_eq_false];intro y hy;obtain⟨z,t,hkey⟩:=hk y (Array.mem_toList_iff.mp hy);simp[DictEntry.refKey,hkey]
  have a': ¬es.toList.any (·.refKey)=true:=by rw[a];exact bN
  rw[a7 a'];exact dZ some e
theorem d39.look {x:Addr}{mA:Str->Option Value}(I:d39 h x dx C mA): ∃od,InstAt h x (instObj C dx) C (some od)/\ ∀name,lookIn name od=some (mA name):=
 let ⟨od,ho,hl⟩:=d40 I.ns
 ⟨od,⟨I.obj,rfl,rfl,ho⟩,hl⟩
section
variable {prog:Program}{w:World}{A:Around}{E:Value->Shared->Prop}{s:Shared}{K:PySem.W.Frag}{x dx C f:Addr}{mA:Str->Option Value}{name:Str}{v:Value}
theorem dS8 {expr:Bool}(X:K.In s.heap)(I:d39 s.heap x dx C mA)(hg:plainGet K C name=true)(hh:hasDictIn K C=true)
  (ha:PySem.W.findIn K (.ref C) name=some none) (hv:mA name=some v) (hv':PySem.W.handedIn v=true) (h:Q v {s with toks:=s.toks+1}) :
  wpAny (model prog w) A (getAttr (.ref x) name expr) Q E s:=by
 obtain⟨od,J,hl⟩:=I.look;exact PySem.W.get_value X J (PySem.W.plainGet_of hg).1 (PySem.W.findObj_own hh ha rfl (by rw[hl,hv])) hv' h
theorem dS9 {ns:List Str}{Q:Unit->Shared->Prop}(X:K.In s.heap)(I:d39 s.heap x dx C mA)
  (hs:PySem.W.findIn K (.ref C) "__setattr__"=some (some<|.builtin "object.__setattr__")) (hp:plainOver K C=true) (ht:takerIn K C name=some none) (hh:hasDictIn K C=true)
  (hw:PySem.Within mA ns) (hsz:ns.length<=sizeLine)
  (h: ∀h',d39 h' x dx C (λy=>if y=name then some v else mA y)->SameBut dx s.heap h'->Q () {s with heap:=h',toks:=s.toks+2}) :
  wpAny (model prog w) A (setAttr (.ref x) name v) Q E s:=by
 obtain⟨od,J,hl⟩:=I.look;refine PySem.W.set_plain X J hs (PySem.W.osa_open (s:={s with toks:=s.toks+1}) (r:=none) X J hp ht λb=> ?_)
 obtain⟨cd,hc,hd'⟩:=PySem.W.any_some hh;have hx:s.heap.get? x=some ⟨.ref C,some dx,.plain,#[]⟩:=I.obj;refine aA (aL<|aA<|aA<|wpAny_loadPart hx<|aA<|PySem.W.Looks.here (s:={s with toks:=s.toks+1}) (aP7 X hc) ?_);rw[hd'];refine aL (a:=some dx) (aA<|aL<|aA ?_);refine wpAny_nsSet1 (s:={s with toks:=s.toks+1}) I.ns λh' hn2 hs2=> ?_
 obtain⟨oD,esD,epD,hoD,hdD,hcD⟩:=hn2.count (PySem.Within.cons name v hw);refine aA (wpAny_lookBehind hoD (by rw[hdD];exact pastItsLine_dict (aJ hcD (by rw[cY];lia))) ?_)
 exact aL (h _ ⟨(hs2.2 _<|Ne.symm I.ne).trans I.obj,hn2,I.ne⟩ hs2)
theorem cB9 {R:Result->Shared->Prop}{vs:List Value}(X:K.In s.heap)(hm:makesIn K C=true)
  (hi:PySem.W.findIn K (.ref C) "__init__"=some (some<|.ref f)) (hf:PySem.W.typeIn K (.ref f)=some (.type "function"))
  (h:codeAny (model prog w) (A.under<|.builtin "type.__call__" ⟨.ref C::vs,kw⟩) (.call (.ref f) ⟨.ref (s.heap.objs.size+1)::vs,kw⟩) (PySem.W.InitBack (s.heap.objs.size+1) R)
   {s with heap:=(s.heap.push emptyDict).push (instObj C s.heap.objs.size)}) :
  codeAny (model prog w) A (.call (.ref C) ⟨vs,kw⟩) R s:=by
 obtain⟨hh,g,d,t,os⟩:=s;exact PySem.W.make_core (PySem.W.makes_of X hm) (PySem.W.looks_findIn X hi) (λself=>PySem.W.bind_fn X self hf) (.inl rfl) h
end
nonrec def wB (f:Str)(v:V):List (Str×V)->List (Str×V)
 | []=>[(f,v)]
 | (g,x)::r=>if g=f then(g,v)::r else(g,x)::wB f v r
theorem b92 (f g:Str)(v:V): ∀fs:List (Str×V),(wB f v fs).lookup g=if g=f then some v else fs.lookup g
 | []=>by
  show List.lookup g [(f,v)]=_
  by_cases h:g=f
  .have hb:(g==f)=true:=fV.mpr h;simp only[List.lookup,hb,a9 h]
  .have hb:(g==f)=false:=qA.mpr h;simp only[List.lookup,hb,a7 h]
 | (k,x)::r=>by
  have ih:=b92 f g v r;rw[show wB f v ((k,x)::r)=(if k=f then(k,v)::r else(k,x)::wB f v r)from rfl]
  by_cases hk:k=f
  .rw[a9 hk]
   by_cases h:g=k
   .have hb:(g==k)=true:=fV.mpr h;simp only[List.lookup,hb,a9<|h.trans hk]
   .have hb:(g==k)=false:=qA.mpr h;simp only[List.lookup,hb,a7 (λe:g=f=>h (e.trans hk.symm))]
  .rw[a7 hk]
   by_cases h:g=k
   .have hb:(g==k)=true:=fV.mpr h;simp only[List.lookup,hb,a7 (λe:g=f=>hk (h.symm.trans e))]
   .have hb:(g==k)=false:=qA.mpr h;simp only[List.lookup,hb];exact ih
theorem b32 (f:Str)(v:V): ∀fs:List (Str×V),f∈(wB f v fs).map (·.1)/\ ∀g,g∈fs.map (·.1)->g∈(wB f v fs).map (·.1)
 | []=>⟨by simp[wB],λg h=>by simp at h⟩
 | (k,x)::r=>by
  obtain⟨i1,i2⟩:=b32 f v r;rw[show wB f v ((k,x)::r)=(if k=f then(k,v)::r else(k,x)::wB f v r)from rfl]
  by_cases hk:k=f
  .rw[a9 hk];subst hk;exact⟨ae,λg h=>by exists h⟩
  .rw[a7 hk];refine⟨?_,λg h=> ?_⟩
   .rw[bY];exact fK _ i1
   .rw[bY]at h⊢;rcases aZ.mp h with e|e
    .exact aZ.mpr (.inl e)
    .exact fK _ (i2 g e)
theorem b93 (f:Str)(v:V): ∀fs:List (Str×V),(wB f v fs).length<=fs.length+1
 | []=>by simp[wB]
 | (k,x)::r=>by
  have ih:=b93 f v r;rw[show wB f v ((k,x)::r)=(if k=f then(k,v)::r else(k,x)::wB f v r)from rfl]
  by_cases hk:k=f
  .rw[a9 hk,cY,cY];lia
  .rw[a7 hk,cY,cY];lia
theorem cO5.some_of {v:V}{o:Option Value}(r:cO5 (some v) o): ∃u,o=some u/\RelV v u:=by
 cases o with
 | none=>exact(show False from r).elim
 | some u=>exact⟨u,rfl,r⟩
theorem d41 {v:V}(r:RelV v u):PySem.W.handedIn u=true:=by
 cases v with
 | non=>cases (show u=Value.none from r);rfl
 | bl b=>cases (show u=Value.bool b from r);rfl
 | int i=>obtain⟨t,e⟩:=(show ∃t,u=Value.int i t from r);cases e;rfl
 | str x=>obtain⟨t,e⟩:=(show ∃t,u=Value.str x t from r);cases e;rfl
 | byt b=>obtain⟨t,e⟩:=(show ∃t,u=Value.bytes b t from r);cases e;rfl
 | flt b=>obtain⟨t,e⟩:=(show ∃t,u=Value.float b t from r);cases e;rfl
 | ref a=>cases (show u=Value.ref a from r);rfl
 | ty n=>cases (show u=Value.type n from r);rfl
section
variable {P:Program}{w:World}{H H':Hp}{h h':Heap}{a C dx:Addr}{fs fs':List (Str×V)}
theorem cX7 (hok:HOk P w H h)(e:H a=some (.ins C dx fs)): ∃mA,d39 h a dx C mA/\(∀f,cO5 (fs.lookup f)<|mA f)/\PySem.Within mA (fs.map (·.1))/\fs.length<=1000/\H dx=some (.own a):=by
 obtain⟨d,z,ne,ob,mA,n,r,q⟩:=(show rX P w H h a (.ins C dx fs)from hok a _ e)
 exact⟨mA,⟨ob,n,ne⟩,r,q,z,d⟩
end
structure Cls (K:PySem.W.Frag)(C:Addr):Prop where
 pg:plainGet K C Str.empty=true
 hd:hasDictIn K C=true
 po:plainOver K C=true
 sa:PySem.W.findIn K (.ref C) "__setattr__"=some (some<|.builtin "object.__setattr__")
theorem Cls.get (c:Cls K C)(f:Str):plainGet K C f=true:=c.pg
def aB1 (K:PySem.W.Frag)(C:Addr)(f:Str):Prop:=PySem.W.findIn K (.ref C) f=some none
theorem aB1.taker {f:Str}(n:aB1 K C f):takerIn K C f=some none:=by
 unfold takerIn;rw[show PySem.W.findIn K (.ref C) f=some none from n]
 rfl
section
variable {X:Cx}{pins:List (Addr×Obj)}{σ:St}{H:Hp}{s:Shared}{a C dx:Addr}{fs:List (Str×V)}{f:Str}{v:V}{A:Around}{E:Value->Shared->Prop}
theorem cO8 {b:Bool}(I:Inv X pins σ H s)(e:H a=some (.ins C dx fs))(c:Cls X.K C)(n:aB1 X.K C f)(l:fs.lookup f=some v)
  (h: ∀u s',Inv X pins σ H s'->RelV v u->Q u s'):wpAny (model X.prog X.w) A (getAttr (.ref a) f b) Q E s:=by
 obtain⟨mA,O,r,_,_,_⟩:=cX7 I.hok e;obtain⟨u,hu,ru⟩:=cO5.some_of (v:=v) (o:=mA f) (by rw[<-l];exact r f)
 exact dS8 I.kIn O (c.get f) c.hd n hu (d41 ru) (h u _ (I.tok _) ru)
theorem cO9 {y:V}{Q:Unit->Shared->Prop}(I:Inv X pins σ H s)(e:H a=some (.ins C dx fs))(c:Cls X.K C)(n:aB1 X.K C f)(hl:fs.length<1000)(ry:RelV y u)
  (h: ∀s',Inv X pins σ (upd H a<|.ins C dx<|wB f y fs) s'->Q () s'):wpAny (model X.prog X.w) A (setAttr (.ref a) f u) Q E s:=by
 obtain⟨mA,O,r,wi,_,ho⟩:=cX7 I.hok e;have hz:(fs.map (·.1)).length<=sizeLine:=by rw[aG,sizeLine_eq];lia
 refine dS9 I.kIn O c.sa c.po n.taker c.hd wi hz λh' O' sb=>h _ ?_
 have hd: ∃o,h'.get? dx=some o:=let ⟨o,_,_,e',_⟩:=O'.ns;⟨o,e'⟩;refine I.write (x:=a) (e:=dx) (by rw[e];exact True.intro) (.inr ho) (λb q hb z=>(sb.2 b hb).trans z) hd ?_
 refine⟨by rw[cL O.ne];exact ho,?_,O.ne,O'.obj,_,O'.ns,λg=> ?_,λg hg=> ?_⟩
 .have:=b93 f y fs;lia
 .show cO5 ((wB f y fs).lookup g) (if g=f then some u else mA g)
  rw[b92]
  by_cases q:g=f
  .rw[a9 q,a9 q];exact ry
  .rw[a7 q,a7 q];exact r g
 .by_cases q:g=f
  .rw[q];exact(b32 f y fs).1
  .refine(b32 f y fs).2 g (wi g λz=>hg ?_)
   show(if g=f then some u else mA g)=none
   rw[a7 q];exact z
theorem Inv.made (I:Inv X pins σ H s):Inv X pins σ (upd (upd H s.heap.objs.size<|.own<|s.heap.objs.size+1) (s.heap.objs.size+1)<|.ins C s.heap.objs.size [])
  {s with heap:=(s.heap.push emptyDict).push (instObj C s.heap.objs.size)}:=by
 have e1:(s.heap.push emptyDict).get? s.heap.objs.size=some emptyDict:=cC s.heap rfl;have e2:((s.heap.push emptyDict).push<|instObj C s.heap.objs.size).get? (s.heap.objs.size+1)=some (instObj C s.heap.objs.size):=by
  have:=cC (s.heap.push emptyDict) (o:=instObj C s.heap.objs.size) rfl
  rwa [jJ]at this
 have e3:(s.heap.push emptyDict).Ns s.heap.objs.size (λ_=>none):=⟨emptyDict,#[],_,e1,rfl,(λe he=>absurd he ae),λ_=>rfl⟩
 have I1:=I.laid (a:=s.heap.objs.size) (o:= .own (s.heap.objs.size+1)) (h':=s.heap.push emptyDict) (t':=s.toks) (λb u q=>aV _ q) (aH _) ⟨_,e1⟩
 refine I1.laid (a:=s.heap.objs.size+1) (o:= .ins C s.heap.objs.size []) (t':=s.toks) (λb u q=>aV _ q) (le_of_eq<|jJ _ _) ?_
 have ne:s.heap.objs.size≠s.heap.objs.size+1:=bK (qK _);refine⟨by rw[cL ne,iY],dM _,ne,e2,λ_=>none,(Heap.Ns1.of_empty e3).at λo q=>aV _ q,λ_=>True.intro,λy hy=>absurd rfl hy⟩
theorem dT0 {f:Str}{s:Shared}(hb:attributeBase e f env (eval e env)=eval e env)
  (h:wpAny (model prog w) A (eval e env) (λo s₁=>wpAny (model prog w) A (getAttr o f true) Q E s₁) E s):wpAny (model prog w) A (eval (.Attribute e f pos) env) Q E s:=
 Attribute_any_ h (by rw[arm_eval_Attribute,hb])
end
def tFld (K:PySem.W.Frag)(ta:TE)(f:Str):TE:=λσ H Q=>ta σ H λx H1=> ∃a C dx fs v,x= .ref a/\H1 a=some (.ins C dx fs)/\Cls K C/\aB1 K C f/\fs.lookup f=some v/\Q v H1
def dB8 (K:PySem.W.Frag)(ta tv:TE)(f:Str):TS:=λD σ H=>tv σ H λy H1=>ta σ H1 λx H2=> ∃a C dx fs,x= .ref a/\H2 a=some (.ins C dx fs)/\Cls K C/\aB1 K C f/\fs.length<1000/\
 D.nx σ (upd H2 a<|.ins C dx<|wB f y fs)
section
variable {X:Cx}{o e value:Expr}{f:Str}{pos pos' tpos:Pos}{ta tv:TE}
theorem pe_fld (he:PE X e ta)(hb:attributeBase e f X.env (eval e X.env)=eval e X.env):PE X (.Attribute e f pos) (tFld X.K ta f):=by
 intro pins s σ H Q I h;refine dT0 hb (thn (he pins s σ H _ I h) λu s1 zz=> ?_)
 obtain⟨x,H1,I1,rx,a,C,dx,fs,v,ex,ea,c,n,l,q⟩:=zz;subst ex;obtain rfl:u=Value.ref a:=rx;exact cO8 I1 ea c n l λu' s2 I2 ru=>⟨v,H1,I2,ru,q⟩
theorem cP0 (ha:PE X o ta)(hv:PE X value tv)(hs:swapsWith value (some<|.Attribute o f pos') pos.line X.env=pure false):PS X (.Assign [.Attribute o f pos'] value pos) (dB8 X.K ta tv f):=by
 intro pins s σ H D I h;refine aN4 (thn (hv pins s σ H _ I h) λu s1 ⟨y,H1,I1,ry,q⟩=>thn (ha pins s1 σ H1 _ I1 q) λov s2 zz=> ?_) hs
 obtain⟨x,H2,I2,rx,a,C,dx,fs,ex,ea,c,n,l,q2⟩:=zz;subst ex;obtain rfl:ov=Value.ref a:=rx;exact cO9 I2 ea c n l ry λs3 I3=>⟨σ,_,I3,q2⟩
end
structure gX (k:Nat)(A:Around):Prop where
 hd:A.handled=none
 dp:A.depth+3*k+5<recursionLimit
 un:A.units+16*k+200<cLine
theorem gX.mono (r:gX k A)(h:j<=k):gX j A:=⟨r.hd,by have:=r.dp;lia,by have:=r.un;lia⟩
theorem gX.deeper (r:gX (k+1) A)(env:Env):gX k (A.deeper env):=
 ⟨r.hd,by have:=r.dp;show A.depth+1+3*k+5<_;lia,by have:=r.un;show A.units+3+16*k+200<_;lia⟩
theorem cP1 :(A.under<|.builtin "type.__call__" ⟨.ref C::us,kw⟩).depth=A.depth+1:=by
 first|rfl|simp[Around.under,Code.weight,Code.isCreation,Code.isGuard,Code.isCaller,Code.frames,Code.isFrame,guardIds]
theorem cP2 :(A.under<|.builtin "type.__call__" ⟨.ref C::us,kw⟩).units=A.units+1:=by
 first|rfl|simp[Around.under,Code.cUnits,Code.frames,Code.isFrame]
theorem gX.make (r:gX (k+1) A)(C:Addr)(us:List Value)(kw:List (Str×Value)):gX k (A.under<|.builtin "type.__call__" ⟨.ref C::us,kw⟩):=
 ⟨r.hd,by have:=r.dp;rw[cP1];omega,by have:=r.un;rw[cP2];omega⟩
theorem gX.depth (r:gX k A):A.depth<recursionLimit:=by have:=r.dp;lia
theorem gX.units (r:gX k A):A.units+64<cLine:=by have:=r.un;lia
def tNil:TA:=λ_ H Q=>Q [] H
def tCons (ta:TE)(tr:TA):TA:=λσ H Q=>ta σ H λx H1=>tr σ H1 λxs H2=>Q (x::xs) H2
section
variable {X:Cx}{e:Expr}{es:List Expr}{te:TE}{t:TA}{pos:Pos}
theorem c39:PA X [] tNil:=λ_ _ _ _ H Q I h=>Calls.spliced_nil ⟨[],H,I,.nil,h⟩
theorem aW1 (ha:PE X e te)(hr:PA X es t)(hs:↥(starEach (e::es) X.env=(false,eval e X.env)::starEach es X.env)):PA X (e::es) (tCons te t):=by
 intro pos pins s σ H Q I h;rw[hs];show wpAny _ _ (spliced ((false,eval e X.env)::backTo pos (starEach es X.env))) _ _ s;refine Calls.spliced_cons (thn (ha pins s σ H _ I h) λu s1 ⟨x,H1,I1,r1,q1⟩=> ?_)
 exact thn (hr pos pins s1 σ H1 _ I1 q1) λus s2 ⟨xs,H2,I2,r2,q2⟩=>⟨x::xs,H2,I2,.cons r1 r2,q2⟩
def tTup (t:TA):TE:=λσ H Q=>t σ H λxs H1=>xs.length<=sizeLine/\ ∀p,H1 p=none->Q (.ref p) (upd H1 p<|.tup xs)
def tLst (t:TA):TE:=λσ H Q=>t σ H λxs H1=>xs.length<=sizeLine/\ ∀p,H1 p=none->Q (.ref p) (upd H1 p<|.lst xs)
theorem pe_tup {x1}(h:PA X es t):PE X (.Tuple es x1 pos) (tTup t):=by
 intro pins s σ H Q I hq;refine wpAny_Tuple_spliced (thn (h pos pins s σ H _ I hq) λus s1 ⟨xs,H1,I1,r,z,q⟩=>⟨by rw[<-r.length];exact z,?_⟩)
 have hf:H1 s1.heap.objs.size=none:=I1.hok.fresh (aH _);refine⟨.ref s1.heap.objs.size,upd H1 s1.heap.objs.size<|.tup xs,I1.laid (t':=s1.toks) (λb u e=>aV _ e) (aH _) ?_,rfl,q _ hf⟩
 exact⟨z,us,r,⟨_,cC _ rfl,rfl,_,rfl⟩⟩
theorem pe_lst (h:PA X es t):PE X (.List es pos) (tLst t):=by
 intro pins s σ H Q I hq;refine wpAny_List_spliced (thn (h pos pins s σ H _ I hq) λus s1 ⟨xs,H1,I1,r,z,q⟩=>⟨by rw[<-r.length];exact z,?_⟩)
 have hf:H1 s1.heap.objs.size=none:=I1.hok.fresh (aH _);refine⟨.ref s1.heap.objs.size,upd H1 s1.heap.objs.size<|.lst xs,I1.laid (t':=s1.toks) (λb u e=>aV _ e) (aH _) ?_,rfl,q _ hf⟩
 exact⟨z,us,0,r,cC _ rfl⟩
end
abbrev Sp:=List V->Hp->VK->XK->Prop
abbrev CXT:=List Env->Hp->Shared->XK->Value->Shared->Prop
structure cP3 (P:Program)(w:World)(K:PySem.W.Frag)(mg:Str->Option Value)(base:Heap)(A:Around)(outer:List Env)(s:Shared)(H:Hp):Prop where
 frames:A.frames=some outer
 mod:Mod K mg base
 bs: ∀b o,base.get? b=some o->s.heap.get? b=some o/\H b=none
 bsz:base.objs.size<=s.heap.objs.size
 funs:s.heap.FunFrames base outer
 frf: ∀b∈frs outer,H b=none
 hok:HOk P w H s.heap
 bare:AllBare s.gens
def CE (outer:List Env)(P:Program)(w:World)(H:Hp)(s:Shared)(Q:VK)(u:Value)(s':Shared):Prop:=
 ∃v H',s'.os=s.os/\AllBare s'.gens/\Un (frs outer) [] H H' s.heap s'.heap/\HOk P w H' s'.heap/\RelV v u/\Q v H'
def CR (CX:CXT)(outer:List Env)(P:Program)(w:World)(H:Hp)(s:Shared)(Q:VK)(E:XK)(r:Result)(s':Shared):Prop:=
 match r with
 | .ok (.ret u)=>CE outer P w H s Q u s'
 | .ok _=>False
 | .error e=>CX outer H s E e s'
structure sQ (P:Program)(w:World)(K:PySem.W.Frag)(mg:Str->Option Value)(base:Heap)(CX:CXT)(k:Nat)(f:Addr)(fd:FuncData)(ps:List Str)(sp:Sp):Prop where
 len: ∀vs H Q E,sp vs H Q E->vs.length=ps.length
 run: ∀(A:Around) (outer:List Env) (s:Shared) (H:Hp) (args:Args) (us:List Value) (vs:List V) (Q:VK) (E:XK),gX k A->cP3 P w K mg base A outer s H->BindsTo s fd args (ps.zip us)->Vals vs us->sp vs H Q E->
  codeAny (model P w) A (.call (.ref f) args) (CR CX outer P w H s Q E) s
theorem sQ.mono {CX:CXT}{ps:List Str}{sp:Sp}(F:sQ<$>CX j f fd ps sp)(h:j<=k) :
  sQ P w K mg base CX k f fd ps sp:=⟨F.len,λA outer s H args us vs Q E hr=>F.run A outer s H args us vs Q E (hr.mono h)⟩
theorem cP3.make {H:Hp}(e:cP3<$>A outer s H)(C:Addr)(us:List Value)(kw:List (Str×Value)) :
  cP3 P w K mg base (A.under<|.builtin "type.__call__" ⟨.ref C::us,kw⟩) outer s H:=⟨by first|exact e.frames| (simpa[Around.under,Code.envs,Code.isFrame,pushEnvs]using e.frames),e.mod,e.bs,e.bsz,e.funs,e.frf,e.hok,e.bare⟩
section
variable {X:Cx}{pins:List (Addr×Obj)}{σ:St}{H:Hp}{s s':Shared}
theorem Inv.env0 (I:Inv X pins σ H s):cP3 X.prog X.w X.K X.mg X.base X.A X.stack s H:=
 ⟨I.ok.frames,I.ok.mod,I.bs,aJ I.ok.bsz I.sz,I.stack,I.stkFree,I.hok,I.bare⟩
theorem Inv.after {Q:VK}(I:Inv X pins σ H s)(h:CE X.stack X.prog X.w H s Q u s'):EP X pins σ Q u s':=by
 obtain⟨v,H',os,bare,un,hok,r,q⟩:=h;obtain⟨hh,g,d,t,os'⟩:=s';obtain rfl:os'=s.os:=os;exact⟨v,H',I.call (h':=hh) (g':=g) (d':=d) (t':=t) (ch:=[]) un hok bare λb z=>absurd z ae,r,q⟩
end
def cX8 (sp:Sp)(dvs:List V)(E:XK)(t:TA):TE:=λσ H Q=>t σ H λvs H1=>sp (vs++dvs) H1 Q E
def cX9 (C:Addr)(sp:Sp)(dvs:List V)(E:XK)(t:TA):TE:=λσ H Q=>t σ H λvs H1=> ∀x dx,H1 x=none->H1 dx=none->dx≠x->
 sp (.ref x::(vs++dvs)) (upd (upd H1 dx<|.own x) x<|.ins C dx []) (λv H2=>v= .non/\Q (.ref x) H2) E
def Binds (K:PySem.W.Frag)(fd:FuncData)(ps:List Str)(ds:List Value):Prop:=
 ∀(s:Shared) (us:List Value),K.In s.heap->(us++ds).length=ps.length->BindsTo s fd ⟨us,[]⟩ (ps.zip<|us++ds)
theorem Binds.all {ps:List Str}(h: ∀us:List Value,us.length=ps.length->bindArgs fd ⟨us,[]⟩=pure (ps.zip us)):Binds K fd ps []:=λs us _ hl=>by
 rw[gW]at hl⊢;exact .of_eq (h us hl)
def wX (CX:CXT)(X:Cx)(E:XK):Prop:= ∀(pins:List (Addr×Obj)) (σ:St) (H:Hp) (s:Shared) (e:Value) (s':Shared),Inv X pins σ H s->CX X.stack H s E e s'->X.xe e s'
section
variable {X:Cx}{CX:CXT}{k:Nat}{f C:Addr}{fd:FuncData}{ps:List Str}{sp:Sp}{dvs:List V}{ds:List Value}{E:XK}{x m:Str}{p pos apos:Pos}{e o:Expr}{es:List Expr}{ta:TE}{t:TA}
theorem dB9 {pins:List (Addr×Obj)}{σ:St}{H:Hp}{s:Shared}{Q:VK}{us:List Value}{vs:List V}(F:sQ X.prog X.w X.K X.mg X.base CX k f fd ps sp)(hr:gX k X.A)(hb:Binds X.K fd ps ds)(hd:Vals dvs ds)(hx:wX CX X E)
  (I:Inv X pins σ H s) (r:Vals vs us) (h:sp (vs++dvs) H Q E):X∩(call (.ref f) us) (EP X pins σ Q) X.xe s:=by
 have r2:Vals (vs++dvs) (us++ds):=r.append hd;have hl:(us++ds).length=ps.length:=by rw[<-r2.length];exact F.len _ _ _ _ h
 refine oA (nZ (F.run X.A X.stack s H ⟨us,[]⟩ (us++ds) (vs++dvs) Q E hr I.env0 (hb s us I.kIn hl) r2 h) λr s' hq=> ?_)
 cases r with
 | error e=>exact hx pins σ H s e s' I hq
 | ok fl=>
  cases fl with
  | ret u=>exact I.after hq
  | next=>exact False.elim hq
  | brk=>exact False.elim hq
  | cont=>exact False.elim hq
theorem cY0 (F:sQ X.prog X.w X.K X.mg X.base CX k f fd ps sp)(hr:gX k X.A)(hg:Gl X x)(hm:X.mg x=some (.ref f))(hk:keepIn X.K (.ref f)=true)(hb:Binds X.K fd ps ds)(hd:Vals dvs ds)(hx:wX CX X E)
  (ha:PA X (e::es) t) (hdb:⇑(x∪0)) (he:↥(starEach (e::es) X.env=(false,eval e X.env)::starEach es X.env)) (hpl:↥((backTo pos<|starEach es X.env).any (·.1)=false)) :
  PE X (.Call (.Name x p) (e::es) [] pos) (cX8 sp dvs E t):=by
 intro pins s σ H Q I h;refine nS (rQ I hg hm ?_ hdb);refine a07 (h₀:=X.base) I.ok.mod.kin hk (thn (ha pos pins s σ H _ I h) λus s1 ⟨vs,H1,I1,r,q⟩=>⟨I1.kIn,?_⟩) he hpl
 exact dB9 F hr hb hd hx I1 r q
theorem dC0 (F:sQ X.prog X.w X.K X.mg X.base CX k f fd ps sp)(hr:gX k X.A)(hg:Gl X x)(hm:X.mg x=some (.ref f))(hk:keepIn X.K (.ref f)=true)(hb:Binds X.K fd ps ds)(hd:Vals dvs ds)(hx:wX CX X E)
  (hdb:⇑(x∪0)):PE X (.Call (.Name x p) [] [] pos) (cX8 sp dvs E tNil):=by
 intro pins s σ H Q I h;refine nS (rQ I hg hm ?_ hdb);exact PySem.W.callWith_K0 I.kIn hk (dB9 (us:=[]) F hr hb hd hx I .nil h)
structure Mk (K:PySem.W.Frag)(C f:Addr):Prop where
 makes:makesIn K C=true
 init:PySem.W.findIn K (.ref C) "__init__"=some (some<|.ref f)
 fn:PySem.W.isFn K (.ref f)=true
 kp:keepIn K (.ref C)=true
theorem dC1 {pins:List (Addr×Obj)}{σ:St}{H:Hp}{s:Shared}{Q:VK}{us:List Value}{vs:List V}(M:Mk X.K C f)(F:sQ X.prog X.w X.K X.mg X.base CX k f fd ps sp)(hr:gX (k+1) X.A)(hb:Binds X.K fd ps ds)(hd:Vals dvs ds)
  (hx:wX CX X E) (I:Inv X pins σ H s) (r:Vals vs us)
  (h: ∀x dx,H x=none->H dx=none->dx≠x->sp (.ref x::(vs++dvs)) (upd (upd H dx<|.own x) x<|.ins C dx []) (λv H2=>v= .non/\Q (.ref x) H2) E) :
  X∩(call (.ref C) us) (EP X pins σ Q) X.xe s:=by
 have hq:=h (s.heap.objs.size+1) s.heap.objs.size (I.hok.fresh<|uL _) (I.hok.fresh<|aH _) (bK<|qK _);have I2:=Inv.made (C:=C) I;have r2:Vals (V.ref (s.heap.objs.size+1)::(vs++dvs)) (Value.ref (s.heap.objs.size+1)::(us++ds)):= .cons rfl (r.append hd);have hl:(Value.ref (s.heap.objs.size+1)::us++ds).length=ps.length:=by
  have e:=r2.length;rw[F.len _ _ _ _ hq]at e;exact e.symm
 refine oA (cB9 (f:=f) I.kIn M.makes M.init (fV.mp M.fn) (nZ (F.run _ X.stack _ _ ⟨Value.ref (s.heap.objs.size+1)::us,[]⟩ (Value.ref (s.heap.objs.size+1)::(us++ds)) _ _ E (hr.make C us [])
  (I2.env0.make C us []) (hb _ (Value.ref (s.heap.objs.size+1)::us) I2.kIn hl) r2 hq) λr s' hq'=> ?_))
 cases r with
 | error e=>exact hx pins σ _ _ e s' I2 hq'
 | ok fl=>
  cases fl with
  | ret u=>
   obtain⟨v,H',I3,rv,ev,q3⟩:=I2.after hq';subst ev;exact⟨rv,⟨V.ref<|s.heap.objs.size+1,H',I3,rfl,q3⟩⟩
  | next=>exact False.elim hq'
  | brk=>exact False.elim hq'
  | cont=>exact False.elim hq'
theorem dT1 (M:Mk X.K C f)(F:sQ X.prog X.w X.K X.mg X.base CX k f fd ps sp)(hr:gX (k+1) X.A)(hg:Gl X x)(hm:X.mg x=some (.ref C))(hb:Binds X.K fd ps ds)(hd:Vals dvs ds)(hx:wX CX X E)
  (ha:PA X (e::es) t) (hdb:⇑(x∪0)) (he:↥(starEach (e::es) X.env=(false,eval e X.env)::starEach es X.env)) (hpl:↥((backTo pos<|starEach es X.env).any (·.1)=false)) :
  PE X (.Call (.Name x p) (e::es) [] pos) (cX9 C sp dvs E t):=by
 intro pins s σ H Q I h;refine nS (rQ I hg hm ?_ hdb);refine a07 (h₀:=X.base) I.ok.mod.kin M.kp (thn (ha pos pins s σ H _ I h) λus s1 ⟨vs,H1,I1,r,q⟩=>⟨I1.kIn,?_⟩) he hpl
 exact dC1 M F hr hb hd hx I1 r q
end
section
variable {X:Cx}{CX:CXT}{k:Nat}{f C:Addr}{fd:FuncData}{ps ks:List Str}{sp:Sp}{E:XK}{x m:Str}{p pos apos kpos:Pos}{e o:Expr}{es:List Expr}{kws:List Keyword}{te ta:TE}{t tk:TA}{nm:Option Str}
variable {g:List Value->List Value->List Value}{gV:List V->List V->List V}
end
structure aX (N P:List Str)(sc:Scope):Prop where
 kind:sc.kind= .function
 co:sc.isCoroutine=false
 gen:sc.isGenerator=false
 nd:N.Nodup
 pre:N.take P.length=P
 par: ∀x∈P,sc.names.lookup x=some .local\/sc.names.lookup x=some .cell
 nofree: ∀y∈sc.names,y.2≠ .free
theorem bV6 {kindOf:Str->Option NameKind}{x:Str}: ∀{binds:List (Str×Value)} {m:Str->Option Value},(∀v,(x,v) ∉ binds)->bindL kindOf binds m x=m x
 | [],_,_=>rfl
 | (n,v)::r,m,h=>by
  unfold bindL;rw[bV6 λw hw=>h w (fK _ hw)]
  split
  .have:x≠n:=by rintro rfl;exact h v jF
   simp[this]
  .rfl
theorem bV7 {kindOf:Str->Option NameKind}{x:Str}: ∀{binds:List (Str×Value)} {m:Str->Option Value},(∀v,(x,v) ∉ binds)->bindC kindOf binds m x=m x
 | [],_,_=>rfl
 | (n,v)::r,m,h=>by
  unfold bindC;rw[bV7 λw hw=>h w (fK _ hw)]
  split
  .rfl
  .have:x≠n:=by rintro rfl;exact h v jF
   simp[this]
theorem bV8 {kindOf:Str->Option NameKind}{x:Str}{v:Value}: ∀{P:List Str} {vs:List Value} {i:Nat} {m:Str->Option Value},P.Nodup->P[i]? =some x->vs[i]? =some v->kindOf x=some .local->
  bindL kindOf (P.zip vs) m x=some v
 | [],_,_,_,_,h,_,_=>by simp at h
 | _::_,[],_,_,_,_,h,_=>by simp at h
 | p::P,w::vs,0,m,nd,h1,h2,hk=>by
  simp at h1 h2;subst h1;subst h2
  show bindL kindOf ((p,w)::P.zip vs) m p=_
  unfold bindL;rw[bV6 λv hv=>(a13.mp nd).1 (a14 hv).1,a9 hk]
  simp
 | p::P,w::vs,i+1,m,nd,h1,h2,hk=>by
  show bindL kindOf ((p,w)::P.zip vs) m x=_
  unfold bindL;exact bV8 (i:=i) (a13.mp nd).2 (by exists h1) (by exists h2) hk
theorem bV9 {kindOf:Str->Option NameKind}{x:Str}{v:Value}: ∀{P:List Str} {vs:List Value} {i:Nat} {m:Str->Option Value},P.Nodup->P[i]? =some x->vs[i]? =some v->kindOf x≠some .local->
  bindC kindOf (P.zip vs) m x=some v
 | [],_,_,_,_,h,_,_=>by simp at h
 | _::_,[],_,_,_,_,h,_=>by simp at h
 | p::P,w::vs,0,m,nd,h1,h2,hk=>by
  simp at h1 h2;subst h1;subst h2
  show bindC kindOf ((p,w)::P.zip vs) m p=_
  unfold bindC;rw[bV7 λv hv=>(a13.mp nd).1 (a14 hv).1,a7 hk]
  simp
 | p::P,w::vs,i+1,m,nd,h1,h2,hk=>by
  show bindC kindOf ((p,w)::P.zip vs) m x=_
  unfold bindC;exact bV9 (i:=i) (a13.mp nd).2 (by exists h1) (by exists h2) hk
nonrec def start (N:List Str)(vs:List V):St:=vs.map some++replicate (N.length-vs.length) none
nonrec def uS (CX:CXT)(P:Program)(w:World)(K:PySem.W.Frag)(mg:Str->Option Value)(base:Heap)(N:List Str)(qual:Str)(scope:Scope)(f:Addr)(cd:Value)(A:Around)(outer:List Env)(s:Shared)(H:Hp)(E:XK):Cx where
 prog:=P
 w:=w
 K:=K
 mg:=mg
 base:=base
 A:=A.deeper (envOfC qual scope s.heap.objs.size f cd)
 N:=N
 s₀:=s
 H₀:=H
 env:=envOfC qual scope s.heap.objs.size f cd
 outer:=outer
 stack:=envOfC qual scope s.heap.objs.size f cd::outer
 ex:=[]
 calm:=true
 fn:=λ_=>true
 pn:=[]
 xe:=λe s'=>wpAny (model P w) (A.deeper<|envOfC qual scope s.heap.objs.size f cd) (leaving (envOfC qual scope s.heap.objs.size f cd) e) (λ_ s''=>CX outer H s E e s'') (λe' s''=>CX outer H s E e' s'') s'
theorem cC0 {sc:Scope}(h:sc.names.lookup x=some .cell): ∃c,(cellsFrom n sc.names []).lookup x=some c:=by
 have q:=aO3 sc.names n [] (.inl h);exact zV.mp q
theorem bW0 {CX:CXT}{ps:List Str}{cd:Value}{s1:Shared}{H:Hp}{E:XK}{vs:List V}
  (S:aX N ps scope) (hd:A.handled=none) (e0:cP3<$>A outer s H) (hl:vs.length=ps.length) (r:Vals vs us)
  (x:InCallC s s.heap.objs.size (bindL (envOfC qual scope s.heap.objs.size f cd).kindOf (ps.zip us) λ_=>none) (cellsFrom (s.heap.objs.size+1) scope.names []) (bindC (envOfC qual scope s.heap.objs.size f cd).kindOf (ps.zip us) λ_=>none) s1) :
  Inv (uS CX P w K mg base N qual scope f cd A outer s H E) [] (start N vs) H s1:=by
 have hpl:ps.length<=N.length:=by have:=dZ length S.pre;rw[nU]at this;lia
 obtain⟨h1,tk,rfl,hk⟩:=x.done;have noA: ∀b:Addr,b ∉ (uS CX P w K mg base N qual scope f cd A outer s H E).ex:=λb z=>absurd (show b∈([]:List Addr)from z) ae
 refine⟨⟨e0.mod,S.kind,rfl,rfl,aH _,λy z c h1 h2=> ?_,λy hy=> ?_,λy c _ h=> ?_,λ_=>hd,Around.frames_deeper e0.frames,.inr ⟨rfl,rfl⟩,λb z=>absurd z (noA b),e0.bs,e0.bsz,λb _ _=>noA b,λb z=>absurd z (noA b),e0.funs,e0.frf⟩,
  rfl,e0.bare,Un.kept hk,⟨_,x.toInCall.ns,λi y v h1 h2 h3=> ?_⟩,λy c h=>⟨_,x.cell y c h⟩,e0.hok.fresh<|aH _,λy c h=> ?_,λp hp=>absurd (show p∈([]:List (Addr×Obj))from hp) ae,e0.hok.kept hk,?_⟩
 .exact name_of_addr x.apart (qB h1) (qB h2)
 .have hy:scope.names.lookup y=some .cell\/scope.names.lookup y=some .free:=hy;rcases hy with hy|hy
  .exact cC0 hy
  .exact absurd rfl (S.nofree _<|qB hy)
 .exact jK (x.above y c<|qB h)
 .have hi:i<vs.length:=by
   unfold start at h2
   by_cases hi:i<vs.length
   .exact hi
   .rw[lK<|by simpa using hi]at h2
    rw[zW]at h2;split at h2<;>cases h2
  have ha:vs[i]? =some v:=by
   unfold start at h2;rw[nQ<|by simpa using hi,bJ]at h2
   cases e:vs[i]? with
   | none=>rw[e]at h2;cases h2
   | some a=>rw[e]at h2;cases h2;rfl
  obtain⟨u,hu,rv⟩:=r.get ha;have hp:ps[i]? =some y:=by
   rw[<-S.pre,List.getElem?_take_of_lt ad];exact h1
  have ndP:ps.Nodup:=by rw[<-S.pre];exact S.nd.sublist (List.take_sublist _ _)
  refine⟨u,rv,?_⟩
  rcases S.par y (aO9 hp)with k|k
  .exact .inl ⟨k,bV8 ndP hp hu k⟩
  .obtain⟨c,e⟩:=cC0 (n:=s.heap.objs.size+1) k;refine .inr ⟨.inl k,c,e,?_⟩;have q:=x.cell y c e;rw[bV9 ndP hp hu (by show scope.names.lookup y≠_;rw[k];decide)]at q
   exact q
 .exact e0.hok.fresh (jK<|x.above y c<|qB h)
 .unfold start;show _=N.length;rw[bV,aG,nR]
  lia
theorem dC2 {CX:CXT}{P:Program}{w:World}{K:PySem.W.Frag}{mg:Str->Option Value}{base:Heap}{k:Nat}{f:Addr}{name qual:Str}{params:Arguments}{body:List Stmt}{scope:Scope}{dV kV doc pm cdv ct oc:Value}{an od:Option Addr}
  {osl:Array (Option Value)} {N ps:List Str} {sp:Sp} (lk:K.lookup f=some ⟨oc,od,.func<|fnOf name qual params body scope dV kV doc pm an cdv ct,osl⟩) (hcd:codeIn K cdv qual=true) (S:aX N ps scope)
  (len: ∀vs H Q E,sp vs H Q E->vs.length=ps.length)
  (hbody: ∀(A:Around) (outer:List Env) (s:Shared) (H:Hp) (vs:List V) (Q:VK) (E:XK),gX k (A.deeper<|envOfC qual scope s.heap.objs.size f cdv)->sp vs H Q E->
   ∃t,PSs (uS CX P w K mg base N qual scope f cdv A outer s H E) body t/\t {nx:=λ_ H'=>Q .non H',rt:=Q} (start N vs) H) :
  sQ P w K mg base CX (k+1) f (fnOf name qual params body scope dV kV doc pm an cdv ct) ps sp:=by
 refine⟨len,λA outer s H args us vs Q E hr e0 hb r hsp=> ?_⟩
 have hl:=len _ _ _ _ hsp;have KX:K.In s.heap:=e0.mod.kin.keeps λb o e=>(e0.bs b o e).1
 have lim:s.heap.NoLimit:=e0.mod.nolimit.keeps λb o e=>(e0.bs b o e).1
 have hkind: ∀y∈ps.zip us,scope.names.lookup y.1=some .local\/(scope.names.lookup y.1=some .cell/\((cellsFrom (s.heap.objs.size+1) scope.names []).lookup y.1).isSome=true):=λ⟨n,v⟩ hy=>by
  rcases S.par n (a14 hy).1 with q|q
  .exact .inl q
  .exact .inr ⟨q,aO3 _ _ _<|.inl q⟩
 refine codeAny_call_function hr.depth (KX _ _ lk) rfl S.co S.gen rfl (PySem.W.codeRec_of KX hcd) (hb _ _ _ _ ?_)
 refine wpAny_newFunctionEnv_cells S.kind hkind λenv he s1 x=> ?_
 subst he;refine⟨lim.keeps x.toInCall.keep,codeAny_func ?_⟩;obtain⟨t,ht,hq⟩:=hbody A outer s H vs Q E (hr.deeper _) hsp;have I:Inv (uS CX P w K mg base N qual scope f cdv A outer s H E) [] (start N vs) H s1:=bW0 S hr.hd e0 hl r x;refine bD (ht [] s1 (start N vs) H _ I hq) (λfl s' hs=> ?_) λe s' hs=>hs
 have fin: ∀{σ':St} {H':Hp} {v:V} {u:Value},Inv (uS CX P w K mg base N qual scope f cdv A outer s H E) [] σ' H' s'->RelV v u->Q v H'->CE outer P w H s Q u s':=
  λ{σ' H' v u} J rv q=>⟨v,H',J.os,J.bare,J.base,J.hok,rv,q⟩
 cases fl with
 | ret u=>
  obtain⟨v,σ',H',J,rv,q⟩:=hs;exact fin J rv q
 | next=>
  obtain⟨σ',H',J,q⟩:=hs;exact fin (v:=V.non) (u:=Value.none) J rfl q
 | brk=>
  obtain⟨_,_,_,q⟩:=hs;exact False.elim q
 | cont=>
  obtain⟨_,_,_,q⟩:=hs;exact False.elim q
section
variable {X:Cx}{x:Str}{p pos:Pos}{e:Expr}{es:List Expr}{t:TA}{id T:String}{r:List V->Hp->VK->Prop}
def tCB (r:List V->Hp->VK->Prop)(t:TA):TE:=λσ H Q=>t σ H λvs H1=>r vs H1 Q
theorem cC1 (hc:pN X (.builtin id) r)(hg:Gl X x)(hm:X.mg x=none)(hv:bootBuiltins x=some (.builtin id))(ha:PA X (e::es) t)(hn:⇑(x≠"__name__"))(hdb:⇑(x∪0))
  (he:↥(starEach (e::es) X.env=(false,eval e X.env)::starEach es X.env)) (hpl:↥((backTo pos<|starEach es X.env).any (·.1)=false)):PE X (.Call (.Name x p) (e::es) [] pos) (tCB r t):=by
 intro pins s σ H Q I h;refine nS (sP I hg hm hv ?_ hn hdb);exact PyProof.Rows.callWith_builtin1 (thn (ha pos pins s σ H _ I h) λus s1 ⟨vs,H1,I1,r1,q1⟩=>hc pins s1 σ H1 vs us Q I1 r1 q1) he hpl
theorem d42 (hc:pN X (.type T) r)(hg:Gl X x)(hm:X.mg x=none)(hv:bootBuiltins x=some (.type T))(ha:PA X (e::es) t)(hn:⇑(x≠"__name__"))(hdb:⇑(x∪0))
  (he:↥(starEach (e::es) X.env=(false,eval e X.env)::starEach es X.env)) (hpl:↥((backTo pos<|starEach es X.env).any (·.1)=false)):PE X (.Call (.Name x p) (e::es) [] pos) (tCB r t):=by
 intro pins s σ H Q I h;refine nS (sP I hg hm hv ?_ hn hdb);exact jC (thn (ha pos pins s σ H _ I h) λus s1 ⟨vs,H1,I1,r1,q1⟩=>hc pins s1 σ H1 vs us Q I1 r1 q1) he hpl
end
end L2
namespace HT
open PySem PyProof.Rows
section
open PySem.SeqAt
open PySem.AutoSeq1 (wpAny_loadPart')
open PySem.MeetsSeq PySem.MeetsSeq2 PySem.MeetsSeq3
end
section
variable {prog:Program}{w:World}{A:Around}{E:Value->Shared->Prop}{s:Shared}
theorem cat_tup {vs ws:List Value}(ht:IsTup s.heap t vs.toArray)(hb:IsTup s.heap b ws.toArray)(hv:vs≠[])
  (h1:ws=[]->Q (.ref t) s) (h2:ws≠[]->Q (.ref s.heap.objs.size) {s with heap:=s.heap.push {cls:= .type "tuple",data:= .seq (vs++ws).toArray}})
  (hsz:vs.length+ws.length<=sizeLine):wpAny (model prog w) A (binaryOp .Add (.ref t)<|.ref b) Q E s:=by
 obtain⟨⟨cls,dd,data,sl⟩,ho,hc,n,hd⟩:=id ht;obtain⟨⟨cls2,dd2,data2,sl2⟩,ho2,hc2,n2,hd2⟩:=id hb;simp only at hc hd hc2 hd2;subst hc hd hc2 hd2;have e:vs.toArray++ws.toArray=(vs++ws).toArray:=ae
 by_cases hw:ws=[]
 .exact concat_meets ⟨_,ho,rfl⟩ ⟨_,ho2,rfl⟩ aR1 seq_tuple_add aO4 aN9 (aN5 _ _)
   (tuple_addW1 t b vs.toArray ws.toArray n n2 dd dd2 sl sl2 (by exists hv)<|by simp[hw]) ⟨ho,ho2,h1 hw⟩
 .refine concat_meets ⟨_,ho,rfl⟩ ⟨_,ho2,rfl⟩ aR1 seq_tuple_add aO4 aN9 (aN5 _ _)
   (tuple_addW2 t b vs.toArray ws.toArray n n2 dd dd2 sl sl2 (by exists hv) (by exists hw) (by rw[bG,bG];exact hsz)) ⟨ho,ho2,?_⟩
  rw[e];exact h2 hw
nonrec def sIx (n d:Nat):Option Int->Nat
 | none=>d
 | some v=>if v<0 then(v+(n:Int)).toNat else min v.toNat n
theorem sIx_none (n d:Nat):sIx n d none=d:=rfl
theorem sIx_nat (n d k:Nat):sIx n d (some (k:Int))=min k n:=by
 show(if(k:Int)<0 then((k:Int)+(n:Int)).toNat else min (k:Int).toNat n)=min k n
 rw[a7 ad,cD]
theorem sIx_le (n d:Nat)(hd:d<=n)(o:Option Int):sIx n d o<=n:=by
 cases o with
 | none=>exact hd
 | some v=>
  show(if v<0 then(v+(n:Int)).toNat else min v.toNat n)<=n
  by_cases hv:v<0
  .rw[a9 hv];lia
  .rw[a7 hv];exact Nat.min_le_right _ _
theorem cY1 (v:Int)(n d:Nat):(if v<0 then max (v+(n:Int)) 0 else min v (n:Int))=((sIx n d (some v):Nat):Int):=by
 show(if v<0 then max (v+(n:Int)) 0 else min v (n:Int))=(((if v<0 then(v+(n:Int)).toNat else min v.toNat n):Nat):Int)
 by_cases hv:v<0
 .simp only[a9 hv];lia
 .simp only[a7 hv];lia
theorem cP4 (lo hi:Option Int)(n:Nat):Builtin.Slice.sliceAdjust lo hi 1 (n:Int)=(((sIx n 0 lo:Nat):Int),((sIx n n hi:Nat):Int)):=by
 have h1: ¬((1:Int)<0):=ad
 unfold Builtin.Slice.sliceAdjust;simp only[h1,fW];refine kT ?_ ?_
 .cases lo with
  | none=>rfl
  | some v=>exact cY1 v n 0
 .cases hi with
  | none=>rfl
  | some v=>exact cY1 v n n
theorem cP5 (i j:Nat):Builtin.Slice.slicePlaces (i:Int) (j:Int) 1=j-i:=by
 unfold Builtin.Slice.slicePlaces;have h1:(1:Int)>0:=ad
 simp only[h1,eA,Int.ediv_one];split<;>lia
theorem bG3 {o:Option Int}{Q:Option Int->Shared->Prop}(p:IsPart v o)(h:Q o s):wpAny (model prog w) A (Builtin.Slice.slicePartIndex v) Q E s:=by
 cases p with
 | none=>exact slicePart_none h
 | int i t=>exact slicePart_int h
theorem yK {lo:Option Int}{Q:Int×Int×Nat->Shared->Prop}(hs:s.heap.IsSliceOf sl vl vu .none)(pl:IsPart vl lo)(pu:IsPart vu hi)
  (h:Q (((sIx n 0 lo:Nat):Int),1,sIx n n hi-sIx n 0 lo) s):wpAny (model prog w) A (Builtin.Slice.sliceApplied (.ref sl)<|pure (n:Int)) Q E s:=by
 obtain⟨os,hos,hcs,hds⟩:=id hs;unfold Builtin.Slice.sliceApplied Builtin.Slice.sliceFields;refine aA (aA<|d6 hos hds (x:=vl) rfl (aA<|d6 hos hds (x:=vu) rfl (aA<|d6 hos hds (x:= .none) rfl (aL ?_))));refine aA (slicePart_none ?_);show wpAny _ _ (if((1:Int)==0)=true then _ else _) _ _ s;rw[a7 ac]
 refine aA (bG3 pl<|aA<|bG3 pu<|aA<|aL ?_)
 show wpAny _ _ (match Builtin.Slice.sliceAdjust lo hi 1 (n:Int)with| (lo,hi)=>pure (lo,(1:Int),Builtin.Slice.slicePlaces lo hi 1)) _ _ s
 rw[cP4 lo hi n];show wpAny _ _ (pure (((sIx n 0 lo:Nat):Int),(1:Int),Builtin.Slice.slicePlaces ((sIx n 0 lo:Nat):Int) ((sIx n n hi:Nat):Int) 1)) _ _ s;rw[cP5];exact aL h
theorem dC3 (xs:Array Value)(i k:Nat):((List.range k).filterMap fun(m:Nat)=>xs[((i:Int)+(m:Int)*1).toNat]?).toArray=((xs.toList.drop i).take k).toArray:=by
 have e:(fun(m:Nat)=>xs[((i:Int)+(m:Int)*1).toNat]?)=λm=>xs[i+m]? :=by
  funext m
  have:((i:Int)+(m:Int)*1).toNat=i+m:=ad
  rw[this]
 rw[e];have:=pick_run xs i k;rw[List.filterMap_map]at this;have e2:((λx=>xs[x]?)∘λx=>i+x)=λm=>xs[i+m]? :=rfl
 rw[e2]at this;rw[this]
theorem getItem_tuple_cut {lo:Option Int}(ht:IsTup s.heap t items)(hs:s.heap.IsSliceOf sl vl vu .none)(pl:IsPart vl lo)(pu:IsPart vu hi)
  (hw: ¬(sIx items.size 0 lo=0/\sIx items.size items.size hi=items.size))
  (h:Q (.ref s.heap.objs.size) {s with heap:=s.heap.push {cls:= .type "tuple",data:= .seq ((items.toList.drop<|sIx items.size 0 lo).take<|sIx items.size items.size hi-sIx items.size 0 lo).toArray}})
  (hsz:items.size<=sizeLine):wpAny (model prog w) A (getItem (.ref t)<|.ref sl) Q E s:=by
 have htake:sizeOk (.seq ((items.toList.drop<|sIx items.size 0 lo).take<|sIx items.size items.size hi-sIx items.size 0 lo).toArray):=by
  show((items.toList.drop<|sIx items.size 0 lo).take<|sIx items.size items.size hi-sIx items.size 0 lo).toArray.size<=sizeLine
  rw[bG,nU,a11,aP6];omega
 have hj:sIx items.size items.size hi<=items.size:=sIx_le _ _ (aH _) hi;obtain⟨os,hos,hcs,hds⟩:=id hs;have hTs:s.TypeIs (.ref sl) "slice":=⟨os,hos,hcs⟩;unfold getItem;try with_reducible refine gG ?_
 first|refine aA (aL ?_)|skip
 refine aA (wpAny_sequenceKey ht.typeIs ac ?_)
 refine aA (lL (name:=Str.ofString "__getitem__") ht.typeIs zS
  (jI zS ht.typeIs entry_tuple_getitem ?_<|args_tuple_getitem _ _))
 show wpAny _ _ (Builtin.Tuple.tupleItemsOf (.ref t) >>= _) _ _ s
 refine aA (tupleItemsOf_ ht ?_)
 refine aA (a24 hTs ?_)
 rw[a9 ac]
 refine aA (yK hs pl pu ?_)
 have hno: ¬((((sIx items.size 0 lo:Nat):Int)==0&&(1:Int)==1&&(sIx items.size items.size hi-sIx items.size 0 lo)==items.size)=true):=by
  intro q;rw[eG,eG]at q;have q1:((sIx items.size 0 lo:Nat):Int)=0:=eq_of_beq q.1.1;have q2:sIx items.size items.size hi-sIx items.size 0 lo=items.size:=eq_of_beq q.2;exact hw ⟨aa,aa⟩
 show wpAny _ _ (if(((sIx items.size 0 lo:Nat):Int)==0&&(1:Int)==1&&(sIx items.size items.size hi-sIx items.size 0 lo)==items.size)=true then _ else _) _ _ s
 rw[a7 hno,dC3]
 first
  | exact aA (m:=Builtin.Tuple.tupleExact _) (jG (aL ⟨_,rfl,aL h⟩) htake)
  | exact aA (m:=Builtin.Tuple.tupleExact _) (jG (aA<|aL<|aL ⟨_,rfl,aL h⟩) htake)
  | exact aA (aA (m:=Builtin.Tuple.tupleExact _)<|jG (aL<|aL ⟨_,rfl,aL h⟩) htake)
  | exact aA (aA (m:=Builtin.Tuple.tupleExact _)<|jG (aL ⟨_,rfl,aL h⟩) htake)
end
end HT
namespace L2
abbrev TO:=St->Hp->(Option Int->Hp->Prop)->Prop
def PO (X:Cx)(e:Option Expr)(t:TO):Prop:=
 ∀(pins:List (Addr×Obj)) (s:Shared) (σ:St) (H:Hp) (Q:Option Int->Hp->Prop),Inv X pins σ H s->t σ H Q->
  X∩(evalPart e X.env) (λu s'=> ∃o H',Inv X pins σ H' s'/\IsPart u o/\Q o H') X.xe s
def dT2:TO:=λ_ H Q=>Q none H
def tPart (t:TE):TO:=λσ H Q=>t σ H λx H1=> ∃i,x= .int i/\Q (some i) H1
theorem intsAre_of {ns:List Int}: ∀{us:List Value},Vals (ns.map V.int) us->IntsAre us ns:=by
 induction ns with
 | nil=>intro us r;rw[fM]at r;cases r;exact .nil
 | cons n ns ih=>
  intro us r;rw[bY]at r;cases r with
  | cons r1 r2=>
   obtain⟨t,e⟩:=r1;subst e;exact .cons n t (ih r2)
section
variable {X:Cx}{e:Expr}{te:TE}{lo hi:Option Expr}{tl th:TO}{pos p2:Pos}
theorem dT3:PO X none dT2:=by
 intro pins s σ H Q I h;rw[evalPart_none];exact aL ⟨none,H,I,.none,h⟩
theorem dT4 (h:PE X e te):PO X (some e) (tPart te):=by
 intro pins s σ H Q I hw;rw[evalPart_some];refine thn (h pins s σ H _ I hw) λu s1 ⟨x,H1,I1,r1,q1⟩=> ?_
 obtain⟨i,rfl,q⟩:=q1;obtain⟨t,rfl⟩:=r1;exact⟨some i,H1,I1,.int i t,q⟩
def SlR (X:Cx)(r:V->Option Int->Option Int->Hp->VK->Prop):Prop:=
 ∀(pins:List (Addr×Obj)) (s:Shared) (σ:St) (H:Hp) (x:V) (v vl vu:Value) (lo hi:Option Int) (sl:Addr) (Q:VK),Inv X pins σ H s->RelV x v->s.heap.IsSliceOf sl vl vu .none->IsPart vl lo->IsPart vu hi->r x lo hi H Q->
  ∃T id,typeLookup (.type T) "__getitem__"=pure (some<|.builtin id)/\s.TypeIs v T/\X∩(getItem v<|.ref sl) (EP X pins σ Q) X.xe s
theorem SlR.or {r r':V->Option Int->Option Int->Hp->VK->Prop}(h:SlR X r)(h':SlR X r'):SlR X (λx lo hi H Q=>r x lo hi H Q\/r' x lo hi H Q):=by
 intro pins s σ H x v vl vu lo hi sl Q I rx hs pl pu q;rcases q with q|q
 .exact h pins s σ H x v vl vu lo hi sl Q I rx hs pl pu q
 .exact h' pins s σ H x v vl vu lo hi sl Q I rx hs pl pu q
def tSl (r:V->Option Int->Option Int->Hp->VK->Prop)(te:TE)(tl th:TO):TE:=λσ H Q=>te σ H λx H1=>tl σ H1 λl H2=>th σ H2 λu H3=>r x l u H3 Q
theorem cC2 {r:V->Option Int->Option Int->Hp->VK->Prop}(hr:SlR X r)(he:PE X e te)(hl:PO X lo tl)(hu:PO X hi th):PE X (.Subscript e (.Slice lo hi none p2) pos) (tSl r te tl th):=by
 intro pins s σ H Q I h;refine Subscript_ (thn (he pins s σ H _ I h) λv s1 ⟨x,H1,I1,r1,q1⟩=> ?_)
 refine wpAny_Slice (thn (hl pins s1 σ H1 _ I1 q1) λvl s2 ⟨l,H2,I2,pl,q2⟩=>thn (hu pins s2 σ H2 _ I2 q2) λvu s3 ⟨u,H3,I3,pu,q3⟩=> ?_)
 rw[evalPart_none];refine aL ?_;have I4:Inv X pins σ H3 {s3 with heap:=s3.heap.push {cls:= .type "slice",data:= .fields #[vl,vu,.none]}}:=I3.kept (t':=s3.toks) λb ob q=>aV _ q
 obtain⟨T,id,hT,ht,hg⟩:=hr pins {s3 with heap:=s3.heap.push {cls:= .type "slice",data:= .fields #[vl,vu,.none]}} σ H3 x v vl vu l u s3.heap.objs.size Q I4 r1 (Heap.IsSliceOf.new ..) pl pu q3;show X∩(subscriptTail e (.Slice lo hi none p2) v<|.ref s3.heap.objs.size) (EP X pins σ Q) X.xe {s3 with heap:=s3.heap.push {cls:= .type "slice",data:= .fields #[vl,vu,.none]}}
 exact tail_any (ops:=[.ref s3.heap.objs.size,v]) ht hT hg (by with_unfolding_all rfl)
nonrec def cC3 (xs:List V)(lo hi:Option Int):List V:=(xs.drop<|HT.sIx xs.length 0 lo).take (HT.sIx xs.length xs.length hi-HT.sIx xs.length 0 lo)
theorem b94 (xs:List V)(lo hi:Option Int):(cC3 xs lo hi).length<=xs.length:=by
 unfold cC3;rw[nU,a11]
 lia
nonrec def rSlT (K:PySem.W.Frag):V->Option Int->Option Int->Hp->VK->Prop:=λx lo hi H Q=> ∃a xs,x= .ref a/\SqT K H a xs/\
 ¬(HT.sIx xs.length 0 lo=0/\HT.sIx xs.length xs.length hi=xs.length)/\ ∀p,H p=none->Q (.ref p) (upd H p<|.tup<|cC3 xs lo hi)
theorem dC4:SlR X (rSlT X.K):=by
 intro pins s σ H x v vl vu lo hi sl Q I rx hs pl pu h;obtain⟨a,xs,rfl,hx,hw,q⟩:=h;cases rx;obtain⟨its,r,ht,hz⟩:=I.tuple hx;have hlen:its.toArray.size=xs.length:=by rw[bG];exact r.length.symm
 refine⟨"tuple",_,PyProof.Rows.slot_tuple_getitem.lookup,ht.typeIs,?_⟩
 refine HT.getItem_tuple_cut ht hs pl pu (by rw[hlen];exact hw) ?_ (by rw[hlen];exact hz)
 rw[hlen];refine⟨.ref s.heap.objs.size,_,I.laid (t':=s.toks) (o:= .tup (cC3 xs lo hi)) (λb ob q=>aV _ q) (aH _) ?_,rfl,q _<|I.hok.fresh<|aH _⟩
 exact⟨aJ (b94 xs lo hi) hz,_,(r.drop<|HT.sIx xs.length 0 lo).take<|HT.sIx xs.length xs.length hi-HT.sIx xs.length 0 lo,qT _ _⟩
nonrec def rCatT (K:PySem.W.Frag):R2:=λx y H Q=> ∃a b xs ys,x= .ref a/\y= .ref b/\SqT K H a xs/\SqT K H b ys/\xs≠[]/\xs.length+ys.length<=sizeLine/\
 (ys=[]->Q (.ref a) H)/\(ys≠[]-> ∀p,H p=none->Q (.ref p) (upd H p<|.tup<|xs++ys))
theorem Vals.nil_iff {xs:List V}(r:Vals xs us):us=[]↔xs=[]:=by
 cases r with
 | nil=>simp
 | cons _ _=>simp
theorem dT5:OpR X (binaryOp .Add) (rCatT X.K):=by
 intro pins s σ H x y v u Q I rx ry h;obtain⟨a,b,xs,ys,rfl,rfl,ha,hb,hx,hz,q1,q2⟩:=h;cases rx;cases ry;obtain⟨its,r1,p1,_⟩:=I.tuple ha;obtain⟨its2,r2,p2,_⟩:=I.tuple hb;refine HT.cat_tup p1 p2 (λz=>hx (r1.nil_iff.mp z)) (λz=>⟨.ref a,H,I,rfl,q1<|r2.nil_iff.mp z⟩) (λz=> ?_) (by rw[<-r1.length,<-r2.length];exact hz)
 refine⟨.ref s.heap.objs.size,_,I.laid (t':=s.toks) (o:= .tup (xs++ys)) (λb ob q=>aV _ q) (aH _) ?_,rfl,q2 (λw=>z (r2.nil_iff.mpr w)) _<|I.hok.fresh<|aH _⟩
 exact⟨by rw[bV];exact hz,_,r1.append r2,qT _ _⟩
end
nonrec def ixN (n:Nat)(i:Int):Option Nat:=if 0<=i then(if i<n then some i.toNat else none)else if -(n:Int)<=i then some (i+n).toNat else none
nonrec def atI (xs:List α)(i:Int):Option α:=(ixN xs.length i).bind λj=>xs[j]?
theorem cY2 {i:Int}(h:ixN n i=some j):seqIndex? i n=some j/\j<n/\ -(n:Int)<=i/\i<n:=by
 unfold ixN at h
 by_cases h0:0<=i
 .rw[a9 h0]at h
  by_cases h1:i<n
  .rw[a9 h1]at h;have e:i.toNat=j:=iD h;exact⟨by rw[a32 h0 h1,e],ad,ad,h1⟩
  .rw[a7 h1]at h;cases h
 .rw[a7 h0]at h
  by_cases h1: -(n:Int)<=i
  .rw[a9 h1]at h;have e:(i+n).toNat=j:=iD h;exact⟨by rw[a25 ad h1,e],ad,h1,ad⟩
  .rw[a7 h1]at h;cases h
theorem bD7 {xs:List α}{i:Int}{v:α}(h:atI xs i=some v): ∃j,seqIndex? i xs.length=some j/\xs[j]? =some v/\j<xs.length/\ -(xs.length:Int)<=i/\i<xs.length:=by
 unfold atI at h;cases e:ixN xs.length i with
 | none=>rw[e]at h;cases h
 | some j=>
  rw[e]at h;obtain⟨h1,h2,h3,h4⟩:=cY2 e;exact⟨j,h1,h,h2,h3,h4⟩
theorem bP {xs:List α}{v:α}(h:xs[j]? =some v):atI xs (j:Int)=some v:=by
 have hj:j<xs.length:=(jD.mp h).1;have e:ixN xs.length (j:Int)=some j:=by
  unfold ixN;rw[a9 ad,a9 ad];simp
 unfold atI;rw[e];exact h
theorem dC5 (xs:List α)(v:α):atI (xs++[v]) (-1)=some v:=by
 have hl:(xs++[v]).length=xs.length+1:=ae
 have e:ixN (xs++[v]).length (-1)=some xs.length:=by
  unfold ixN;rw[hl,a7 ac,a9 ad]
  congr 1
  lia
 unfold atI;rw[e];show(xs++[v])[xs.length]? =some v;simp
def aW2 (b:Expr):Prop:= ∀o i,subscripted b false o i=operate [o,i] (getItem o i)
def IxR (X:Cx)(r:R2):Prop:=
 ∀(value slice:Expr) (pins:List (Addr×Obj)) (s:Shared) (σ:St) (H:Hp) (x y:V) (v u:Value) (Q:VK),Inv X pins σ H s->RelV x v->RelV y u->r x y H Q->
  subscripted slice false v u=operate [v,u] (getItem v u)->X∩(subscriptTail value slice v u) (EP X pins σ Q) X.xe s
def MtR (X:Cx)(id:String)(r:V->List V->Hp->VK->Prop):Prop:=
 ∀(pins:List (Addr×Obj)) (s:Shared) (σ:St) (H:Hp) (x:V) (xs:List V) (v:Value) (us:List Value) (Q:VK),Inv X pins σ H s->RelV x v->Vals xs us->r x xs H Q->
  X∩(call (.builtin id) (v::us)) (EP X pins σ Q) X.xe s
section
variable {X:Cx}{a b:Expr}{ta tb:TE}{pos:Pos}
theorem IxR.or {r r':R2}(h:IxR X r)(h':IxR X r'):IxR X (λx y H Q=>r x y H Q\/r' x y H Q):=by
 intro value slice pins s σ H x y v u Q I rx ry q hs;rcases q with q|q
 .exact h value slice pins s σ H x y v u Q I rx ry q hs
 .exact h' value slice pins s σ H x y v u Q I rx ry q hs
theorem pe_ix {r:R2}(hr:IxR X r)(ha:PE X a ta)(hb:PE X b tb)(hs:aW2 b):PE X (.Subscript a b pos) (tOp r ta tb):=by
 intro pins s σ H Q I h;exact Subscript_ (dS2 ha hb I h λv u s2 x y H2 I2 rx ry q=>hr a b pins s2 σ H2 x y v u Q I2 rx ry q (hs _ _))
nonrec def rIxL (K:PySem.W.Frag):R2:=λx y H Q=> ∃p xs i v,x= .ref p/\y= .int i/\SqL K H p xs/\atI xs i=some v/\Q v H
nonrec def rIxT (K:PySem.W.Frag):R2:=λx y H Q=> ∃p xs i v,x= .ref p/\y= .int i/\SqT K H p xs/\atI xs i=some v/\Q v H
nonrec def rIxS:R2:=λx y H Q=> ∃z i c,x= .str z/\y= .int i/\z.length<=sizeLine/\atI z.cps.toList i=some c/\Q (.str ⟨#[c]⟩) H
theorem dT6:IxR X (rIxL X.K):=by
 intro value slice pins s σ H x y v u Q I rx ry h hs;obtain⟨p,xs,i,z,rfl,rfl,hq,he,q⟩:=h;cases rx;obtain⟨t,rfl⟩:=ry;obtain⟨its,r,pl,hz⟩:=I.list hq;obtain⟨j,h1,h2,h3,h4,h5⟩:=bD7 he;obtain⟨w,ew,rw'⟩:=r.get h2;have hl:=r.length;have hn:=b31;have fin:EP X pins σ Q w s:=⟨z,H,I,rw',q⟩
 by_cases h0:0<=i
 .have hj:i.toNat=j:=by
   rw[a32 h0 h5]at h1;exact iD h1
  exact item_listR pl.isList h0 ad (by rw[hj];exists ew) fin hs
 .have hj:(i+(its.toArray.size:Int)).toNat=j:=by
   rw[a25 ad h4]at h1
   rw[bG,<-hl];exact iD h1
  exact subscriptTail_builtinR (x:=w) pl.isList.typeIs slot_list_getitem.lookup
   (wpAny_getItem_list_neg (Q:=λr s'=>r=w/\EP X pins σ Q r s') pl.isList ad (by rw[bG]<;>lia) ad (by rw[hj];exists ew) ⟨rfl,fin⟩) hs
theorem ix_tup:IxR X (rIxT X.K):=by
 intro value slice pins s σ H x y v u Q I rx ry h hs;obtain⟨p,xs,i,z,rfl,rfl,hq,he,q⟩:=h;cases rx;obtain⟨t,rfl⟩:=ry;obtain⟨its,r,pl,hz⟩:=I.tuple hq;obtain⟨j,h1,h2,h3,h4,h5⟩:=bD7 he;obtain⟨w,ew,rw'⟩:=r.get h2;have hl:=r.length;have hn:=b31;have fin:EP X pins σ Q w s:=⟨z,H,I,rw',q⟩;exact subscriptTail_builtinR (x:=w) pl.typeIs slot_tuple_getitem.lookup
  (getItem_tuple (j:=j) (Q:=λr s'=>r=w/\EP X pins σ Q r s') pl ad ad (by rw[bG,<-hl];exact h1) (by exists ew) ⟨rfl,fin⟩) hs
theorem ix_str:IxR X rIxS:=by
 intro value slice pins s σ H x y v u Q I rx ry h hs;obtain⟨z,i,c,rfl,rfl,hz,he,q⟩:=h;obtain⟨t,rfl⟩:=rx;obtain⟨t',rfl⟩:=ry;obtain⟨j,h1,h2,h3,h4,h5⟩:=bD7 he;have hl:z.cps.toList.length=z.length:=by simp[Str.length]
 rw[hl]at h1 h4 h5;have hn:=b31;exact tail_any (typeIs_str s z t) slot_str_getitem.lookup (getItem_str (c:=c) (by
  have e1:decide (i< -(2^63:Int))=false:=gE ad
  have e2:decide (i≥2^63)=false:=gE ad
  rw[e1,e2,Bool.or_false]) (by rw[h1];exists h2) ⟨.str ⟨#[c]⟩,H,I.tok _,⟨_,rfl⟩,q⟩) hs
nonrec def rIx (K:PySem.W.Frag):R2:=λx y H Q=>rIxL K x y H Q\/rIxT K x y H Q\/rIxS x y H Q
theorem ix_seq:IxR X (rIx X.K):=dT6.or (ix_tup.or ix_str)
theorem cP6 (its:List Value)(n j:Nat)(u:Value):Obj.mapSeq (·.setIfInBounds j u) {cls:= .type "list",data:= .seq its.toArray n}={cls:= .type "list",data:= .seq (its.set j u).toArray n}:=by
 simp[Obj.mapSeq]
theorem Inv.lst {σ:St}{H:Hp}{p:Addr}{xs:List V}(I:Inv X pins σ H s)(h:H p=some (.lst xs)) :
  ∃(its:List Value) (n:Nat),Vals xs its/\s.heap.get? p=some {cls:= .type "list",data:= .seq its.toArray n}/\xs.length<=sizeLine:=by
 obtain⟨z,its,n,r,e⟩:=I.hok p _ h;exact⟨its,n,r,e,z⟩
theorem Inv.lstUpd {σ:St}{H:Hp}{p:Addr}{xs ys:List V}{its':List Value}{n':Nat}{f:Obj->Obj}(I:Inv X pins σ H s)(h:H p=some (.lst xs))
  (ho:s.heap.get? p=some {cls:= .type "list",data:= .seq its.toArray n}) (hf:f {cls:= .type "list",data:= .seq its.toArray n}={cls:= .type "list",data:= .seq its'.toArray n'}) (r:Vals ys its') (hz:ys.length<=sizeLine) (t:Nat) :
  Inv X pins σ (upd H p<|.lst ys) {s with heap:=s.heap.update p f,toks:=t}:=by
 have e:(s.heap.update p f).get? p=some {cls:= .type "list",data:= .seq its'.toArray n'}:=by
  rw[pW f ho (by rw[hf]<;>rfl),hf]
 refine I.write (x:=p) (e:=p) (by rw[h];trivial) (.inl rfl) (λb u hb q=>(aO5 _ _<|Ne.symm hb).trans q) ⟨_,e⟩ ?_
 exact⟨hz,its',n',r,e⟩
nonrec def rSetL:V->V->V->Hp->(Hp->Prop)->Prop:=λo i v H Q=> ∃p xs k j,o= .ref p/\i= .int k/\H p=some (.lst xs)/\ixN xs.length k=some j/\Q (upd H p<|.lst<|xs.set j v)
theorem cC4:PSet X rSetL:=by
 intro pins s σ H o i v ov iv u Q I ro ri rv h;obtain⟨p,xs,k,j,rfl,rfl,hp,hj,q⟩:=h;cases ro;obtain⟨t,rfl⟩:=ri;obtain⟨its,n,r,ho,hz⟩:=I.lst hp;obtain⟨h1,h2,h3,h4⟩:=cY2 hj;have hl:=r.length;have hn:=b31;have I':Inv X pins σ (upd H p<|.lst<|xs.set j v) {s with heap:=s.heap.update p (Obj.mapSeq (·.setIfInBounds j u))}:=
  I.lstUpd hp ho (cP6 its n j u) (r.set rv j) (by rw[eH];exact hz) s.toks
 by_cases h0:0<=k
 .have hk:k.toNat=j:=by
   rw[a32 h0 h4]at h1;exact iD h1
  exact PySem.W.ki_setAt ho h0 ad (by rw[bG,<-hl];exact h4) (by rw[hk];exact⟨_,I',q⟩)
 .have hk:(k+(its.toArray.size:Int)).toNat=j:=by
   rw[a25 ad h3]at h1
   rw[bG,<-hl];exact iD h1
  exact PySem.W.ki_setBack ho ad (by rw[bG,<-hl];exact h3) ad (by rw[hk];exact⟨_,I',q⟩)
theorem c40 (lo hi:Option Int)(n:Nat):(sliceBounds lo hi none n).1=((HT.sIx n 0 lo:Nat):Int)/\(sliceBounds lo hi none n).2.1=((HT.sIx n n hi:Nat):Int)/\(sliceBounds lo hi none n).2.2=1:=by
 refine⟨?_,?_,rfl⟩
 .cases lo with
  | none=>simp[sliceBounds,HT.sIx]
  | some i=>
   simp only[sliceBounds,HT.sIx,getD_none,show(1:Int)>0 by decide,eA]
   by_cases h:i<0
   .simp only[h,eA]<;>lia
   .simp only[h,fW]<;>lia
 .cases hi with
  | none=>simp[sliceBounds,HT.sIx]
  | some i=>
   simp only[sliceBounds,HT.sIx,getD_none,show(1:Int)>0 by decide,eA]
   by_cases h:i<0
   .simp only[h,eA]<;>lia
   .simp only[h,fW]<;>lia
theorem bR6 (its:List Value)(lo hi:Option Int):slicePick its.toArray lo hi none=((its.drop<|HT.sIx its.length 0 lo).take<|HT.sIx its.length its.length hi-HT.sIx its.length 0 lo).toArray:=by
 obtain⟨h1,h2,h3⟩:=c40 lo hi its.toArray.size;unfold slicePick;rw[h1,h2,h3];simp only[sliceRange_one,pick_run,bG]<;>rfl
nonrec def rSlL (K:PySem.W.Frag):V->Option Int->Option Int->Hp->VK->Prop:=λx lo hi H Q=> ∃a xs,x= .ref a/\SqL K H a xs/\ ∀p,H p=none->Q (.ref p) (upd H p<|.lst<|cC3 xs lo hi)
theorem cY3:SlR X (rSlL X.K):=by
 intro pins s σ H x v vl vu lo hi sl Q I rx hs pl pu h;obtain⟨a,xs,rfl,hx,q⟩:=h;cases rx;obtain⟨its,r,ht,hz⟩:=I.list hx;have hlen:=r.length;refine⟨"list",_,slot_list_getitem.lookup,ht.isList.typeIs,?_⟩;refine wpAny_getItem_list_slice ht.isList hs pl pu .none ae ?_ (by rw[bG]<;>lia)
 rw[bR6,<-hlen];refine⟨.ref s.heap.objs.size,_,I.laid (t':=s.toks) (o:= .lst (cC3 xs lo hi)) (λb ob q=>aV _ q) (aH _) ?_,rfl,q _<|I.hok.fresh<|aH _⟩
 exact⟨aJ (b94 xs lo hi) hz,_,0,(r.drop<|HT.sIx xs.length 0 lo).take<|HT.sIx xs.length xs.length hi-HT.sIx xs.length 0 lo,cC _ rfl⟩
nonrec def aW3:V->Bool
 | .non=>true
 | .bl _=>true
 | .int _=>true
 | .str _=>true
 | _=>false
nonrec def eqV:V->V->Bool
 | .non,.non=>true
 | .bl a,.bl b=>a==b
 | .bl a,.int b=>(if a then 1 else 0)==b
 | .int a,.bl b=>a==(if b then 1 else 0)
 | .int a,.int b=>a==b
 | .str a,.str b=>a==b
 | _,_=>false
theorem eqAt_V {y x:V}(ry:RelV y u)(rx:RelV x v)(fy:aW3 y=true)(fx:aW3 x=true):SeqAt.EqAt A s u v (eqV y x):=by
 cases y with
 | non=>
  cases ry;cases x with
  | non=>cases rx;exact SeqAt.EqAt.same _
  | bl b=>cases rx;exact SeqAt.EqAt.none_bool b
  | int b=>obtain⟨t,rfl⟩:=rx;exact SeqAt.EqAt.none_int b t
  | str b=>obtain⟨t,rfl⟩:=rx;exact SeqAt.EqAt.none_str b t
  | _=>exact absurd (show false=true from fx) bN
 | bl a=>
  cases ry;cases x with
  | non=>cases rx;exact SeqAt.EqAt.bool_none a
  | bl b=>cases rx;exact SeqAt.EqAt.bool_bool a b
  | int b=>obtain⟨t,rfl⟩:=rx;exact SeqAt.EqAt.bool_int a b t
  | str b=>obtain⟨t,rfl⟩:=rx;exact SeqAt.EqAt.bool_str a b t
  | _=>exact absurd (show false=true from fx) bN
 | int a=>
  obtain⟨t',rfl⟩:=ry;cases x with
  | non=>cases rx;exact SeqAt.EqAt.int_none a t'
  | bl b=>cases rx;exact SeqAt.EqAt.int_bool a t' b
  | int b=>obtain⟨t,rfl⟩:=rx;exact SeqAt.EqAt.int_int a t' b t
  | str b=>obtain⟨t,rfl⟩:=rx;exact SeqAt.EqAt.int_str a t' b t
  | _=>exact absurd (show false=true from fx) bN
 | str a=>
  obtain⟨t',rfl⟩:=ry;cases x with
  | non=>cases rx;exact SeqAt.EqAt.str_none a t'
  | bl b=>cases rx;exact SeqAt.EqAt.str_bool a t' b
  | int b=>obtain⟨t,rfl⟩:=rx;exact SeqAt.EqAt.str_int a t' b t
  | str b=>obtain⟨t,rfl⟩:=rx;exact SeqAt.EqAt.str_str a t' b t
  | _=>exact absurd (show false=true from fx) bN
 | _=>exact absurd (show false=true from fy) bN
nonrec def eqU (x:V)(u:Value):Bool:=match u with
 | .none=>eqV .non x
 | .bool b=>eqV (.bl b) x
 | .int i _=>eqV (.int i) x
 | .str z _=>eqV (.str z) x
 | _=>false
theorem dC6 {x y:V}(r:RelV y u)(f:aW3 y=true):eqU x u=eqV y x:=by
 cases y with
 | non=>cases r;rfl
 | bl b=>cases r;rfl
 | int i=>obtain⟨t,rfl⟩:=r;rfl
 | str z=>obtain⟨t,rfl⟩:=r;rfl
 | _=>exact absurd (show false=true from f) bN
theorem c41 {x:V}: ∀{xs:List V} {us:List Value},Vals xs us->xs.all aW3=true->us.any (eqU x)=xs.any λy=>eqV y x
 | _,_,.nil,_=>rfl
 | y::xs,u::us,.cons r t,f=>by
  rw[all_cons,eG]at f;rw[any_cons,any_cons,dC6 r f.1,c41 t f.2]
theorem bG4 {A:Around}{s:Shared}{x:V}{v:Value}(rx:RelV x v)(fx:aW3 x=true): ∀{xs:List V} {us:List Value},Vals xs us->xs.all aW3=true-> ∀u∈us,SeqAt.EqAt A s u v (eqU x u)
 | _,_,.nil,_=>λu hu=>by cases hu
 | y::xs,u::us,.cons r t,f=>λu' hu=>by
  rw[all_cons,eG]at f;rcases aZ.mp hu with rfl|hu
  .rw[dC6 r f.1];exact eqAt_V r rx f.1 fx
  .exact bG4 rx fx t f.2 u' hu
nonrec def inV (x:V)(xs:List V):Bool:=xs.any λy=>eqV y x
nonrec def rIn (K:PySem.W.Frag)(neg:Bool):R2:=λx y H Q=> ∃p xs,y= .ref p/\(SqL K H p xs\/SqT K H p xs)/\aW3 x=true/\xs.all aW3=true/\Q (.bl<|if neg then !inV x xs else inV x xs) H
theorem c42:OpR X (compareOp .NotIn) (rIn X.K true):=by
 intro pins s σ H x y v u Q I rx ry h;obtain⟨p,xs,rfl,hq,fx,fs,q⟩:=h;cases ry;rcases hq with hq|hq
 .obtain⟨its,r,pl,hz⟩:=I.list hq;refine SeqAt.notIn_listAt (eqU x) pl.isList (λw hw=>bG4 rx fx r fs w (by exists hw)) ⟨.bl _,H,I,rfl,?_⟩
  rw[show its.toArray.any (eqU x)=its.any (eqU x)by simp,c41 r fs]
  exact q
 .obtain⟨its,r,pl,hz⟩:=I.tuple hq;refine SeqAt.notIn_tupleAt (eqU x) pl (λw hw=>bG4 rx fx r fs w (by exists hw)) ⟨.bl _,H,I,rfl,?_⟩
  rw[show its.toArray.any (eqU x)=its.any (eqU x)by simp,c41 r fs]
  exact q
theorem c43:pN X (.builtin "len") (λxs H Q=> ∃p ys,xs=[.ref p]/\(SqL X.K H p ys\/SqT X.K H p ys)/\Q (.int ys.length) H):=by
 intro pins s σ H xs us Q I r h;obtain⟨p,ys,rfl,hq,q⟩:=h;obtain⟨u,rfl,rx⟩:=vals1 r;cases rx;have hn:=b31;rcases hq with hq|hq
 .obtain⟨its,r',pl,hz⟩:=I.list hq;have hlen:=r'.length;exact Calls.call_len_list pl.isList (by simp only[bG]<;>lia) ⟨.int ys.length,H,I.tok _,⟨s.toks+1,by rw[bG,hlen]⟩,q⟩
 .obtain⟨its,r',pl,hz⟩:=I.tuple hq;have hlen:=r'.length;exact len_tuple pl (by simp only[bG]<;>lia) ⟨.int ys.length,H,I.tok _,⟨s.toks+1,by rw[bG,hlen]⟩,q⟩
theorem c44:pN X (.type "list") (λxs H Q=> ∃p ys,xs=[.ref p]/\(SqL X.K H p ys\/SqT X.K H p ys)/\ ∀l,H l=none->Q (.ref l) (upd H l<|.lst ys)):=by
 intro pins s σ H xs us Q I r h;obtain⟨p,ys,rfl,hq,q⟩:=h;obtain⟨u,rfl,rx⟩:=vals1 r;cases rx;have fin: ∀(its:List Value),Vals ys its->ys.length<=sizeLine-> ∀(h':Heap) (c':Nat),(∀b o',s.heap.get? b=some o'->h'.get? b=some o')->
   h'.get? s.heap.objs.size=some {cls:= .type "list",dict:=none,data:= .seq its.toArray c',slots:= #[]}->EP X pins σ Q (.ref s.heap.objs.size) {s with heap:=h'}:=λits r' hz h' c' kp e=>
  ⟨.ref s.heap.objs.size,_,I.laid (t':=s.toks) kp (aH _)<|show rX X.prog X.w _ h' _ (.lst ys)from⟨hz,its,c',r',e⟩,rfl,q _<|I.hok.fresh<|aH _⟩
 rcases hq with hq|hq
 .obtain⟨its,r',pl,hz⟩:=I.list hq;have hlen:=r'.length;obtain⟨o,ho,hc,n,hd⟩:=pl.isList;exact call_list_seq p (.inl rfl) ho hc hd (λh' c' kp e=>fin its r' hz h' c' kp e) (by simp only[bG]<;>lia)
 .obtain⟨its,r',pl,hz⟩:=I.tuple hq;have hlen:=r'.length;obtain⟨o,ho,hc,n,hd⟩:=pl;exact call_list_seq p (.inr rfl) ho hc hd (λh' c' kp e=>fin its r' hz h' c' kp e) (by simp only[bG]<;>lia)
theorem wY:pN X (.type "tuple") (λxs H Q=> ∃p ys,xs=[.ref p]/\((SqL X.K H p ys/\ ∀l,H l=none->Q (.ref l) (upd H l<|.tup ys))\/(SqT X.K H p ys/\Q (.ref p) H))):=by
 intro pins s σ H xs us Q I r h;obtain⟨p,ys,rfl,h⟩:=h;obtain⟨u,rfl,rx⟩:=vals1 r;cases rx;rcases h with⟨hq,q⟩| ⟨hq,q⟩
 .obtain⟨its,r',pl,hz⟩:=I.list hq;have hlen:=r'.length;refine call_tuple_list pl.isList (λh' kp=> ?_) (by simp only[bG]<;>lia)
  have I1:Inv X pins σ H {s with heap:=h'}:=I.kept (t':=s.toks) kp;have I2:Inv X pins σ (upd H h'.objs.size<|.tup ys) {s with heap:=h'.push {cls:= .type "tuple",data:= .seq its.toArray}}:=
   I1.laid (t':=s.toks) (λb o e=>aV _ e) (aH _) (show rX X.prog X.w _ _ _ (.tup ys)from⟨hz,its,r',qT _ _⟩)
  exact⟨.ref h'.objs.size,_,I2,rfl,q _<|I1.hok.fresh<|aH _⟩
 .obtain⟨its,r',pl,hz⟩:=I.tuple hq;exact call_tuple_same pl ⟨.ref p,H,I,rfl,q⟩
def tyV (K:PySem.W.Frag)(T:String)(x:V)(H:Hp):Prop:=match x with
 | .str _=>T="str"
 | .int _=>T="int"
 | .ref p=>(T="list"/\ ∃xs,SqL K H p xs)\/(T="tuple"/\ ∃o,K.lookup p=some o/\o.cls= .type "tuple"/\o.dict=none)\/
   (T="dict"/\((∃kvs,H p=some (.dK kvs))\/ ∃kvs,H p=some (.dT kvs)))\/(T="set"/\ ∃S n,H p=some (.set S n))
 | _=>False
theorem tyV_is {pins:List (Addr×Obj)}{σ:St}{H:Hp}{s:Shared}{T:String}{x:V}{v:Value}(I:Inv X pins σ H s)(r:RelV x v)(ty:tyV X.K T x H) :
  s.TypeIs v T/\ ∀a,v= .ref a-> ∃ob,s.heap.get? a=some ob/\ob.dict=none:=by
 cases x with
 | str z=>
  obtain⟨t,rfl⟩:=r;cases (show T="str" from ty)
  exact⟨typeIs_str s z t,λ_ e=>nomatch e⟩
 | int i=>
  obtain⟨t,rfl⟩:=r;cases (show T="int" from ty)
  exact⟨qS s i t,λ_ e=>nomatch e⟩
 | ref p=>
  cases r;rcases ty with⟨rfl,xs,hq⟩| ⟨rfl,o,hk,hc,hd⟩| ⟨rfl,hk⟩| ⟨rfl,S,n,hk⟩
  .obtain⟨its,_,pl,_⟩:=I.list hq;refine⟨pl.isList.typeIs,λa e=> ?_⟩
   cases e;obtain⟨o,n,e,c,hd,_⟩:=pl;exact⟨o,e,hd⟩
  .refine⟨⟨o,I.kIn p o hk,hc⟩,λa e=> ?_⟩
   cases e;exact⟨o,I.kIn _ o hk,hd⟩
  .have z: ∃o,s.heap.get? p=some o/\o.ExactDict:=by
    rcases hk with⟨kvs,hk⟩| ⟨kvs,hk⟩
    .obtain⟨_,_,_,_,o,_,_,e,ex,_⟩:=I.hok p _ hk;exact⟨o,e,ex⟩
    .obtain⟨_,_,_,_,o,_,_,e,ex,_⟩:=I.hok p _ hk;exact⟨o,e,ex⟩
   obtain⟨o,e,ex⟩:=z;refine⟨⟨o,e,ex.1⟩,λa e2=> ?_⟩
   cases e2;exact⟨o,e,ex.2.1⟩
  .obtain⟨o,_,_,_,e,ex,_⟩:=I.hok p _ hk;refine⟨⟨o,e,ex.1⟩,λa e2=> ?_⟩
   cases e2;exact⟨o,e,ex.2.1⟩
 | _=>exact False.elim ty
def tBM (K:PySem.W.Frag)(T:String)(r:V->List V->Hp->VK->Prop)(to:TE)(t:TA):TE:=λσ H Q=>to σ H λx H1=>tyV K T x H1/\t σ H1 λxs H2=>r x xs H2 Q
variable {o e:Expr}{es:List Expr}{to:TE}{t:TA}{name:Str}{apos cpos:Pos}{T id:String}{r:V->List V->Hp->VK->Prop}
theorem e41 (pa:PlainAttrs T)(slot:Slot T name id)(hty:typeOf (.builtin id)=pure (.type "method_descriptor"))(hm:MtR X id r)(ho:PE X o to)(ha:PA X (e::es) t)
  (hbase:↥(attributeBase o name X.env (eval o X.env)=eval o X.env))
  (hfew:↥(((backTo cpos<|starEach (e::es) X.env).all (λx=> !x.1)&&(backToKw cpos<|keywordEach [] X.env).all (λx=>x.1.isSome)
   &&decide ((e::es).length+([]:List Keyword).length+(if([]:List Keyword).isEmpty then 0 else 1)<30))=true))
  (hline:↥((apos.endLine==cpos.line)=true)) (hs:↥(starEach (e::es) X.env=(false,eval e X.env)::starEach es X.env)) (hplain:↥((backTo cpos<|starEach es X.env).any (·.1)=false)) :
  PE X (.Call (.Attribute o name apos) (e::es) [] cpos) (tBM X.K T r to t):=by
 intro pins s σ H Q I h;refine wpAny_Call_method_late hbase hfew hline rfl (thn (ho pins s σ H _ I h) λv s1 ⟨x,H1,I1,r1,ty,q1⟩=> ?_)
 obtain⟨h1,h2⟩:=tyV_is I1 r1 ty;refine⟨T,id,pa,slot,hty,h1,h2,?_⟩;have hA:=ha cpos pins s1 σ H1 _ I1 q1;rw[hs]at hA⊢;refine Calls.callWith_builtin (by show(false||(backTo cpos<|starEach es X.env).any (·.1))=false;rw[hplain]<;>rfl) (aP0 ?_)
 exact thn hA λus s2 ⟨vs,H2,I2,r2,q2⟩=>hm pins s2 σ H2 x vs v us Q I2 r1 r2 q2
end
def MtM (X:Cx)(id:String)(r:V->List V->Hp->VK->Prop):Prop:=
 ∀(pins:List (Addr×Obj)) (s:Shared) (σ:St) (H:Hp) (x:V) (xs:List V) (v:Value) (us:List Value) (Q:VK),Inv X pins σ H s->RelV x v->Vals xs us->r x xs H Q->
  X∩(call (.builtin id) (v::us)) (EP X pins σ Q) X.xe s
theorem Vals.one {x:V}(h:Vals [x] us): ∃u,us=[u]/\RelV x u:=by
 cases h with
 | cons r q=>cases q;exact⟨_,rfl,r⟩
theorem Vals.two {x y:V}(h:Vals [x,y] us): ∃u v,us=[u,v]/\RelV x u/\RelV y v:=by
 cases h with
 | cons r q=>obtain⟨u,rfl,s⟩:=Vals.one q;exact⟨_,_,rfl,r,s⟩
theorem Vals.rep {xs:List V}{us:List Value}(h:Vals xs us): ∀k:Nat,Vals (replicate k xs).flatten (replicate k us).flatten
 | 0=> .nil
 | k+1=>by
  rw[kK,kK,nT,nT];exact Vals.append h (Vals.rep h k)
theorem foldl_rep (its:List Value): ∀(k:Nat) (acc:List Value),
  foldl (λx1 x2=>x1++x2) acc.toArray (replicate k its.toArray)=(acc++(replicate k its).flatten).toArray
 | 0,acc=>ae
 | k+1,acc=>by
  have e:acc.toArray++its.toArray=(acc++its).toArray:=ae
  have e2:(acc++its)++(replicate k its).flatten=acc++(replicate (k+1) its).flatten:=by
   rw[kK,nT,List.append_assoc]
  rw[<-e2,<-foldl_rep its k (acc++its),<-e,kK,List.foldl_cons]
section
variable {X:Cx}{pins:List (Addr×Obj)}{σ:St}{H:Hp}{s:Shared}{l b:Addr}{xs ys zs:List V}
theorem Inv.lset {its':List Value}{f:Array Value->Array Value}(I:Inv X pins σ H s)(hH:H l=some (.lst xs))
  (e:s.heap.get? l=some {cls:= .type "list",data:= .seq its.toArray n}) (hf:f its.toArray=its'.toArray) (hv:Vals ys its') (hz:ys.length<=sizeLine) :
  Inv X pins σ (upd H l<|.lst ys) {s with heap:=s.heap.update l (Obj.mapSeq f),toks:=t'}:=by
 have q:=PySem.IsL.update e f;rw[hf]at q;refine I.write (x:=l) (e:=l) (by rw[hH];exact trivial) (.inl rfl) (λb' u hb hu=>(aO5 s.heap (Obj.mapSeq f)<|Ne.symm hb).trans hu) ⟨_,q⟩ ?_
 exact⟨hz,its',_,hv,q⟩
theorem Inv.lnew (I:Inv X pins σ H s)(hv:Vals ys its)(hz:ys.length<=sizeLine) :
  Inv X pins σ (upd H s.heap.objs.size<|.lst ys) {s with heap:=s.heap.push {cls:= .type "list",data:= .seq its.toArray},toks:=t'}:=
 I.laid (λ_ _ q=>aV _ q) (aH _) ⟨hz,its,0,hv,cC _ rfl⟩
theorem Inv.fresh (I:Inv X pins σ H s):H s.heap.objs.size=none:=I.hok.fresh (aH _)
theorem Inv.lstM (I:Inv X pins σ H s)(hH:H l=some (.lst xs)):xs.length<=sizeLine/\ ∃(its:List Value) (n:Nat),Vals xs its/\xs.length=its.length/\s.heap.get? l=some {cls:= .type "list",data:= .seq its.toArray n}:=by
 obtain⟨z,its,n,r,e⟩:=I.hok l _ hH;exact⟨z,its,n,r,r.length,e⟩
theorem dC7 (h:n<=sizeLine):Builtin.List.listTooLong n=false:=by
 unfold Builtin.List.listTooLong;exact gE ad
end
section
variable {X:Cx}
nonrec def dT7:V->List V->Hp->VK->Prop:=λx vs H Q=> ∃l xs y,x= .ref l/\vs=[y]/\H l=some (.lst xs)/\xs.length<sizeLine/\Q .non (upd H l<|.lst<|xs++[y])
theorem bW1:MtM X "list.append" dT7:=by
 intro pins s σ H x vs v us Q I rx rv h;obtain⟨l,xs,y,rfl,rfl,hH,hz,q⟩:=h;cases rx;obtain⟨u,rfl,ru⟩:=rv.one;obtain⟨z,its,n,r,hl,e⟩:=I.lstM hH;refine kS F.slot_list_append ⟨_,e,rfl⟩ F.entry_list_append (F.args_list_append_2 _ _) (PySem.list_append l its.toArray n u (by rw[bG];lia)) ⟨e,?_⟩
 refine⟨.non,_,I.lset (its':=its++[u]) hH e ae (r.append<|.cons ru .nil) ?_,rfl,q⟩
 rw[bV,aO7]
 lia
nonrec def rCat:R2:=λx y H Q=> ∃l b xs zs,x= .ref l/\y= .ref b/\H l=some (.lst xs)/\H b=some (.lst zs)/\xs.length+zs.length<=sizeLine/\ ∀p,H p=none->Q (.ref p) (upd H p<|.lst<|xs++zs)
theorem op_cat:OpR X (binaryOp .Add) rCat:=by
 intro pins s σ H x y v u Q I rx ry h;obtain⟨l,b,xs,zs,rfl,rfl,hH,hB,hz,q⟩:=h;cases rx;cases ry;obtain⟨z,its,n,r,hl,e⟩:=I.lstM hH;obtain⟨z2,its2,n2,r2,hl2,e2⟩:=I.lstM hB;refine PySem.P.add_list e e2 ?_ (by rw[bG,bG];omega)
 have ea:its.toArray++its2.toArray=(its++its2).toArray:=ae
 rw[ea];exact⟨.ref _,_,I.lnew (t':=s.toks) (r.append r2) (by rw[bV];omega),rfl,q _ I.fresh⟩
nonrec def rRep:R2:=λx y H Q=> ∃l k xs,x= .ref l/\y= .int k/\H l=some (.lst xs)/\ -(2^63)<=k/\k<2^63/\xs.length*k.toNat<=sizeLine/\
 ∀p,H p=none->Q (.ref p) (upd H p<|.lst (replicate k.toNat xs).flatten)
theorem c45 (xs:List α)(k:Nat):(replicate k xs).flatten.length=k*xs.length:=by
 induction k with
 | zero=>simp
 | succ k ih=>rw[kK,nT,bV,ih,Nat.succ_mul,add_comm]
theorem op_rep:OpR X (binaryOp .Mult) rRep:=by
 intro pins s σ H x y v u Q I rx ry h;obtain⟨l,k,xs,rfl,rfl,hH,h1,h2,hz,q⟩:=h;cases rx;obtain⟨t,rfl⟩:=ry;obtain⟨z,its,n,r,hl,e⟩:=I.lstM hH;have hlen:its.toArray.size*k.toNat<=sizeLine:=by rw[bG,<-hl];exact hz
 have hcap: ¬its.toArray.size*k.toNat>(2^63-1)/8:=by
  have:(sizeLine:Nat)<=(2^63-1)/8:=ac
  lia
 have hfit: ¬(!Builtin.List.listFitsIndex k)=true:=by
  rw[fitsIndex_both h1 h2];exact bN
 have hlong: ¬Builtin.List.listTooLong (its.toArray.size*k.toNat)=true:=by
  rw[dC7 hlen];exact bN
 have hnew:foldl (λx1 x2=>x1++x2) #[] (replicate (if its.toArray.isEmpty=true then 0 else k.toNat) its.toArray)=(replicate k.toNat its).flatten.toArray:=by
  have f0: ∀m:Nat,foldl (λx1 x2=>x1++x2) #[] (replicate m its.toArray)=(replicate m its).flatten.toArray:=λm=>by
   have:=foldl_rep its m [];rw[a15]at this;exact this
  rw[f0];cases its with
  | nil=>simp
  | cons a r'=>rw[a7 ae]
 refine wpAny_binaryOp_repeat_ref (T:="list") (U:="int") ac ⟨_,e,rfl⟩ (λs'=>qS s' k t) noFill_list_mul F.fills_int_mul F.slot_int_rmul repeat_list F.slot_int_index.lookup
  (kS F.slot_int_rmul (qS s k t) F.entry_int_rmul (F.args_int_rmul_2 _ _) (int___rmul___int_list k t l its.toArray n)
   ⟨e,rfl,⟨_,e,rfl⟩,kS F.slot_list_mul ⟨_,e,rfl⟩ F.entry_list_mul (F.args_list_mul_2 _ _) (AutoListH.list___mul___list_int_3 l its.toArray n k t hfit hcap hlong) ⟨e,?_⟩⟩)
 rw[hnew];exact⟨.ref _,_,I.lnew (t':=s.toks) (r.rep k.toNat) (by rw[c45,mul_comm];exact hz),rfl,q _ I.fresh⟩
end
section
variable {prog:Program}{w:World}{A:Around}{E:Value->Shared->Prop}{s:Shared}
set_option maxRecDepth 100000 in
end
end L2
namespace Att
open PySem PySem.W PySem.Calls PyProof.Rows
theorem bB5 {P:Params}: ∀(ns:List Int) (vs:List Value),WellAll P h vs (ns.map WData.int)->IntsAre vs ns:=by
 intro ns
 induction ns with
 | nil=>
  intro vs w;rw[fM]at w;cases w;exact .nil
 | cons n ns ih=>
  intro vs w;rw[bY]at w;cases w with
  | cons a b=>
   cases a;exact .cons _ _ (ih _ b)
theorem d43 {l:OpenLaw}{n:Nat}(hn:l.most=some n){P:Params}{h:Heap}{args:List WData}{vals:List Value}
  (hpre:l.row.toRowW.claim.pre args=true) (hwl:WellAll P h vals args) :
  ∃a vs ns,vals=[Value.ref a]/\args=[WData.list<|ns.map WData.int]/\h.get? a=some {cls:= .type "list",data:= .seq vs.toArray}/\IntsAre vs ns/\ns.length<=n:=by
 have hsh:WShape.hasAll [] args [.list .int]=true:=(pre_splitW hpre).1;have hc:l.pre.holds [] {args:=args}=true:=(pre_splitW hpre).2;obtain⟨d,r,rfl,h1,h2⟩:=hasAllW_cons hsh;obtain rfl:=hasAllW_nil h2;obtain⟨xs,rfl,h3⟩:=hasW_list h1;obtain⟨ns,rfl⟩:=items_int h3;have hlen:ns.length<=n:=by
  unfold OpenLaw.pre at hc;have h4:(WTm.not<|.lt (.lit<|.int (n:Int))<|.len<|.arg 0).holds [] {args:=[.list<|ns.map .int]}=true:=by
   have h4:=(holds_andW hc).1;rw[hn]at h4;exact h4
  have h5:=condW_of h4 (w_not<|w_lt w_lit<|w_len_list<|w_arg rfl);rw[aG]at h5;refine Nat.le_of_not_lt λq=> ?_
  have q':(n:Int)< ((ns.length:Nat):Int):=aa
  first
   | (rw[kO q']at h5;exact absurd h5 ac)
   | (simp at h5;omega)
 cases hwl with
 | cons w1 w2=>
  cases w2;cases w1 with
  | list ho hall=>exact⟨_,_,ns,rfl,rfl,ho,bB5 ns _ hall,hlen⟩
theorem d44 (l:OpenLaw)(args:List WData):l.row.toRowW.claim.post args (.bool true) args=true:=
 postW_of (r:=l.row.toRowW) (X:=(true==true))
  (show WShape.has [] (.bool true) .bool=true by first|rfl|decide|simp[WShape.has,WShape.arms,WShape.armsAll])
  (show(WTm.eq .res<|.lit<|.bool true).value [] {args:=args,res:=some (.bool true),after:=args}=some (.bool<|true==true)from w_eq_bool (w_res rfl) w_lit) rfl
theorem attach_call {l:OpenLaw}{XP:(Str->Option Value)->Heap->Prop}{d:DefRec}
  (hn:l.most=some n) (hdf:d.params.defaults=[])
  (call: ∀(w:World) (s₀ s₁:Shared) (mg mb:Str->Option Value) (fa:Addr) (o:Obj) (pm cd doc:Value) (a:Addr) (vs:List Value) (ns:List Int),
   Ground q loose [] XP w s₀ mg mb s₁.heap->YP w s₁.heap->
   s₁.heap.get? fa=some o->o.data= .func (docDef d.name d.params d.body d.scope pm cd doc)->s₁.heap.CodeRec cd d.name->mg d.name=some (.ref fa)->
   s₁.heap.get? a=some {cls:= .type "list",data:= .seq vs.toArray}->IntsAre vs ns->ns.length<=n->s₁.gens= #[]->
   codeAny (model l.prog w) callerA (.call (.ref fa) ⟨[.ref a],[]⟩) (λr s'=>r= .ok (.ret<|.bool true)/\OldK s₁.heap s'.heap/\s'.os=s₁.os/\AllBare s'.gens) s₁) :
  WalkO q loose XP YP l.row.toRowW d [] (λf vs=>PySem.call f vs):=by
 intro w s₀ s₁ mg mb G Y fa o pm cd doc dV kV ho hd hcd hD hmg hg args vals as hpre hlay hrd hwl hlo;obtain rfl:dV= .none:=Dflts.none hD hdf;obtain rfl:kV= .none:=Dflts.noKw hD;obtain⟨a,vs,ns,rfl,rfl,hobj,hints,hlen⟩:=d43 hn hpre hwl;refine enter_call (nZ (call w s₀ s₁ mg mb fa o pm cd doc a vs ns G Y ho (fd_plain hd) hcd hmg hobj hints hlen hg) λr s' hq=> ?_)
 obtain⟨rfl,h2,h3,h4⟩:=hq;exact⟨.inl ⟨.bool true,.bool true,[],rfl,λ_=>rfl,.bool true,d44 l _,λ_=>⟨List.Pairwise.nil,λ_ hm=>(nomatch hm)⟩⟩,h2,h3,h4⟩
end Att
namespace L2
theorem bW2: ∀{vs:List Value} {ns:List Int},IntsAre vs ns->Vals (ns.map V.int) vs
 | _,_,.nil=> .nil
 | _,_,.cons n t h=> .cons ⟨t,rfl⟩ (bW2 h)
def Only (H:Hp):Prop:= ∀b,H b=none\/ ∃o xs,H b=some (.frz o<|.lst xs)
theorem dC8 {P:Program}{w:World}{K:PySem.W.Frag}{mg mb:Str->Option Value}{CX:CXT}{k:Nat}{fa a:Addr}{fd:FuncData}{x:Str}{sp:Sp}{s₁:Shared}{vs:List Value}{ns:List Int}
  (KX:K.In s₁.heap) (hns:s₁.heap.Ns mainGlobals mg) (hb:s₁.heap.Ns builtinsNs mb) (hbb: ∀x:Str,x≠"__name__"->mb x=bootBuiltins x) (hlim:s₁.heap.NoLimit) (hg:s₁.gens= #[])
  (ha:s₁.heap.get? a=some {cls:= .type "list",data:= .seq vs.toArray}) (hi:IntsAre vs ns) (hl:ns.length<=sizeLine) (hr:gX k callerA)
  (F: ∀base:Heap,K.In base->base.Ns mainGlobals mg->sQ P w K mg base CX k fa fd [x] sp) (hbind: ∀(s:Shared) (u:Value),BindsTo s fd ⟨[u],[]⟩ [(x,u)])
  (hsp: ∀H:Hp,Only H->SqL K H a (ns.map V.int)->sp [.ref a] H (λv _=>v= .bl true) λ_ _ _=>False)
  (hCX: ∀H e s',CX [] H s₁ (λ_ _ _=>False) e s'->False) :
  codeAny (model P w) callerA (.call (.ref fa) ⟨[.ref a],[]⟩) (λr s'=>r= .ok (.ret<|.bool true)/\OldK s₁.heap s'.heap/\s'.os=s₁.os/\AllBare s'.gens) s₁:=by
 have rv:=bW2 hi;have lenV:=hi.length;have core: ∀H:Hp,Only H->SqL K H a (ns.map V.int)->HOk P w H s₁.heap->(∀b,H b≠none->b=a)->(H a≠none->K.lookup a=none)->
   codeAny (model P w) callerA (.call (.ref fa) ⟨[.ref a],[]⟩) (λr s'=>r= .ok (.ret<|.bool true)/\OldK s₁.heap s'.heap/\s'.os=s₁.os/\AllBare s'.gens) s₁:=by
  intro H hO hS hok hA hK;have base_of: ∀{b:Addr} {o:Obj},s₁.heap.get? b=some o->H b=none->(c35 s₁.heap H).get? b=some o:=λe n=>dA3 e n
  have noA: ∀{b:Addr} {o:Obj} {es:Array DictEntry} {ep:Nat},s₁.heap.get? b=some o->o.data= .dict es ep->H b=none:=λ{b o es ep} e d=>by
   cases q:H b with
   | none=>rfl
   | some u=>
    have e':b=a:=hA b (by rw[q];simp)
    subst e';rw[ha]at e;cases e;have d':Data.seq vs.toArray _=Data.dict es ep:=d;cases d'
  have nsK: ∀{b:Addr} {m:Str->Option Value},s₁.heap.Ns b m->(c35 s₁.heap H).Ns b m:=λ{b m} ⟨o,es,ep,e,d,r⟩=>⟨o,es,ep,base_of e<|noA e d,d,r⟩
  have hKb:K.In (c35 s₁.heap H):=λb o e=>base_of (KX b o e) (by
   cases q:H b with
   | none=>rfl
   | some u=>
    have e':b=a:=hA b (by rw[q];simp)
    subst e';rw[hK (by rw[q];simp)]at e;cases e)
  have hM:Mod K mg (c35 s₁.heap H):=⟨hKb,nsK hns,⟨mb,nsK hb,hbb⟩,let ⟨mc,h1,h2⟩:=hlim;⟨mc,nsK h1,h2⟩⟩;have e0:cP3 P w K mg (c35 s₁.heap H) callerA [] s₁ H:=⟨rfl,hM,λb o e=>dR3 e,le_of_eq<|d31 _ _,trivial,λb hb=>absurd (show b∈([]:List Addr)from hb) ae,hok,.of_eq hg⟩
  refine nZ ((F _ hKb<|nsK hns).run callerA [] s₁ H ⟨[.ref a],[]⟩ [.ref a] [.ref a] _ _ hr e0 (hbind s₁<|.ref a) (.cons rfl .nil)<|hsp H hO hS) λr s' h=> ?_
  cases r with
  | error e=>exact(hCX H e s' h).elim
  | ok fl=>
   cases fl with
   | next=>exact False.elim h
   | brk=>exact False.elim h
   | cont=>exact False.elim h
   | ret u=>
    obtain⟨v,H',os,bare,un,hok',r',q⟩:=h;have q':v= .bl true:=q;subst q';obtain rfl:u=Value.bool true:=r';refine⟨rfl,OldK.of_keep λb o e=> ?_,os,bare⟩
    cases q:H b with
    | none=>exact un.keep b o e q (by intro z;exact absurd (show b∈([]:List Addr)from z) ae) ae
    | some u=>
     rcases hO b with z| ⟨ob,xs,z⟩
     .rw[q]at z;cases z
     .have z2:=un.frzs b ob _ z;obtain⟨e1,_⟩:=hok b _ z;obtain⟨e2,_⟩:=hok' b _ z2;rw[e]at e1;cases e1;exact e2
 cases hk:K.lookup a with
 | some o=>
  have e:=KX a o hk;rw[ha]at e;cases e;refine core (λ_=>none) (λ_=> .inl rfl) (.inr ⟨_,vs.toArray,_,hk,rfl,rfl,rfl,by rw[bG,lenV];exact hl,by exists rv⟩) (λb u z=>by have z':(none:Option HO)=some u:=z;cases z') (λb z=>absurd rfl z) λz=>absurd rfl z
 | none=>
  refine core (λb=>if b=a then some (.frz {cls:= .type "list",data:= .seq vs.toArray}<|.lst<|ns.map V.int)else none) (λb=> ?_) (.inl<|.inr ⟨{cls:= .type "list",data:= .seq vs.toArray},a9 rfl⟩) (λb u z=> ?_) (λb z=> ?_) λ_=>hk
  .by_cases hb:b=a
   .exact .inr ⟨_,_,a9 hb⟩
   .exact .inl (a7 hb)
  .by_cases hb:b=a
   .have z':=(a9 hb).symm.trans z;cases z';subst hb;exact⟨ha,by rw[aG];exact hl,vs,_,rv,ha⟩
   .have z':=(a7 hb).symm.trans z;cases z'
  .by_cases hb:b=a
   .exact hb
   .exact absurd (a7 hb) z
theorem walk_of {l:PySem.W.OpenLaw}{XP:(Str->Option Value)->Heap->Prop}{d:DefRec}{K:Params->PySem.W.Frag}{CX:World->CXT}{sp:World->Sp}
  (hn:l.most=some n) (hn2:n<=sizeLine) (hdf:d.params.defaults=[]) (hr:gX k callerA)
  (hY: ∀(w:World) (h:Heap),YP w h->(K w.params).In h)
  (F: ∀(w:World) (mg:Str->Option Value) (fa:Addr) (h:Heap),(K w.params).In h->h.Ns mainGlobals mg->mg d.name=some (.ref fa)->
   ∃fd:FuncData,(∀(s:Shared) (u:Value),BindsTo s fd ⟨[u],[]⟩ [(x,u)])/\
    ∀base:Heap,(K w.params).In base->base.Ns mainGlobals mg->sQ l.prog w (K w.params) mg base (CX w) k fa fd [x] (sp w))
  (hsp: ∀(w:World) (H:Hp) (a:Addr) (ns:List Int),ns.length<=n->Only H->SqL (K w.params) H a (ns.map V.int)->sp w [.ref a] H (λv _=>v= .bl true) λ_ _ _=>False)
  (hCX: ∀(w:World) (H:Hp) (s:Shared) (e:Value) (s':Shared),CX w [] H s (λ_ _ _=>False) e s'->False) :
  PySem.W.WalkO q loose XP YP l.row.toRowW d [] (λf vs=>PySem.call f vs):=by
 refine Att.attach_call hn hdf λw s₀ s₁ mg mb fa o pm cd doc a vs ns G Y ho hd hcd hmg hobj hints hlen hg=> ?_
 have KX:=hY w _ Y;obtain⟨fd,hb,hF⟩:=F w mg fa _ KX G.T.g hmg;exact dC8 KX G.T.g G.T.b G.T.builtins G.T.nolimit hg hobj hints (aJ hlen hn2) hr hF hb (λH hO hS=>hsp w H a ns hlen hO hS) λH e s'=>hCX w H s₁ e s'
def jQ (s:Stmt):Arguments:=match s with
 | .FunctionDef _ a _ _ _ _ _ _ _ _=>a
 | _=>{posonlyargs:=[],args:=[],vararg:=none,kwonlyargs:=[],kw_defaults:=[],kwarg:=none,defaults:=[]}
def eF (s:Stmt):List Stmt:=match s with
 | .FunctionDef _ _ b _ _ _ _ _ _ _=>b
 | _=>[]
def aF (s:Stmt):Scope:=match s with
 | .FunctionDef _ _ _ _ _ _ sc _ _ _=>sc
 | _=>{kind:= .function,names:=[],isGenerator:=false,isCoroutine:=false}
abbrev CX0:CXT:=λ_ _ _ _ _ _=>False
abbrev E0:XK:=λ_ _ _=>False
structure Fun (K:PySem.W.Frag)(x qual:Str)(st:Stmt)(f:Addr)(fd:FuncData):Prop where
 ex: ∃(oc:Value) (od:Option Addr) (kV doc pm:Value) (an:Option Addr) (cdv ct:Value) (osl:Array (Option Value)),
  fd=fnOf x qual (jQ st) (eF st) (aF st) .none kV doc pm an cdv ct/\K.lookup f=some ⟨oc,od,.func fd,osl⟩/\codeIn K cdv qual=true
 kp:keepIn K (.ref f)=true
section
variable {P:Program}{w:World}{K:PySem.W.Frag}{mg:Str->Option Value}{base:Heap}
theorem Fun.ok {ps:List Str}{sp:Sp}(F:Fun K x qual st f fd)(S:aX N ps (aF st))(len: ∀vs H Q E,sp vs H Q E->vs.length=ps.length)
  (hbody: ∀(cdv:Value) (A:Around) (outer:List Env) (s:Shared) (H:Hp) (vs:List V) (Q:VK) (E:XK),gX k (A.deeper<|envOfC qual (aF st) s.heap.objs.size f cdv)->sp vs H Q E->
   ∃t,PSs (uS CX0 P w K mg base N qual (aF st) f cdv A outer s H E).nox (eF st) t/\t {nx:=λ_ H'=>Q .non H',rt:=Q} (start N vs) H):sQ<$>CX0 (k+1) f fd ps sp:=by
 obtain⟨oc,od,kV,doc,pm,an,cdv,ct,osl,rfl,lk,hcd⟩:=F.ex;refine dC2 lk hcd S len λA outer s H vs Q E hr hsp=> ?_
 obtain⟨t,h,q⟩:=hbody cdv A outer s H vs Q E hr hsp;exact⟨t,h.nox,q⟩
theorem Fun.binds {ps:List Str}(F:Fun K x qual st f fd)
  (h: ∀(kV doc pm:Value) (an:Option Addr) (cdv ct:Value) (us:List Value),us.length=ps.length->bindArgs (fnOf x qual (jQ st) (eF st) (aF st) .none kV doc pm an cdv ct) ⟨us,[]⟩=pure (ps.zip us)):Binds K fd ps []:=by
 obtain⟨oc,od,kV,doc,pm,an,cdv,ct,osl,rfl,lk,hcd⟩:=F.ex;exact .all (h kV doc pm an cdv ct)
theorem b33 {oc:Value}{an:Option Addr}{osl:Array (Option Value)}{kV doc pm cdv ct:Value}(l:K.lookup f=some ⟨oc,od,.func<|fnOf x qual (jQ st) (eF st) (aF st) .none kV doc pm an cdv ct,osl⟩)
  (c:codeIn K cdv qual=true) (k:keepIn K (.ref f)=true):Fun K x qual st f (fnOf x qual (jQ st) (eF st) (aF st) .none kV doc pm an cdv ct):=⟨⟨oc,od,kV,doc,pm,an,cdv,ct,osl,rfl,l,c⟩,k⟩
end
section
variable {X:Cx}
theorem pv (i:Nat)(hN:↥(X.N[i]? =some x))(hv:Vis X.env.scope x:=by first|exact Or.inl rfl|exact Or.inr (Or.inl rfl)|exact Or.inr (Or.inr rfl))(hd:⇑(x∪0))
  (hcd:⇑((x==("__classdict__":Str))=false)):PE X (.Name x pos) (aB0 i):=pe_var hN hv hd hcd
end
def i6 (H H':Hp):Prop:= ∀b o,H b=some o->H' b=some o
theorem i6.refl (H:Hp):i6 H H:=λ_ _ h=>h
theorem i6.trans {H H1 H2:Hp}(a:i6 H H1)(b:i6 H1 H2):i6 H H2:=λc o h=>b c o (a c o h)
theorem i6.free {H H':Hp}(e:i6 H H')(h:H' l=Option.none):H l=Option.none:=by
 cases q:H l with
 | none=>rfl
 | some o=>
  rw[e l o q]at h;cases h
theorem i6.seq {H H':Hp}{xs:List V}(e:i6 H H')(h:SqL K H a xs):SqL K H' a xs:=by
 rcases h with(h| ⟨o,h⟩)|h
 .exact .inl (.inl<|e _ _ h)
 .exact .inl (.inr ⟨o,e _ _ h⟩)
 .exact .inr h
end L2
namespace M
inductive D where
 | non|bl (b:Bool)|int (i:Int)|str (x:Str)|ty (n:String)
 | tup (l:List D)|lst (l:List D)|rol (l:List D)
 | obj (C:Addr) (ks:List Str) (l:List D)
 | adr (a:Addr)
 | xob (a d:Addr) (ks:List Str) (l:List D)
abbrev AS:=Addr->Prop
def KT (K:PySem.W.Frag)(a:Addr)(vs:List V):Prop:=
 ∃(o:Obj) (its:Array Value) (n:Nat),K.lookup a=some o/\o.cls= .type "tuple"/\o.data= .seq its n/\its.size<=sizeLine/\Vals vs its.toList
def KL (K:PySem.W.Frag)(a:Addr)(vs:List V):Prop:=
 ∃(o:Obj) (its:Array Value) (n:Nat),K.lookup a=some o/\o.cls= .type "list"/\o.dict=none/\o.data= .seq its n/\its.size<=sizeLine/\Vals vs its.toList
def OkC (K:PySem.W.Frag)(C:Addr)(ks:List Str):Prop:=Cls K C/\ ∀f∈ks,aB1 K C f
mutual
def Rep (K:PySem.W.Frag)(A:AS)(H:Hp):D->V->Prop
 | .non,v=>v= .non
 | .bl b,v=>v= .bl b
 | .int i,v=>v= .int i
 | .str x,v=>v= .str x
 | .ty n,v=>v= .ty n
 | .tup l,v=> ∃a vs,v= .ref a/\((¬A a/\Rd H a (.tup vs))\/KT K a vs)/\cE K A H l vs
 | .lst l,v=> ∃a vs,v= .ref a/\ ¬A a/\H a=some (.lst vs)/\cE K A H l vs
 | .rol l,v=> ∃a vs,v= .ref a/\((¬A a/\Rd H a (.lst vs))\/KL K a vs)/\cE K A H l vs
 | .obj C ks l,v=> ∃a dx vs,v= .ref a/\ ¬A a/\H a=some (.ins C dx<|ks.zip vs)/\ks.length=vs.length/\cE K A H l vs/\OkC K C ks
 | .adr a,v=>v= .ref a
 | .xob a d ks l,v=> ∃vs,v= .ref a/\ ¬A d/\H d=some (.xd<|ks.zip vs)/\ks.length=vs.length/\cE K A H l vs
def cE (K:PySem.W.Frag)(A:AS)(H:Hp):List D->List V->Prop
 | [],vs=>vs=[]
 | d::ds,vs=> ∃v vr,vs=v::vr/\Rep K A H d v/\cE K A H ds vr
end
section
variable {K:PySem.W.Frag}{A A':AS}{H H':Hp}
def mY (A:AS)(H:Hp)(A':AS)(H':Hp):Prop:= ∀b o,¬A b->H b=some o-> ¬A' b/\H' b=some o
theorem Rd.pres (p:mY A H A' H'){u:HO}(n: ¬A a)(r:Rd H a u): ¬A' a/\Rd H' a u:=by
 rcases r with r| ⟨o,r⟩
 .exact⟨(p a _ n r).1,.inl (p a _ n r).2⟩
 .exact⟨(p a _ n r).1,.inr ⟨o,(p a _ n r).2⟩⟩
mutual
theorem Rep.mono (p:mY A H A' H'): ∀{d:D} {v:V},Rep K A H d v->Rep K A' H' d v
 | .non,_,h=>h
 | .bl _,_,h=>h
 | .int _,_,h=>h
 | .str _,_,h=>h
 | .ty _,_,h=>h
 | .tup l,v,h=>by
  simp only[Rep]at h⊢;obtain⟨a,vs,e,c,r⟩:=h;refine⟨a,vs,e,?_,cE.mono p r⟩;rcases c with⟨n,c⟩|c
  .exact .inl (Rd.pres p n c)
  .exact .inr c
 | .lst l,v,h=>by
  simp only[Rep]at h⊢;obtain⟨a,vs,e,n,c,r⟩:=h;exact⟨a,vs,e,(p a _ n c).1,(p a _ n c).2,cE.mono p r⟩
 | .rol l,v,h=>by
  simp only[Rep]at h⊢;obtain⟨a,vs,e,c,r⟩:=h;refine⟨a,vs,e,?_,cE.mono p r⟩;rcases c with⟨n,c⟩|c
  .exact .inl (Rd.pres p n c)
  .exact .inr c
 | .obj C ks l,v,h=>by
  simp only[Rep]at h⊢;obtain⟨a,dx,vs,e,n,c,hl,r,ok⟩:=h;exact⟨a,dx,vs,e,(p a _ n c).1,(p a _ n c).2,hl,cE.mono p r,ok⟩
 | .adr _,_,h=>h
 | .xob a d ks l,v,h=>by
  simp only[Rep]at h⊢;obtain⟨vs,e,n,c,hl,r⟩:=h;exact⟨vs,e,(p d _ n c).1,(p d _ n c).2,hl,cE.mono p r⟩
theorem cE.mono (p:mY A H A' H'): ∀{l:List D} {vs:List V},cE K A H l vs->cE K A' H' l vs
 | [],_,h=>by simp only[cE]at h ⊢; exact h
 | d::ds,vs,h=>by
  simp only[cE]at h⊢;obtain⟨v,vr,e,r,rs⟩:=h;exact⟨v,vr,e,Rep.mono p r,cE.mono p rs⟩
end
theorem cE.length: ∀{l:List D} {vs:List V},cE K A H l vs->l.length=vs.length
 | [],_,h=>by simp only[cE]at h;subst h;rfl
 | d::ds,vs,h=>by
  simp only[cE]at h;obtain⟨v,vr,rfl,_,rs⟩:=h;simp only[cY,cE.length rs]
theorem cE.nil:cE K A H [] []:=by simp only[cE]
theorem cE.cons {d:D}{v:V}{l:List D}{vs:List V}(r:Rep K A H d v)(rs:cE K A H l vs):cE K A H (d::l) (v::vs):=by
 simp only[cE];exact⟨v,vs,rfl,r,rs⟩
theorem cE.uncons {d:D}{l:List D}{vs:List V}(h:cE K A H (d::l) vs): ∃v vr,vs=v::vr/\Rep K A H d v/\cE K A H l vr:=by
 simpa only[cE]using h
theorem cE.unnil {vs:List V}(h:cE K A H [] vs):vs=[]:=by simpa only[cE]using h
theorem cE.append: ∀{l m:List D} {vs ws:List V},cE K A H l vs->cE K A H m ws->cE K A H (l++m) (vs++ws)
 | [],_,_,_,h,g=>by rw[h.unnil];exact g
 | d::l,m,vs,ws,h,g=>by
  obtain⟨v,vr,rfl,r,rs⟩:=h.uncons;exact .cons r (cE.append rs g)
theorem cE.get: ∀{l:List D} {vs:List V} {i:Nat} {d:D},cE K A H l vs->l[i]? =some d-> ∃v,vs[i]? =some v/\Rep K A H d v
 | [],_,_,_,_,e=>by simp at e
 | d::l,vs,0,d',h,e=>by
  obtain⟨v,vr,rfl,r,rs⟩:=h.uncons;simp at e;subst e;exact⟨v,ae,r⟩
 | d::l,vs,i+1,d',h,e=>by
  obtain⟨v,vr,rfl,r,rs⟩:=h.uncons;obtain⟨w,h1,h2⟩:=cE.get (i:=i) rs (by exists e)
  exact⟨w,by simpa using h1,h2⟩
theorem cE.set: ∀{l:List D} {vs:List V} {d:D} {v:V} (i:Nat),cE K A H l vs->Rep K A H d v->cE K A H (l.set i d) (vs.set i v)
 | [],_,_,_,_,h,_=>by rw[h.unnil];exact .nil
 | d'::l,vs,d,v,0,h,g=>by
  obtain⟨w,vr,rfl,r,rs⟩:=h.uncons;exact .cons g rs
 | d'::l,vs,d,v,i+1,h,g=>by
  obtain⟨w,vr,rfl,r,rs⟩:=h.uncons;exact .cons r (cE.set i rs g)
theorem cE.drop: ∀{l:List D} {vs:List V} (n:Nat),cE K A H l vs->cE K A H (l.drop n) (vs.drop n)
 | _,_,0,h=>h
 | [],_,n+1,h=>by rw[h.unnil];exact .nil
 | d::l,vs,n+1,h=>by
  obtain⟨v,vr,rfl,r,rs⟩:=h.uncons;exact cE.drop n rs
theorem cE.take: ∀{l:List D} {vs:List V} (n:Nat),cE K A H l vs->cE K A H (l.take n) (vs.take n)
 | _,_,0,h=>by simp only[a19];exact .nil
 | [],_,n+1,h=>by rw[h.unnil];exact .nil
 | d::l,vs,n+1,h=>by
  obtain⟨v,vr,rfl,r,rs⟩:=h.uncons;exact .cons r (cE.take n rs)
theorem cE.rep {l:List D}{vs:List V}(h:cE K A H l vs): ∀k:Nat,cE K A H (replicate k l).flatten (replicate k vs).flatten
 | 0=> .nil
 | k+1=>by
  rw[kK,kK,nT,nT];exact .append h (h.rep k)
theorem mY.same (s:i6 H H'):mY A H A H':=λb o n e=>⟨n,s b o e⟩
theorem mY.sub (s:i6 H H')(h: ∀a,A' a->A a):mY A H A' H':=λb o n e=>⟨λq=>n (h b q),s b o e⟩
theorem mY.fresh (s:i6 H H')(n:H a=none):mY A H (λb=>A b\/b=a) H':=λb o nb e=>
 ⟨λq=>q.elim nb λz=>(by subst z;rw[n]at e;cases e),s b o e⟩
theorem mY.upd {a:Addr}{o:HO}(h:A a):mY A H A (upd H a o):=λb o' nb e=>⟨nb,by rw[cL λz=>nb (by subst z;exact h)];exact e⟩
end
inductive B where
 | pu (d:D)|ow (l:List D)|bo (l:List D)
nonrec def B.d:B->D
 | .pu d=>d
 | .ow l=> .lst l
 | .bo l=> .lst l
abbrev Ev:=List (Option B)
def Own (ρ:Ev)(σ:L2.St):AS:=λa=> ∃(i:Nat) (l:List D),ρ[i]? =some (some<|.ow l)/\σ[i]? =some (some<|.ref a)
structure C0 where
 H0:Hp
 A0:AS
def Av (C:C0)(ρ:Ev)(σ:L2.St):AS:=λa=>C.A0 a\/Own ρ σ a
structure EOk (K:PySem.W.Frag)(C:C0)(ρ:Ev)(σ:L2.St)(H:Hp):Prop where
 len:ρ.length=σ.length
 pu: ∀(i:Nat) (d:D),ρ[i]? =some (some<|.pu d)-> ∃v,σ[i]? =some (some v)/\Rep K (Av C ρ σ) H d v
 ow: ∀(i:Nat) (l:List D),ρ[i]? =some (some<|.ow l)-> ∃a vs,σ[i]? =some (some<|.ref a)/\H a=some (.lst vs)/\C.H0 a=none/\cE K (Av C ρ σ) H l vs
 inj: ∀(i j:Nat) (l l':List D) (a:Addr),ρ[i]? =some (some<|.ow l)->ρ[j]? =some (some<|.ow l')->σ[i]? =some (some<|.ref a)->σ[j]? =some (some<|.ref a)->i=j
 bo: ∀(i:Nat) (l:List D),ρ[i]? =some (some<|.bo l)-> ∃a vs,σ[i]? =some (some<|.ref a)/\C.A0 a/\C.H0 a=some (.lst vs)/\cE K (Av C ρ σ) H l vs
 ext:i6 C.H0 H
 a0: ∀a,C.A0 a->C.H0 a≠none
section
variable {K:PySem.W.Frag}{C:C0}{ρ ρ':Ev}{σ σ':L2.St}{H H':Hp}
theorem EOk.avSome (I:EOk K C ρ σ H)(h:Av C ρ σ a):H a≠none:=by
 rcases h with h| ⟨i,l,h1,h2⟩
 .intro z;cases e:C.H0 a with
  | none=>exact I.a0 a h e
  | some o=>rw[I.ext a o e]at z;cases z
 .obtain⟨b,vs,h3,h4,_⟩:=I.ow i l h1;rw[h2]at h3;cases h3;rw[h4];simp
theorem EOk.same (I:EOk K C ρ σ H)(s:i6 H H'):EOk K C ρ σ H' where
 len:=I.len
 pu:=λi d h=>let ⟨v,h1,h2⟩:=I.pu i d h;⟨v,h1,h2.mono<|.same s⟩
 ow:=λi l h=>let ⟨a,vs,h1,h2,h3,h4⟩:=I.ow i l h;⟨a,vs,h1,s _ _ h2,h3,h4.mono<|.same s⟩
 inj:=I.inj
 bo:=λi l h=>let ⟨a,vs,h1,h2,h3,h4⟩:=I.bo i l h;⟨a,vs,h1,h2,h3,h4.mono<|.same s⟩
 ext:=I.ext.trans s
 a0:=I.a0
theorem get_set_ne {l:List α}{x:α}(h:i≠j):(l.set i x)[j]? =l[j]? :=by
 rw[aQ5];simp[h]
theorem iJ {l:List α}{x:α}(h:i<l.length):(l.set i x)[i]? =some x:=by
 rw[aQ5];simp[h]
theorem bI {l:List α}{x y:α}(h:(l.set i x)[j]? =some y):(i=j/\y=x/\i<l.length)\/(i≠j/\l[j]? =some y):=by
 by_cases e:i=j
 .subst e;rw[aQ5]at h
  by_cases hl:i<l.length
  .simp[hl]at h;exact .inl ⟨rfl,h.symm,hl⟩
  .simp[hl]at h
 .exact .inr ⟨e,by rw[get_set_ne e]at h;exact h⟩
def qV (K:PySem.W.Frag)(A:AS)(H H':Hp):B->V->Prop
 | .pu d,v=>Rep K A H' d v
 | .ow l,v=> ∃a vs,v= .ref a/\H a=none/\H' a=some (.lst vs)/\cE K (λb=>A b\/b=a) H' l vs
 | .bo _,_=>False
theorem qV.rep {A:AS}(hA: ∀a,A a->H a≠none): ∀{b:B} {v:V},qV K A H H' b v->Rep K A H' b.d v
 | .pu d,v,h=>h
 | .ow l,v,h=>by
  obtain⟨a,vs,e,n,h1,r⟩:=h;show Rep K A H' (.lst l) v;simp only[Rep];exact⟨a,vs,e,λz=>hA a z n,h1,r.mono λb o nb q=>⟨λz=>nb (.inl z),q⟩⟩
 | .bo l,v,h=>h.elim
theorem EOk.store (I:EOk K C ρ σ H){b:B}{v:V}{H1:Hp}(s:i6 H H1)(r:qV K (Av C ρ σ) H H1 b v)(hi:i<σ.length):EOk K C (ρ.set i<|some b) (σ.set i<|some v) H1:=by
 have I1:=I.same s;have hir:i<ρ.length:=by rw[I.len];exact hi
 cases b with
 | pu d=>
  have sub: ∀a,Av C (ρ.set i<|some<|.pu d) (σ.set i<|some v) a->Av C ρ σ a:=by
   rintro a (z| ⟨j,l,h1,h2⟩)
   .exact .inl z
   .rcases bI h1 with⟨rfl,h3,_⟩| ⟨ne,h3⟩
    .cases h3
    .rw[get_set_ne ne]at h2;exact .inr ⟨j,l,h3,h2⟩
  refine⟨by rw[eH,eH];exact I.len,?_,?_,?_,?_,I1.ext,I.a0⟩
  rotate_right
  .intro j l h;rcases bI h with⟨rfl,h3,_⟩| ⟨ne,h3⟩
   .cases h3
   .obtain⟨a,vs,h4,h5,h6,h7⟩:=I1.bo j l h3;exact⟨a,vs,by rw[get_set_ne ne];exact h4,h5,h6,h7.mono<|.sub (.refl _) sub⟩
  .intro j d' h;rcases bI h with⟨rfl,h3,_⟩| ⟨ne,h3⟩
   .cases h3;exact⟨v,iJ hi,Rep.mono (.sub (.refl _) sub) r⟩
   .obtain⟨v',h4,h5⟩:=I1.pu j d' h3;exact⟨v',by rw[get_set_ne ne];exact h4,h5.mono<|.sub (.refl _) sub⟩
  .intro j l h;rcases bI h with⟨rfl,h3,_⟩| ⟨ne,h3⟩
   .cases h3
   .obtain⟨a,vs,h4,h5,h6,h7⟩:=I1.ow j l h3;exact⟨a,vs,by rw[get_set_ne ne];exact h4,h5,h6,h7.mono<|.sub (.refl _) sub⟩
  .intro j k l l' a h1 h2 h3 h4;rcases bI h1 with⟨rfl,z,_⟩| ⟨ne,z⟩
   .cases z
   .rcases bI h2 with⟨rfl,z',_⟩| ⟨ne',z'⟩
    .cases z'
    .rw[get_set_ne ne]at h3;rw[get_set_ne ne']at h4;exact I.inj j k l l' a z z' h3 h4
 | ow l0=>
  obtain⟨a0,vs0,rfl,n0,e0,r0⟩:=r;have sub: ∀a,Av C (ρ.set i<|some<|.ow l0) (σ.set i<|some<|.ref a0) a->Av C ρ σ a\/a=a0:=by
   rintro a (z| ⟨j,l,h1,h2⟩)
   .exact .inl (.inl z)
   .rcases bI h1 with⟨rfl,h3,_⟩| ⟨ne,h3⟩
    .rw[iJ hi]at h2;cases h2;exact .inr rfl
    .rw[get_set_ne ne]at h2;exact .inl (.inr ⟨j,l,h3,h2⟩)
  have P:mY (Av C ρ σ) H (Av C (ρ.set i<|some<|.ow l0)<|σ.set i<|some<|.ref a0) H1:=λb o nb e=>
   ⟨λq=>(sub b q).elim nb λz=>(by subst z;rw[n0]at e;cases e),s b o e⟩
  refine⟨by rw[eH,eH];exact I.len,?_,?_,?_,?_,I1.ext,I.a0⟩
  rotate_right
  .intro j l h;rcases bI h with⟨rfl,h3,_⟩| ⟨ne,h3⟩
   .cases h3
   .obtain⟨a,vs,h4,h5,h6,h7⟩:=I.bo j l h3;exact⟨a,vs,by rw[get_set_ne ne];exact h4,h5,h6,h7.mono P⟩
  .intro j d' h;rcases bI h with⟨rfl,h3,_⟩| ⟨ne,h3⟩
   .cases h3
   .obtain⟨v',h4,h5⟩:=I.pu j d' h3;exact⟨v',by rw[get_set_ne ne];exact h4,h5.mono P⟩
  .intro j l h;rcases bI h with⟨rfl,h3,_⟩| ⟨ne,h3⟩
   .cases h3;refine⟨a0,vs0,iJ hi,e0,?_,r0.mono λb o nb q=>⟨λz=>nb (sub b z),q⟩⟩
    cases e:C.H0 a0 with
    | none=>rfl
    | some o=>rw[I.ext _ _ e]at n0;cases n0
   .obtain⟨a,vs,h4,h5,h6,h7⟩:=I.ow j l h3;exact⟨a,vs,by rw[get_set_ne ne];exact h4,s _ _ h5,h6,h7.mono P⟩
  .intro j k l l' a h1 h2 h3 h4;have old: ∀{j:Nat} {l:List D},ρ[j]? =some (some<|.ow l)->σ[j]? ≠some (some<|.ref a0):=λ{j l} h z=>by
    obtain⟨b,vs,h4,h5,_⟩:=I.ow j l h;rw[z]at h4;cases h4;rw[n0]at h5;cases h5
   rcases bI h1 with⟨rfl,z,_⟩| ⟨ne,z⟩
   .rw[iJ hi]at h3;cases h3;rcases bI h2 with⟨rfl,z',_⟩| ⟨ne',z'⟩
    .rfl
    .rw[get_set_ne ne']at h4;exact absurd h4 (old z')
   .rw[get_set_ne ne]at h3;rcases bI h2 with⟨rfl,z',_⟩| ⟨ne',z'⟩
    .rw[iJ hi]at h4;cases h4;exact absurd h3 (old z)
    .rw[get_set_ne ne']at h4;exact I.inj j k l l' a z z' h3 h4
 | bo l0=>exact r.elim
theorem EOk.freeze (I:EOk K C ρ σ H){l:List D}(h:ρ[i]? =some (some<|.ow l)) :
  EOk K C (ρ.set i<|some<|.pu<|.lst l) σ H/\(∀a,Own (ρ.set i<|some<|.pu<|.lst l) σ a->Own ρ σ a)/\ ∃v,σ[i]? =some (some v)/\Rep K (Av C (ρ.set i<|some<|.pu<|.lst l) σ) H (.lst l) v:=by
 have sub: ∀a,Own (ρ.set i<|some<|.pu<|.lst l) σ a->Own ρ σ a:=by
  rintro a ⟨j,l',h1,h2⟩;rcases bI h1 with⟨rfl,h3,_⟩| ⟨ne,h3⟩
  .cases h3
  .exact⟨j,l',h3,h2⟩
 have subA: ∀a,Av C (ρ.set i<|some<|.pu<|.lst l) σ a->Av C ρ σ a:=λa z=>z.imp id (sub a)
 obtain⟨a,vs,h1,h2,h3,h4⟩:=I.ow i l h;have na: ¬Av C (ρ.set i<|some<|.pu<|.lst l) σ a:=by
  rintro(z| ⟨j,l',g1,g2⟩)
  .exact I.a0 a z h3
  .rcases bI g1 with⟨rfl,g3,_⟩| ⟨ne,g3⟩
   .cases g3
   .exact ne (I.inj i j l l' a h g3 h1 g2)
 have R:Rep K (Av C (ρ.set i<|some<|.pu<|.lst l) σ) H (.lst l) (.ref a):=by
  simp only[Rep];exact⟨a,vs,rfl,na,h2,h4.mono<|.sub (.refl _) subA⟩
 refine⟨⟨by rw[eH];exact I.len,?_,?_,?_,?_,I.ext,I.a0⟩,sub,.ref a,h1,R⟩
 rotate_right
 .intro j l' g;rcases bI g with⟨rfl,g3,_⟩| ⟨ne,g3⟩
  .cases g3
  .obtain⟨a',vs',g4,g5,g6,g7⟩:=I.bo j l' g3;exact⟨a',vs',g4,g5,g6,g7.mono<|.sub (.refl _) subA⟩
 .intro j d' g;rcases bI g with⟨rfl,g3,_⟩| ⟨ne,g3⟩
  .cases g3;exact⟨_,h1,R⟩
  .obtain⟨v',g4,g5⟩:=I.pu j d' g3;exact⟨v',g4,g5.mono<|.sub (.refl _) subA⟩
 .intro j l' g;rcases bI g with⟨rfl,g3,_⟩| ⟨ne,g3⟩
  .cases g3
  .obtain⟨a',vs',g4,g5,g6,g7⟩:=I.ow j l' g3;exact⟨a',vs',g4,g5,g6,g7.mono<|.sub (.refl _) subA⟩
 .intro j k l1 l2 a' g1 g2 g3 g4;rcases bI g1 with⟨rfl,z,_⟩| ⟨ne,z⟩
  .cases z
  .rcases bI g2 with⟨rfl,z',_⟩| ⟨ne',z'⟩
   .cases z'
   .exact I.inj j k l1 l2 a' z z' g3 g4
theorem EOk.write (I:EOk K C ρ σ H){l l':List D}{vs':List V}(h:ρ[i]? =some (some<|.ow l))(hs:σ[i]? =some (some<|.ref a))(r:cE K (Av C ρ σ) H l' vs') :
  EOk K C (ρ.set i<|some<|.ow l') σ (upd H a<|.lst vs'):=by
 have hi:i<ρ.length:=(jD.mp h).1;have sub: ∀b,Av C (ρ.set i<|some<|.ow l') σ b->Av C ρ σ b:=by
  rintro b (z| ⟨j,l2,h1,h2⟩)
  .exact .inl z
  .rcases bI h1 with⟨rfl,h3,_⟩| ⟨ne,h3⟩
   .exact .inr ⟨i,l,h,h2⟩
   .exact .inr ⟨j,l2,h3,h2⟩
 have own:Av C ρ σ a:= .inr ⟨i,l,h,hs⟩;have P:mY (Av C ρ σ) H (Av C (ρ.set i<|some<|.ow l') σ) (upd H a<|.lst vs'):=λb o nb e=>⟨λz=>nb (sub b z),(mY.upd own b o nb e).2⟩
 obtain⟨a1,vs,h1,h2,h3,h4⟩:=I.ow i l h;rw[hs]at h1;cases h1;refine⟨by rw[eH];exact I.len,?_,?_,?_,?_,?_,I.a0⟩
 rotate_left 3
 .intro j l2 g;rcases bI g with⟨rfl,g3,_⟩| ⟨ne,g3⟩
  .cases g3
  .obtain⟨a',vs',g4,g5,g6,g7⟩:=I.bo j l2 g3;exact⟨a',vs',g4,g5,g6,g7.mono P⟩
 rotate_left 1
 .intro j d' g;rcases bI g with⟨rfl,g3,_⟩| ⟨ne,g3⟩
  .cases g3
  .obtain⟨v',g4,g5⟩:=I.pu j d' g3;exact⟨v',g4,g5.mono P⟩
 .intro j l2 g;rcases bI g with⟨rfl,g3,_⟩| ⟨ne,g3⟩
  .cases g3;exact⟨a,vs',hs,iY,h3,r.mono P⟩
  .obtain⟨a',vs2,g4,g5,g6,g7⟩:=I.ow j l2 g3;refine⟨a',vs2,g4,?_,g6,g7.mono P⟩;rw[cL λz=> ?_]
   .exact g5
   .subst z;exact ne (I.inj i j l l2 a' h g3 hs g4)
 .intro j k l1 l2 a' g1 g2 g3 g4;have old: ∀{j:Nat} {l1:List D},(ρ.set i<|some<|.ow l')[j]? =some (some<|.ow l1)-> ∃l3,ρ[j]? =some (some<|.ow l3):=λ{j l1} g=>by
   rcases bI g with⟨rfl,z,_⟩| ⟨ne,z⟩
   .exact⟨l,h⟩
   .exact⟨l1,z⟩
  obtain⟨_,q1⟩:=old g1;obtain⟨_,q2⟩:=old g2;exact I.inj j k _ _ a' q1 q2 g3 g4
 .intro b o e;rw[cL λz=> ?_]
  .exact I.ext b o e
  .subst z;rw[h3]at e;cases e
nonrec def C0.raise (C:C0)(ρ:Ev)(σ:L2.St)(H:Hp)(D:(a:Addr)->Decidable (Own ρ σ a)):C0:=⟨λb=> @ite _ (Own ρ σ b) (D b) none (H b),C.A0⟩
open Classical in
theorem EOk.raise (I:EOk K C ρ σ H):EOk K (C.raise ρ σ H λ_=>inferInstance) ρ σ H/\i6 C.H0 (C.raise ρ σ H λ_=>inferInstance).H0:=by
 have e1: ∀b,Own ρ σ b->(C.raise ρ σ H λ_=>inferInstance).H0 b=none:=λb h=>a9 h
 have e2: ∀b,¬Own ρ σ b->(C.raise ρ σ H λ_=>inferInstance).H0 b=H b:=λb h=>a7 h
 have no: ∀b o,C.H0 b=some o-> ¬Own ρ σ b:=λb o e ⟨i,l,h1,h2⟩=>by
  obtain⟨a,vs,h3,h4,h5,_⟩:=I.ow i l h1;rw[h2]at h3;cases h3;rw[h5]at e;cases e
 have s1:i6 C.H0 (C.raise ρ σ H λ_=>inferInstance).H0:=λb o e=>by rw[e2 b<|no b o e];exact I.ext b o e
 refine⟨⟨I.len,I.pu,λi l h=> ?_,I.inj,λi l h=> ?_,λb o e=> ?_,λa h z=> ?_⟩,s1⟩
 .obtain⟨a,vs,h3,h4,h5,h6⟩:=I.ow i l h;exact⟨a,vs,h3,h4,e1 a ⟨i,l,h,h3⟩,h6⟩
 .obtain⟨a,vs,h3,h4,h5,h6⟩:=I.bo i l h;exact⟨a,vs,h3,h4,s1 _ _ h5,h6⟩
 .by_cases q:Own ρ σ b
  .rw[e1 b q]at e;cases e
  .rw[e2 b q]at e;exact e
 .cases e:C.H0 a with
  | none=>exact I.a0 a h e
  | some o=>rw[s1 a o e]at z;cases z
theorem EOk.lower {C C':C0}(I:EOk K C' ρ σ H)(s:i6 C.H0 C'.H0)(e:C'.A0=C.A0)(ha: ∀a,C.A0 a->C.H0 a≠none):EOk K C ρ σ H:=by
 obtain⟨H0',A0'⟩:=C';obtain⟨H0,A0⟩:=C;have e':A0'=A0:=e;subst e';refine⟨I.len,I.pu,λi l h=> ?_,I.inj,λi l h=> ?_,s.trans I.ext,ha⟩
 .obtain⟨a,vs,h3,h4,h5,h6⟩:=I.ow i l h;exact⟨a,vs,h3,h4,s.free h5,h6⟩
 .obtain⟨a,vs,h3,h4,h5,h6⟩:=I.bo i l h;refine⟨a,vs,h3,h4,?_,h6⟩;cases e:H0 a with
  | none=>exact absurd e (ha a h4)
  | some o=>
   have:=s a o e;have h5':H0' a=some (.lst vs):=h5;have this':H0' a=some o:=this;rw[h5']at this';cases this';exact e
end
def Frz (ρ ρ':Ev):Prop:=ρ'.length=ρ.length/\ ∀i:Nat,ρ'[i]? =ρ[i]? \/ ∃l:List D,ρ[i]? =some (some<|.ow l)/\ρ'[i]? =some (some<|.pu<|.lst l)
theorem Frz.refl (ρ:Ev):Frz ρ ρ:=⟨rfl,λ_=> .inl rfl⟩
theorem Frz.trans {a b c:Ev}(h:Frz a b)(g:Frz b c):Frz a c:=by
 refine⟨g.1.trans h.1,λi=> ?_⟩
 rcases g.2 i with e| ⟨l,e1,e2⟩
 .rcases h.2 i with e'| ⟨l,e1,e2⟩
  .exact .inl (e.trans e')
  .exact .inr ⟨l,e1,e.trans e2⟩
 .rcases h.2 i with e'| ⟨l',e3,e4⟩
  .exact .inr ⟨l,e'▸e1,e2⟩
  .rw[e4]at e1;cases e1
theorem Frz.own {ρ ρ':Ev}{σ:L2.St}(f:Frz ρ ρ')(h:Own ρ' σ a):Own ρ σ a:=by
 obtain⟨i,l,h1,h2⟩:=h;rcases f.2 i with e| ⟨l',_,e2⟩
 .exact⟨i,l,e▸h1,h2⟩
 .rw[e2]at h1;cases h1
theorem Frz.set {ρ:Ev}{l:List D}(h:ρ[i]? =some (some<|.ow l)):Frz ρ (ρ.set i<|some<|.pu<|.lst l):=by
 refine⟨eH,λj=> ?_⟩
 by_cases e:i=j
 .subst e;exact .inr ⟨l,h,iJ (jD.mp h).1⟩
 .exact .inl (get_set_ne e)
section
variable {K:PySem.W.Frag}{C:C0}{ρ ρ':Ev}{σ:L2.St}{H H':Hp}
theorem Frz.av (f:Frz ρ ρ')(h:Av C ρ' σ a):Av C ρ σ a:=h.imp id f.own
theorem EOk.frz (I:EOk K C ρ σ H)(f:Frz ρ ρ'):EOk K C ρ' σ H:=by
 have ow': ∀{j:Nat} {l:List D},ρ'[j]? =some (some<|.ow l)->ρ[j]? =some (some<|.ow l):=λ{j l} h=>by
  rcases f.2 j with e| ⟨l',_,e2⟩
  .exact e▸h
  .rw[e2]at h;cases h
 refine⟨by rw[f.1];exact I.len,λi d h=> ?_,λi l h=> ?_,λi j l l' a h1 h2=>I.inj i j l l' a (ow' h1) (ow' h2),λi l h=> ?_,I.ext,I.a0⟩
 .rcases f.2 i with e| ⟨l,e1,e2⟩
  .obtain⟨v,h1,h2⟩:=I.pu i d (e▸h);exact⟨v,h1,h2.mono<|.sub (.refl _) λa=>f.av⟩
  .rw[e2]at h;cases h;obtain⟨a,vs,h1,h2,h3,h4⟩:=I.ow i l e1;refine⟨.ref a,h1,?_⟩;simp only[Rep];refine⟨a,vs,rfl,?_,h2,h4.mono<|.sub (.refl _) λa=>f.av⟩
   rintro(z| ⟨j,l',g1,g2⟩)
   .exact I.a0 a z h3
   .have:=I.inj i j l l' a e1 (ow' g1) h1 g2;subst this;rw[e2]at g1;cases g1
 .obtain⟨a,vs,h1,h2,h3,h4⟩:=I.ow i l (ow' h);exact⟨a,vs,h1,h2,h3,h4.mono<|.sub (.refl _) λa=>f.av⟩
 .have h':ρ[i]? =some (some<|.bo l):=by
   rcases f.2 i with e| ⟨l',_,e2⟩
   .exact e▸h
   .rw[e2]at h;cases h
  obtain⟨a,vs,h1,h2,h3,h4⟩:=I.bo i l h';exact⟨a,vs,h1,h2,h3,h4.mono<|.sub (.refl _) λa=>f.av⟩
end
abbrev UE:=Ev->(B->Ev->Prop)->Prop
abbrev UV:=Ev->(D->Ev->Prop)->Prop
abbrev UA:=Ev->(List D->Ev->Prop)->Prop
abbrev UT:=Ev->(Bool->Ev->Prop)->Prop
def lE (K:PySem.W.Frag)(t:UE):TE:=λσ H Q=> ∃C ρ Q0,EOk K C ρ σ H/\t ρ Q0/\
 ∀b ρ' v H',Q0 b ρ'->Frz ρ ρ'->i6 H H'->qV K (Av C ρ' σ) H H' b v->Q v H'
def lA (K:PySem.W.Frag)(t:UA):TA:=λσ H Q=> ∃C ρ Q0,EOk K C ρ σ H/\t ρ Q0/\
 ∀ds ρ' vs H',Q0 ds ρ'->Frz ρ ρ'->i6 H H'->cE K (Av C ρ' σ) H' ds vs->Q vs H'
def lT (K:PySem.W.Frag)(t:UT):TT:=λσ H Q=> ∃C ρ Q0,EOk K C ρ σ H/\t ρ Q0/\
 ∀b ρ' H',Q0 b ρ'->Frz ρ ρ'->i6 H H'->Q b H'
def cP7 (K:PySem.W.Frag)(A:AS)(H:Hp):D->V->Prop
 | .tup l,v=> ∃a vs,v= .ref a/\SqT K H a vs/\cE K A H l vs
 | .lst l,v=> ∃a vs,v= .ref a/\H a=some (.lst vs)/\cE K A H l vs
 | .rol l,v=> ∃a vs,v= .ref a/\SqL K H a vs/\cE K A H l vs
 | d,v=>Rep K A H d v
def lV (K:PySem.W.Frag)(t:UV):TE:=λσ H Q=> ∃C ρ Q0,EOk K C ρ σ H/\t ρ Q0/\
 ∀d ρ' v H',Q0 d ρ'->Frz ρ ρ'->i6 H H'->cP7 K (Av C ρ' σ) H' d v->Q v H'
def PU (X:Cx)(e:Expr)(t:UE):Prop:=PE X e (lE X.K t)
def PUV (X:Cx)(e:Expr)(t:UV):Prop:=PE X e (lV X.K t)
def PUA (X:Cx)(es:List Expr)(t:UA):Prop:=PA X es (lA X.K t)
def PUT (X:Cx)(e:Expr)(t:UT):Prop:=PT X e (lT X.K t)
def PUW (X:Cx)(e:Expr)(t:UT):Prop:=PW X e (lT X.K t)
section
variable {K:PySem.W.Frag}{A:AS}{H:Hp}
theorem Rep.one: ∀{d:D} {v:V},Rep K A H d v->cP7 K A H d v
 | .non,_,h=>h
 | .bl _,_,h=>h
 | .int _,_,h=>h
 | .str _,_,h=>h
 | .ty _,_,h=>h
 | .tup l,v,h=>by
  simp only[Rep]at h;obtain⟨a,vs,e,c,r⟩:=h;exact⟨a,vs,e,c.imp cV id,r⟩
 | .lst l,v,h=>by
  simp only[Rep]at h;obtain⟨a,vs,e,n,c,r⟩:=h;exact⟨a,vs,e,c,r⟩
 | .rol l,v,h=>by
  simp only[Rep]at h;obtain⟨a,vs,e,c,r⟩:=h;exact⟨a,vs,e,c.imp cV id,r⟩
 | .obj _ _ _,_,h=>h
 | .adr _,_,h=>h
 | .xob _ _ _ _,_,h=>h
end
theorem iZ {X:Cx}{t t':TE}(h:PE X e t)(i: ∀σ H Q,t' σ H Q->t σ H Q):PE X e t':=λpins s σ H Q I q=>h pins s σ H Q I (i σ H Q q)
theorem e42 {X:Cx}{t t':TA}(h:PA X es t)(i: ∀σ H Q,t' σ H Q->t σ H Q):PA X es t':=λpos pins s σ H Q I q=>h pos pins s σ H Q I (i σ H Q q)
theorem bW3 {X:Cx}{t t':TT}(h:PT X e t)(i: ∀σ H Q,t' σ H Q->t σ H Q):PT X e t':=λpins s σ H Q I q=>h pins s σ H Q I (i σ H Q q)
theorem e43 {X:Cx}{t t':TT}(h:PW X e t)(i: ∀σ H Q,t' σ H Q->t σ H Q):PW X e t':=λw pins s σ H Q I q=>h w pins s σ H Q I (i σ H Q q)
section
variable {X:Cx}{a b c e o:Expr}{es iS:List Expr}{pos:Pos}{ta tb tc:UE}
def uC (d:D):UE:=λρ Q=>Q (.pu d) ρ
theorem aD {i j pos}:PU X (.Constant (.int i) j pos) (uC<|.int i):=iZ dA4 λσ H Q ⟨C,ρ,Q0,I,h,k⟩=>k _ ρ _ H h (.refl _) (.refl _) (show Rep _ _ _ _ _ by simp only[Rep])
theorem bW4 {b j pos}:PU X (.Constant (.bool b) j pos) (uC<|.bl b):=iZ pe_bl λσ H Q ⟨C,ρ,Q0,I,h,k⟩=>k _ ρ _ H h (.refl _) (.refl _) (show Rep _ _ _ _ _ by simp only[Rep])
theorem bG5 {j pos}:PU X (.Constant .none j pos) (uC .non):=iZ pe_non λσ H Q ⟨C,ρ,Q0,I,h,k⟩=>k _ ρ _ H h (.refl _) (.refl _) (show Rep _ _ _ _ _ by simp only[Rep])
theorem dC9 {x j pos}:PU X (.Constant (.str x) j pos) (uC<|.str x):=iZ pe_str λσ H Q ⟨C,ρ,Q0,I,h,k⟩=>k _ ρ _ H h (.refl _) (.refl _) (show Rep _ _ _ _ _ by simp only[Rep])
def aB2 (ρ:Ev)(i:Nat)(Q:B->Ev->Prop):Prop:=match ρ[i]? with
 | some (some<|.pu d)=>Q (.pu d) ρ
 | some (some<|.ow l)=>Q (.pu<|.lst l) (ρ.set i<|some<|.pu<|.lst l)
 | _=>False
def aC (i:Nat):UE:=λρ Q=>aB2 ρ i Q
theorem d3 (i:Nat){pos:Pos}(h:PE X (.Name x pos) (aB0 i)):PU X (.Name x pos) (aC i):=iZ h λσ H Q ⟨C,ρ,Q0,I,h,k⟩=>by
 unfold aC aB2 at h;split at h
 .rename_i d e
  obtain⟨v,h1,h2⟩:=I.pu i d e;exact⟨v,h1,k _ ρ v H h (.refl _) (.refl _) h2⟩
 .rename_i l e
  obtain⟨_,_,v,h1,h2⟩:=I.freeze e;exact⟨v,h1,k _ _ v H h (.set e) (.refl _) h2⟩
 .exact h.elim
def cC5 (ρ:Ev)(i:Nat)(Q:D->Ev->Prop):Prop:=match ρ[i]? with
 | some (some<|.pu d)=>Q d ρ
 | some (some<|.ow l)=>Q (.lst l) ρ
 | some (some<|.bo l)=>Q (.lst l) ρ
 | _=>False
def aT (i:Nat):UV:=λρ Q=>cC5 ρ i Q
theorem mZ (i:Nat){pos:Pos}(h:PE X (.Name x pos) (aB0 i)):PUV X (.Name x pos) (aT i):=iZ h λσ H Q ⟨C,ρ,Q0,I,h,k⟩=>by
 unfold aT cC5 at h;split at h
 .rename_i d e
  obtain⟨v,h1,h2⟩:=I.pu i d e;exact⟨v,h1,k _ ρ v H h (.refl _) (.refl _) h2.one⟩
 .rename_i l e
  obtain⟨a,vs,h1,h2,h3,h4⟩:=I.ow i l e;exact⟨_,h1,k _ ρ _ H h (.refl _) (.refl _) ⟨a,vs,rfl,h2,h4⟩⟩
 .rename_i l e
  obtain⟨a,vs,h1,h2,h3,h4⟩:=I.bo i l e;exact⟨_,h1,k _ ρ _ H h (.refl _) (.refl _) ⟨a,vs,rfl,I.ext _ _ h3,h4⟩⟩
 .exact h.elim
def uV (t:UE):UV:=λρ Q=>t ρ λb ρ1=>Q b.d ρ1
theorem EOk.avF {C:C0}{ρ ρ':Ev}{σ:L2.St}{H:Hp}(I:EOk K C ρ σ H)(f:Frz ρ ρ'){a:Addr}(h:Av C ρ' σ a):H a≠none:=I.avSome (f.av h)
theorem kH (h:PU X e ta):PUV X e (uV ta):=iZ h λσ H Q ⟨C,ρ,Q0,I,h,k⟩=>
 ⟨C,ρ,_,I,h,λb ρ' v H' q f s r=>k b.d ρ' v H' q f s (r.rep λa z=>I.avF f z).one⟩
theorem bD8 {v:V}{d:D}{pos:Pos}(h:PE X (.Name x pos) (tC v))(r: ∀A H,Rep X.K A H d v):PU X (.Name x pos) (uC d):=iZ h λσ H Q ⟨C,ρ,Q0,I,h,k⟩=>k _ ρ _ H h (.refl _) (.refl _) (r _ _)
def OpU (X:Cx)(f:Value->Value->Sem Value)(g:D->D->(B->Prop)->Prop):Prop:=
 ∀(A:AS) (H:Hp) (d e:D) (v w:V) (Q0:B->Prop) (Q:VK),(∀a,A a->H a≠none)->Rep X.K A H d v->Rep X.K A H e w->g d e Q0->
  (∀b v' H',Q0 b->i6 H H'->qV X.K A H H' b v'->Q v' H')-> ∃r,OpR X f r/\r v w H Q
def uOp (g:D->D->(B->Prop)->Prop)(ta tb:UE):UE:=λρ Q=>ta ρ λx ρ1=>tb ρ1 λy ρ2=>g x.d y.d λb=>Q b ρ2
theorem dD0 {f:Value->Value->Sem Value}:OpR X f (λx y H Q=> ∃r,OpR X f r/\r x y H Q):=λpins s σ H x y v u Q I rx ry ⟨r,hr,q⟩=>hr pins s σ H x y v u Q I rx ry q
theorem qV.from {K:PySem.W.Frag}{A:AS}{H0 H H':Hp}(s:i6 H0 H): ∀{b:B} {v:V},qV K A H H' b v->qV K A H0 H' b v
 | .pu _,_,h=>h
 | .ow _,_,⟨a,vs,e,n,h1,r⟩=>⟨a,vs,e,s.free n,h1,r⟩
 | .bo _,_,h=>h.elim
theorem lOp {f:Value->Value->Sem Value}{g:D->D->(B->Prop)->Prop}(ho:OpU X f g)(σ:L2.St)(H:Hp)(Q:VK)(h:lE X.K (uOp g ta tb) σ H Q) :
  tOp (λx y H Q=> ∃r,OpR X f r/\r x y H Q) (lE X.K ta) (lE X.K tb) σ H Q:=by
 obtain⟨C,ρ,Q0,I,h,k⟩:=h;refine⟨C,ρ,_,I,h,λx ρ1 v H1 q1 f1 s1 r1=> ?_⟩
 have I1:=(I.frz f1).same s1;refine⟨C,ρ1,_,I1,q1,λy ρ2 w H2 q2 f2 s2 r2=> ?_⟩
 have I2:=(I1.frz f2).same s2;have hA: ∀a,Av C ρ2 σ a->H2 a≠none:=λa z=>I2.avSome z
 refine ho (Av C ρ2 σ) H2 x.d y.d v w _ Q hA ((r1.rep λa z=>I.avF f1 z).mono<|.sub s2 λa=>f2.av) (r2.rep λa z=>I1.avF f2 z) q2 λb v' H' q s r=> ?_
 exact k b ρ2 v' H' q (f1.trans f2) (s1.trans<|s2.trans s) (r.from<|s1.trans s2)
theorem aK {op:Operator}{g:D->D->(B->Prop)->Prop}(ho:OpU X (binaryOp op) g)(ha:PU X a ta)(hb:PU X b tb):PU X (.BinOp a op b pos) (uOp g ta tb):=
 iZ (pe_op dD0 ha hb) (lOp ho)
theorem pu_cmp {g:D->D->(B->Prop)->Prop}(ho:OpU X (compareOp op) g)(ha:PU X a ta)(hb:PU X b tb)(hm:behindInMarks op b=false):PU X (.Compare a [op] [b] pos) (uOp g ta tb):=
 iZ (dS6 dD0 ha hb hm) (lOp ho)
def isB (Q:Bool->Ev->Prop):B->Ev->Prop:=λb ρ=>match b with
 | .pu (.bl k)=>Q k ρ
 | _=>False
def cQ (t:UE):UT:=λρ Q=>t ρ (isB Q)
theorem dT8 {t:UE}(σ:L2.St)(H:Hp)(Q:Bool->Hp->Prop)(h:lT X.K (cQ t) σ H Q):lE X.K t σ H λx H'=> ∃k,x= .bl k/\Q k H':=by
 obtain⟨C,ρ,Q0,I,h,k⟩:=h;refine⟨C,ρ,_,I,h,λb ρ' v H' q f s r=> ?_⟩
 unfold isB at q;split at q
 .rename_i k'
  refine⟨k',?_,k k' ρ' H' q f s⟩
  have r':Rep X.K (Av C ρ' σ) H' (.bl k') v:=r
  simpa only[Rep]using r'
 .exact q.elim
theorem b95 (h:PU X e ta)(he: ∀whole,isTrue e X.env whole=(do let v<-whole;standAt e.pos;holding [v] (truthy v)):=by intro _;rfl):PUT X e (cQ ta):=
 bW3 (pt_val h he) dT8
theorem a35 {g:D->D->(B->Prop)->Prop}(ho:OpU X (compareOp op) g)(ha:PU X a ta)(hb:PU X b tb)(hm:behindInMarks op b=false):PUT X (.Compare a [op] [b] pos) (cQ<|uOp g ta tb):=
 bW3 (dS7 dD0 ha hb hm) λσ H Q h=>lOp ho σ H _ (dT8 σ H Q h)
def b34 (t u:UT):UT:=λρ Q=>t ρ λc ρ1=>if c=true then u ρ1 Q else Q false ρ1
def uOr (t u:UT):UT:=λρ Q=>t ρ λc ρ1=>if c=true then Q true ρ1 else u ρ1 Q
def c46 (t:UT):UT:=λρ Q=>t ρ λc ρ1=>Q (!c) ρ1
variable {tA tB:UT}
theorem oV (ha:PUT X a tA):PUW X (.BoolOp .And [a] pos) tA:=dR7 ha
theorem aI7 (ha:PUT X a tA):PUW X (.BoolOp .Or [a] pos) tA:=pw_or1 ha
theorem oW (ha:PUT X a tA)(hb:PUW X (.BoolOp .And (b::iS) pos) tB):PUW X (.BoolOp .And (a::b::iS) pos) (b34 tA tB):=
 e43 (pw_and ha hb) λσ H Q ⟨C,ρ,Q0,I,h,k⟩=>⟨C,ρ,_,I,h,λc ρ1 H1 q f s=>by
  cases c with
  | true=>
   rw[a9 rfl]at q⊢;exact⟨C,ρ1,Q0,(I.frz f).same s,q,λb ρ2 H2 q2 f2 s2=>k b ρ2 H2 q2 (f.trans f2) (s.trans s2)⟩
  | false=>
   rw[a7 bN]at q⊢;exact k _ _ _ q f s⟩
theorem aS1 (ha:PUT X a tA)(hb:PUW X (.BoolOp .Or (b::iS) pos) tB):PUW X (.BoolOp .Or (a::b::iS) pos) (uOr tA tB):=
 e43 (pw_or ha hb) λσ H Q ⟨C,ρ,Q0,I,h,k⟩=>⟨C,ρ,_,I,h,λc ρ1 H1 q f s=>by
  cases c with
  | true=>
   rw[a9 rfl]at q⊢;exact k _ _ _ q f s
  | false=>
   rw[a7 bN]at q⊢;exact⟨C,ρ1,Q0,(I.frz f).same s,q,λb ρ2 H2 q2 f2 s2=>k b ρ2 H2 q2 (f.trans f2) (s.trans s2)⟩⟩
theorem PUW.pt (h:PUW X e tA):PUT X e tA:=PW.pt h
theorem bD9 (ha:PUT X a tA):PUT X (.UnaryOp .Not a pos) (c46 tA):=
 bW3 (pt_not ha) λσ H Q ⟨C,ρ,Q0,I,h,k⟩=>⟨C,ρ,_,I,h,λc ρ1 H1 q f s=>k _ ρ1 H1 q f s⟩
def cC6 (t u:UE):UE:=λρ Q=>t ρ λx ρ1=>isB (λc ρ1=>if c=true then u ρ1 Q else Q (.pu<|.bl false) ρ1) x ρ1
def cC7 (t:UE):UE:=λρ Q=>t ρ λx ρ1=>isB (λc ρ1=>Q (.pu<|.bl<|!c) ρ1) x ρ1
theorem cY4 {Q:Bool->Ev->Prop}{b:B}{ρ:Ev}{A:AS}{H H':Hp}{v:V}(h:isB Q b ρ)(r:qV K A H H' b v): ∃k,v= .bl k/\Q k ρ:=by
 unfold isB at h;split at h
 .rename_i k'
  have r':Rep K A H' (.bl k') v:=r;exact⟨k',by simpa only[Rep]using r',h⟩
 .exact h.elim
theorem lX {A:AS}{H H':Hp}{k:Bool}:qV K A H H' (.pu<|.bl k) (.bl k):=by
 show Rep K A H' (.bl k) (.bl k)
 simp only[Rep]
theorem dD1 {op}(h:PU X a ta):PU X (.BoolOp op [a] pos) ta:=pe_one h
theorem cP8 (ha:PU X a ta)(hb:PU X (.BoolOp .And (b::iS) pos) tb):PU X (.BoolOp .And (a::b::iS) pos) (cC6 ta tb):=
 iZ (pe_and ha hb) λσ H Q ⟨C,ρ,Q0,I,h,k⟩=>⟨C,ρ,_,I,h,λx ρ1 v H1 q f s r=>by
  obtain⟨c,rfl,q⟩:=cY4 q r;refine⟨c,rfl,?_⟩;cases c with
  | true=>
   rw[a9 rfl]at q⊢;exact⟨C,ρ1,Q0,(I.frz f).same s,q,λb ρ2 v H2 q2 f2 s2 r2=>k b ρ2 v H2 q2 (f.trans f2) (s.trans s2) (r2.from s)⟩
  | false=>
   rw[a7 bN]at q⊢;exact k _ _ _ _ q f s lX⟩
theorem cP9 (ha:PU X a ta):PU X (.UnaryOp .Not a pos) (cC7 ta):=
 iZ (pe_not ha) λσ H Q ⟨C,ρ,Q0,I,h,k⟩=>⟨C,ρ,_,I,h,λx ρ1 v H1 q f s r=>by
  obtain⟨c,rfl,q⟩:=cY4 q r;exact⟨c,rfl,k _ _ _ _ q f s lX⟩⟩
def uIf (t:UT)(ta tb:UE):UE:=λρ Q=>t ρ λc ρ1=>if c=true then ta ρ1 Q else tb ρ1 Q
theorem dD2 (hc:PUT X c tA)(ha:PU X a ta)(hb:PU X b tb):PU X (.IfExp c a b pos) (uIf tA ta tb):=
 iZ (dA7 hc ha hb) λσ H Q ⟨C,ρ,Q0,I,h,k⟩=>⟨C,ρ,_,I,h,λc ρ1 H1 q f s=>by
  have I1:=(I.frz f).same s;cases c with
  | true=>
   dsimp only at q⊢;rw[a9 rfl]at q⊢;exact⟨C,ρ1,Q0,I1,q,λb ρ2 v H2 q2 f2 s2 r2=>k b ρ2 v H2 q2 (f.trans f2) (s.trans s2) (r2.from s)⟩
  | false=>
   dsimp only at q⊢;rw[a7 bN]at q⊢;exact⟨C,ρ1,Q0,I1,q,λb ρ2 v H2 q2 f2 s2 r2=>k b ρ2 v H2 q2 (f.trans f2) (s.trans s2) (r2.from s)⟩⟩
def aN:UA:=λρ Q=>Q [] ρ
def a8 (t:UE)(u:UA):UA:=λρ Q=>t ρ λx ρ1=>u ρ1 λxs ρ2=>Q (x.d::xs) ρ2
theorem aB:PUA X [] aN:=e42 c39 λσ H Q ⟨C,ρ,Q0,I,h,k⟩=>k [] ρ [] H h (.refl _) (.refl _) .nil
theorem aE {t:UA}(ha:PU X e ta)(hr:PUA X es t)(hs:↥(starEach (e::es) X.env=(false,eval e X.env)::starEach es X.env)):PUA X (e::es) (a8 ta t):=
 e42 (aW1 ha hr hs) λσ H Q ⟨C,ρ,Q0,I,h,k⟩=>⟨C,ρ,_,I,h,λx ρ1 v H1 q1 f1 s1 r1=>by
  have I1:=(I.frz f1).same s1;refine⟨C,ρ1,_,I1,q1,λxs ρ2 vs H2 q2 f2 s2 r2=> ?_⟩
  exact k _ ρ2 _ H2 q2 (f1.trans f2) (s1.trans s2) (.cons ((r1.rep λa z=>I.avF f1 z).mono<|.sub s2 λa=>f2.av) r2)⟩
def iR (t:UA):UE:=λρ Q=>t ρ λl ρ1=>l.length<=sizeLine/\Q (.pu<|.tup l) ρ1
def gA (t:UA):UE:=λρ Q=>t ρ λl ρ1=>l.length<=sizeLine/\Q (.ow l) ρ1
theorem fE {H:Hp}{p:Addr}(h:H p=none)(o:HO):i6 H (upd H p o):=λb u q=>by rw[cL<|dA q h];exact q
theorem j2 {A:AS}{H:Hp}{p:Addr}{l:List D}{vs:List V}(hA: ∀a,A a->H a≠none)(n:H p=none)(r:cE K A H l vs):Rep K A (upd H p<|.tup vs) (.tup l) (.ref p):=by
 simp only[Rep];exact⟨p,vs,rfl,.inl ⟨λz=>hA p z n,.inl iY⟩,r.mono<|.same<|fE n _⟩
theorem hX {A:AS}{H H0:Hp}{p:Addr}{l:List D}{vs:List V}(s:i6 H0 H)(n:H p=none)(r:cE K A H l vs):qV K A H0 (upd H p<|.lst vs) (.ow l) (.ref p):=
 ⟨p,vs,rfl,s.free n,iY,r.mono<|.fresh (fE n _) n⟩
theorem eB {t:UA}{x1}(h:PUA X es t):PU X (.Tuple es x1 pos) (iR t):=
 iZ (pe_tup h) λσ H Q ⟨C,ρ,Q0,I,h,k⟩=>⟨C,ρ,_,I,h,λl ρ1 vs H1 q f s r=>by
  obtain⟨hz,q⟩:=q;refine⟨by rw[<-r.length];exact hz,λp n=> ?_⟩
  have I1:=(I.frz f).same s;exact k _ ρ1 _ _ q f (s.trans<|fE n _) (j2 (λa z=>I1.avSome z) n r)⟩
theorem cH {t:UA}(h:PUA X es t):PU X (.List es pos) (gA t):=
 iZ (pe_lst h) λσ H Q ⟨C,ρ,Q0,I,h,k⟩=>⟨C,ρ,_,I,h,λl ρ1 vs H1 q f s r=>by
  obtain⟨hz,q⟩:=q;refine⟨by rw[<-r.length];exact hz,λp n=> ?_⟩
  exact k _ ρ1 _ _ q f (s.trans<|fE n _) (hX s n r)⟩
abbrev Φ:=List D->(B->Prop)->Prop
def spP (K:PySem.W.Frag)(φ:Φ):Sp:=λvs H Q _=> ∃A ds Q0,(∀a,A a->H a≠none)/\cE K A H ds vs/\φ ds Q0/\ ∀b v H',Q0 b->i6 H H'->qV K A H H' b v->Q v H'
def aQ (φ:Φ)(t:UA):UE:=λρ Q=>t ρ λds ρ1=>φ ds λb=>Q b ρ1
theorem lCall {t:UA}{E:XK}(σ:L2.St)(H:Hp)(Q:VK)(h:lE X.K (aQ φ t) σ H Q):cX8 (spP X.K φ) [] E (lA X.K t) σ H Q:=by
 obtain⟨C,ρ,Q0,I,h,k⟩:=h;refine⟨C,ρ,_,I,h,λds ρ1 vs H1 q f s r=> ?_⟩
 have I1:=(I.frz f).same s;show spP X.K φ (vs++[]) H1 Q E;rw[gW];exact⟨Av C ρ1 σ,ds,_,λa z=>I1.avSome z,r,q,λb v H' q' s' r'=>k b ρ1 v H' q' f (s.trans s') (r'.from s)⟩
theorem dT9 {CX:CXT}{ps:List Str}{E:XK}{t:UA}(F:sQ X.prog X.w X.K X.mg X.base CX k f fd ps (spP X.K φ))(hr:gX k X.A)(hg:Gl X x)(hm:X.mg x=some (.ref f))
  (hk:keepIn X.K (.ref f)=true) (hb:Binds X.K fd ps []) (hx:wX CX X E) (ha:PUA X (e::es) t) (hdb:⇑(x∪0)) (he:↥(starEach (e::es) X.env=(false,eval e X.env)::starEach es X.env))
  (hpl:↥((backTo pos<|starEach es X.env).any (·.1)=false)):PU X (.Call (.Name x p) (e::es) [] pos) (aQ φ t):=
 iZ (cY0 F hr hg hm hk hb .nil hx ha hdb he hpl) lCall
theorem dD3 {CX:CXT}{ps:List Str}{E:XK}(F:sQ X.prog X.w X.K X.mg X.base CX k f fd ps (spP X.K φ))(hr:gX k X.A)(hg:Gl X x)(hm:X.mg x=some (.ref f))
  (hk:keepIn X.K (.ref f)=true) (hb:Binds X.K fd ps []) (hx:wX CX X E) (hdb:⇑(x∪0)):PU X (.Call (.Name x p) [] [] pos) (aQ φ aN):=
 iZ (dC0 F hr hg hm hk hb .nil hx hdb) λσ H Q ⟨C,ρ,Q0,I,h,k⟩=>⟨Av C ρ σ,[],_,λa z=>I.avSome z,.nil,h,λb v H' q' s' r'=>k b ρ v H' q' (.refl _) s' r'⟩
def uT (X:Cx)(f:Value)(g:List D->(B->Prop)->Prop):Prop:=
 ∀(A:AS) (H:Hp) (ds:List D) (vs:List V) (Q0:B->Prop) (Q:VK),(∀a,A a->H a≠none)->cE X.K A H ds vs->g ds Q0->
  (∀b v' H',Q0 b->i6 H H'->qV X.K A H H' b v'->Q v' H')-> ∃r,pN X f r/\r vs H Q
theorem callAny {f:Value}:pN X f (λxs H Q=> ∃r,pN X f r/\r xs H Q):=λpins s σ H xs us Q I rx ⟨r,hr,q⟩=>hr pins s σ H xs us Q I rx q
theorem lCB {f:Value}{g:List D->(B->Prop)->Prop}{t:UA}(hc:uT X f g)(σ:L2.St)(H:Hp)(Q:VK)(h:lE X.K (aQ g t) σ H Q):tCB (λxs H Q=> ∃r,pN X f r/\r xs H Q) (lA X.K t) σ H Q:=by
 obtain⟨C,ρ,Q0,I,h,k⟩:=h;refine⟨C,ρ,_,I,h,λds ρ1 vs H1 q f s r=> ?_⟩
 have I1:=(I.frz f).same s;exact hc (Av C ρ1 σ) H1 ds vs _ Q (λa z=>I1.avSome z) r q λb v H' q' s' r'=>k b ρ1 v H' q' f (s.trans s') (r'.from s)
theorem dP {id:String}{g:List D->(B->Prop)->Prop}{t:UA}(hc:uT X (.builtin id) g)(hg:Gl X x)(hm:X.mg x=none)(hv:bootBuiltins x=some (.builtin id))(ha:PUA X (e::es) t)(hn:⇑(x≠"__name__"))(hdb:⇑(x∪0))
  (he:↥(starEach (e::es) X.env=(false,eval e X.env)::starEach es X.env)) (hpl:↥((backTo pos<|starEach es X.env).any (·.1)=false)):PU X (.Call (.Name x p) (e::es) [] pos) (aQ g t):=
 iZ (cC1 callAny hg hm hv ha hn hdb he hpl) (lCB hc)
theorem cB {T:String}{g:List D->(B->Prop)->Prop}{t:UA}(hc:uT X (.type T) g)(hg:Gl X x)(hm:X.mg x=none)(hv:bootBuiltins x=some (.type T))(ha:PUA X (e::es) t)(hn:⇑(x≠"__name__"))(hdb:⇑(x∪0))
  (he:↥(starEach (e::es) X.env=(false,eval e X.env)::starEach es X.env)) (hpl:↥((backTo pos<|starEach es X.env).any (·.1)=false)):PU X (.Call (.Name x p) (e::es) [] pos) (aQ g t):=
 iZ (d42 callAny hg hm hv ha hn hdb he hpl) (lCB hc)
end
structure UD where
 nx:Ev->Prop
 rt:B->Prop
 bk:Ev->Prop:=λ_=>False
 ct:Ev->Prop:=λ_=>False
abbrev US:=UD->Ev->Prop
structure DOk (K:PySem.W.Frag)(C:C0)(D0:UD)(D:aW0):Prop where
 nx: ∀ρ σ H,D0.nx ρ->EOk K C ρ σ H->D.nx σ H
 rt: ∀b v H,D0.rt b->i6 C.H0 H->qV K C.A0 C.H0 H b v->D.rt v H
 bk: ∀ρ σ H,D0.bk ρ->EOk K C ρ σ H->D.bk σ H
 ct: ∀ρ σ H,D0.ct ρ->EOk K C ρ σ H->D.ct σ H
def lS (K:PySem.W.Frag)(t:US):TS:=λD σ H=> ∃C ρ D0,EOk K C ρ σ H/\t D0 ρ/\DOk K C D0 D
def PUS (X:Cx)(st:Stmt)(t:US):Prop:=PS X st (lS X.K t)
def sR (X:Cx)(sts:List Stmt)(t:US):Prop:=PSs X sts (lS X.K t)
theorem rY {X:Cx}{t t':TS}(h:PS X st t)(i: ∀D σ H,t' D σ H->t D σ H):PS X st t':=λpins s σ H D I q=>h pins s σ H D I (i D σ H q)
theorem bG6 {X:Cx}{st:List Stmt}{t t':TS}(h:PSs X st t)(i: ∀D σ H,t' D σ H->t D σ H):PSs X st t':=λpins s σ H D I q=>h pins s σ H D I (i D σ H q)
section
variable {X:Cx}{st:Stmt}{sts:List Stmt}{e:Expr}{pos:Pos}{t u:US}{te:UE}{tc:UT}{K:PySem.W.Frag}
def dD:US:=λD ρ=>D.nx ρ
def aS (t u:US):US:=λD ρ=>t {D with nx:=u D} ρ
theorem c47:sR X [] dD:=bG6 dR8 λD σ H ⟨C,ρ,D0,I,h,k⟩=>k.nx ρ σ H h I
theorem bC (h1:PUS X st t)(h2:sR X sts u):sR X (st::sts) (aS t u):=
 bG6 (yJ h1 h2) λD σ H ⟨C,ρ,D0,I,h,k⟩=>⟨C,ρ,{D0 with nx:=u D0},I,h,⟨λρ' σ' H' q I'=>⟨C,ρ',D0,I',q,k⟩,k.rt,k.bk,k.ct⟩⟩
theorem aY (h1:PUS X st t):sR X [st] t:=c36 h1
def cW (t:UE):US:=λD ρ=>t ρ λb _=>D.rt b
theorem qV.back {A A':AS}{H0 H H':Hp}(s:i6 H0 H)(h: ∀a,A' a->A a): ∀{b:B} {v:V},qV K A H H' b v->qV K A' H0 H' b v
 | .pu _,_,r=>Rep.mono (.sub (.refl _) h) r
 | .ow _,_,⟨a,vs,e,n,h1,r⟩=>⟨a,vs,e,s.free n,h1,r.mono λb o nb q=>⟨λz=>nb (z.imp (h b) id),q⟩⟩
 | .bo _,_,r=>r.elim
theorem c48 (he:PU X e te):PUS X (.Return (some e) pos) (cW te):=
 rY (dA8 he) λD σ H ⟨C,ρ,D0,I,h,k⟩=>⟨C,ρ,_,I,h,λb ρ' v H' q f s r=>k.rt b v H' q (I.ext.trans s) (r.back I.ext λa z=> .inl z)⟩
def oK (i:Nat):US:=λD ρ=>match ρ[i]? with
 | some (some<|.pu d)=>D.rt (.pu d)
 | some (some<|.ow l)=>D.rt (.ow l)
 | _=>False
theorem jR (i:Nat)(h:PE X (.Name x p) (aB0 i)):PUS X (.Return (some<|.Name x p) pos) (oK i):=
 rY (dA8 h) λD σ H ⟨C,ρ,D0,I,h,k⟩=>by
  unfold oK at h;split at h
  .rename_i d e
   obtain⟨v,h1,h2⟩:=I.pu i d e;exact⟨v,h1,k.rt _ v H h I.ext<|Rep.mono (.sub (.refl _) λa z=> .inl z) h2⟩
  .rename_i l e
   obtain⟨a,vs,h1,h2,h3,h4⟩:=I.ow i l e;refine⟨_,h1,k.rt _ _ H h I.ext ⟨a,vs,rfl,h3,h2,h4.mono λb o nb q=>⟨λz=>nb (z.elim .inl λz=> .inr ?_),q⟩⟩⟩
   subst z;exact⟨i,l,e,h1⟩
  .exact h.elim
def fS (c:UT)(t u:US):US:=λD ρ=>c ρ λb ρ1=>if b=true then t D ρ1 else u D ρ1
theorem cC8 {a b:List Stmt}(hc:PUT X c tc)(ha:sR X a t)(hb:sR X b u):PUS X (.If c a b pos) (fS tc t u):=
 rY (e40 hc ha hb) λD σ H ⟨C,ρ,D0,I,h,k⟩=>⟨C,ρ,_,I,h,λc ρ1 H1 q f s=>by
  have I1:=(I.frz f).same s;cases c with
  | true=>
   dsimp only at q⊢;rw[a9 rfl]at q⊢;exact⟨C,ρ1,D0,I1,q,k⟩
  | false=>
   dsimp only at q⊢;rw[a7 bN]at q⊢;exact⟨C,ρ1,D0,I1,q,k⟩⟩
theorem bG7:PUS X st (λ_ _=>False):=rY dA9 λD σ H ⟨C,ρ,D0,I,h,k⟩=>h
abbrev UG:=B->Ev->(Ev->Prop)->Prop
def lG (K:PySem.W.Frag)(T:List Nat)(g:UG):TG:=λv σ H Q=> ∃C ρ b H00 Q0,EOk K C ρ σ H00/\i6 H00 H/\qV K (Av C ρ σ) H00 H b v/\g b ρ Q0/\ ∀ρ' σ' H',Q0 ρ'->EOk K C ρ' σ' H'->(∀j:Nat,j ∉ T->σ'[j]? =σ[j]?)->Q σ' H'
def PUG (X:Cx)(e:Expr)(T:List Nat)(g:UG):Prop:=PG X e (lG X.K T g)
theorem e44 {t t':TG}(h:PG X e t)(i: ∀v σ H Q,t' v σ H Q->t v σ H Q):PG X e t':=λpins s σ H v u Q I r q=>h pins s σ H v u Q I r (i v σ H Q q)
def bO (i:Nat):UG:=λb ρ Q=>i<ρ.length/\Q (ρ.set i<|some b)
theorem mL (i:Nat)(h:PG X e (a91 i)):PUG X e [i] (bO i):=e44 h λv σ H Q z=>by
 obtain⟨C,ρ,b,H00,Q0,I,s,r,⟨hi,q⟩,k⟩:=z;exact k _ _ _ q (I.store s r (by rw[<-I.len];exact hi)) λj hj=>get_set_ne λz=>hj (by simp[z])
abbrev UGs:=List D->Ev->(Ev->Prop)->Prop
def lGs (K:PySem.W.Frag)(T:List Nat)(g:UGs):TGs:=λvs σ H Q=> ∃C ρ ds Q0,EOk K C ρ σ H/\cE K (Av C ρ σ) H ds vs/\g ds ρ Q0/\ ∀ρ' σ' H',Q0 ρ'->EOk K C ρ' σ' H'->(∀j:Nat,j ∉ T->σ'[j]? =σ[j]?)->Q σ' H'
def dU0 (X:Cx)(es:List Expr)(T:List Nat)(g:UGs):Prop:=PGs X es (lGs X.K T g)
def tH:UGs:=λds ρ Q=>ds=[]/\Q ρ
theorem Av.store_pu {C:C0}{ρ:Ev}{σ:L2.St}{d:D}{v:V}(h:Av C (ρ.set i<|some<|.pu d) (σ.set i<|some v) a):Av C ρ σ a:=by
 rcases h with z| ⟨j,l,h1,h2⟩
 .exact .inl z
 .rcases bI h1 with⟨rfl,h3,_⟩| ⟨ne,h3⟩
  .cases h3
  .rw[get_set_ne ne]at h2;exact .inr ⟨j,l,h3,h2⟩
theorem dD4 {t t':TGs}(h:PGs X es t)(i: ∀v σ H Q,t' v σ H Q->t v σ H Q):PGs X es t':=λpins s σ H v u Q I r q=>h pins s σ H v u Q I r (i v σ H Q q)
theorem rR:dU0 X [] [] tH:=dD4 dR9 λvs σ H Q z=>by
 obtain⟨C,ρ,ds,Q0,I,r,⟨e,q⟩,k⟩:=z;subst e;exact⟨r.unnil,k ρ σ H q I λ_ _=>rfl⟩
def fP (i:Nat)(u:UGs):UGs:=λds ρ Q=>match ds with
 | d::r=>i<ρ.length/\u r (ρ.set i<|some<|.pu d) Q
 | []=>False
theorem fF {u:UGs}{T:List Nat}(i:Nat)(h1:PG X e (a91 i))(h2:dU0 X es T u)
  (hs:↥((assignEach (e::es) X.env).map (·.2)=assign e X.env::(assignEach es X.env).map (·.2))):dU0 X (e::es) (i::T) (fP i u):=
 dD4 (dB1 h1 h2 hs) λvs σ H Q z=>by
  obtain⟨C,ρ,ds,Q0,I,r,g,k⟩:=z;cases ds with
  | nil=>exact(show False from g).elim
  | cons d dr=>
   obtain⟨hi,g⟩:i<ρ.length/\u dr (ρ.set i<|some<|.pu d) Q0:=g;obtain⟨v,vr,rfl,rv,rr⟩:=r.uncons;have I1:EOk X.K C (ρ.set i<|some<|.pu d) (σ.set i<|some v) H:=I.store (b:= .pu d) (.refl _) rv (by rw[<-I.len];exact hi)
   exact⟨v,vr,rfl,C,_,dr,Q0,I1,rr.mono<|.sub (.refl _) λa z=>Av.store_pu z,g,λρ' σ' H' q I' hT=>k ρ' σ' H' q I' λj hj=>(hT j λz=>hj (fK _ z)).trans (get_set_ne λz=>hj (by simp[z]))⟩
def tI (u:UGs):UG:=λb ρ Q=>match b.d with
 | .tup ds=>u ds ρ Q
 | _=>False
theorem wZ {u:UGs}{T:List Nat}(hc:X.calm=true)(h:dU0 X es T u)(hu: ∀ds ρ Q,u ds ρ Q->ds.length=n)
  (hn:↥((assignEach es X.env).length=n)) (hst:↥((assignEach es X.env).findIdx? (·.1)=none)):PUG X (.Tuple es k pos) T (tI u):=
 e44 (pg_tup hc h hn hst) λv σ H Q z=>by
  obtain⟨C,ρ,b,H00,Q0,I,s,r,g,k⟩:=z;have R:=r.rep λa z=>I.avSome z
  unfold tI at g;split at g
  .rename_i ds e
   rw[e]at R;simp only[Rep]at R;obtain⟨a,vs,rfl,c,rs⟩:=R;exact⟨a,vs,rfl,c.imp cV id,by rw[<-rs.length];exact hu _ _ _ g,C,ρ,ds,Q0,I.same s,rs,g,k⟩
  .exact g.elim
def dD5 (t:UE)(g:UG):US:=λD ρ=>t ρ λb ρ1=>g b ρ1 D.nx
theorem cQ0 {g:UG}{T:List Nat}(he:PU X e te)(hg:PUG X tg T g)(hs:↥(swapsWithSole [tg] e pos.line X.env=pure false))(hw:↥(swappedStores [tg] e X.env=pure none))
  (h1:↥((assignEach [tg] X.env).map (·.2)=[assign tg X.env])):PUS X (.Assign [tg] e pos) (dD5 te g):=
 rY (dB2 he hg hs hw h1) λD σ H ⟨C,ρ,D0,I,h,k⟩=>⟨C,ρ,_,I,h,λb ρ1 v H1 q f s r=>⟨C,ρ1,b,H,D0.nx,I.frz f,s,r,q,λρ' σ' H' q I' _=>k.nx ρ' σ' H' q I'⟩⟩
def bF (i:Nat)(t:UE):US:=λD ρ=>t ρ λb ρ1=>D.nx (ρ1.set i<|some b)
theorem xA (i:Nat)(hN:X.N.Nodup)(hi:X.N[i]? =some x)(hx:Loc X.env.scope x)(he:PU X e te)(hs:↥(swapsWith e (some<|.Name x pos') pos.line X.env=pure false))(hf:X.fn x=true\/X.env.scope.names.lookup x=some .local:=by walk_at "z")
  (hl: ∀pins σ H s,Inv X pins σ H s->i<σ.length:=by intro pins σ H s I;rw[I.len];decide):PUS X (.Assign [.Name x pos'] e pos) (bF i te):=by
 intro pins s σ H D I q;refine ps_set hN hi hx he hs hf pins s σ H D I ?_;obtain⟨C,ρ,D0,J,h,k⟩:=q;exact⟨C,ρ,_,J,h,λb ρ1 v H1 q f s1 r=>k.nx _ _ _ q ((J.frz f).store s1 r<|hl pins σ H s I)⟩
def uPar (i j:Nat)(ta:UA):US:=λD ρ=>ta ρ λds ρ1=>match ds with
 | [d,d']=>D.nx ((ρ1.set i<|some<|.pu d).set j<|some<|.pu d')
 | _=>False
theorem us_par {a b:Expr}{ta:UA}{px pt:Pos}{kt k2 pt2}(i j:Nat)(hc:X.calm=true)(hN:X.N.Nodup)(hi:X.N[i]? =some x)(hj:X.N[j]? =some y)(hij:i≠j)
  (hx:X.env.scope.names.lookup x=some .local) (hy:X.env.scope.names.lookup y=some .local) (ha:PUA X [a,b] ta)
  (hw:swappedStores [.Tuple [.Name x px,.Name y py] kt pt] (.Tuple [a,b] k2 pt2) X.env=pure (some [x,y]))
  (hs:↥(swapsWithSole [.Tuple [.Name x px,.Name y py] kt pt] (.Tuple [a,b] k2 pt2) pos.line X.env=pure false))
  (hl: ∀pins σ H s,Inv X pins σ H s->i<σ.length/\j<σ.length:=by intro pins σ H s I;rw[I.len];decide) :
  PUS X (.Assign [.Tuple [.Name x px,.Name y py] kt pt] (.Tuple [a,b] k2 pt2) pos) (uPar i j ta):=by
 intro pins s σ H D I q;refine ps_par hc hN hi hj hij hx hy ha hw hs pins s σ H D I ?_;obtain⟨C,ρ,D0,J,h,k⟩:=q;obtain⟨l1,l2⟩:=hl pins σ H s I;refine⟨C,ρ,_,J,h,λds ρ1 vs H1 q f s1 r=> ?_⟩
 split at q
 .rename_i d d'
  obtain⟨v,vr,rfl,rv,rr⟩:=r.uncons;obtain⟨w,wr,rfl,rw',rr'⟩:=rr.uncons;have e:=rr'.unnil;subst e;have J1:EOk X.K C (ρ1.set i<|some<|.pu d) (σ.set i<|some v) H1:=((J.frz f).same s1).store (b:= .pu d) (.refl _) rv l1
  have J2:EOk X.K C ((ρ1.set i<|some<|.pu d).set j<|some<|.pu d') ((σ.set i<|some v).set j<|some w) H1:=J1.store (b:= .pu d') (.refl _) (Rep.mono (.sub (.refl _) λa z=>Av.store_pu z) rw') (by rw[eH];exact l2)
  exact⟨v,w,rfl,k.nx _ _ _ q J2⟩
 .exact q.elim
def IpU (X:Cx)(op:Operator)(g:D->D->(B->Prop)->Prop):Prop:=
 ∀(A:AS) (H:Hp) (d e:D) (v w:V) (Q0:B->Prop) (Q:VK),(∀a,A a->H a≠none)->Rep X.K A H d v->Rep X.K A H e w->g d e Q0->
  (∀b v' H',Q0 b->i6 H H'->qV X.K A H H' b v'->Q v' H')-> ∃r,PIp X op r/\r v w H Q
theorem ipAny {op:Operator}:PIp X op (λx y H Q=> ∃r,PIp X op r/\r x y H Q):=λpins s σ H x y v u Q I rx ry ⟨r,hr,q⟩=>hr pins s σ H x y v u Q I rx ry q
def cC9 (i:Nat)(g:D->D->(B->Prop)->Prop)(te:UE):US:=λD ρ=>aB2 ρ i λx ρ0=>te ρ0 λy ρ1=>g x.d y.d λb=>D.nx (ρ1.set i<|some b)
theorem dD6 {op:Operator}{g:D->D->(B->Prop)->Prop}(i:Nat)(hN:X.N.Nodup)(hi:X.N[i]? =some x)(hx:Loc X.env.scope x)(he:PU X e te)(ho:IpU X op g)(hf:X.fn x=true\/X.env.scope.names.lookup x=some .local:=by walk_at "z")
  (hl: ∀pins σ H s,Inv X pins σ H s->i<σ.length:=by intro pins σ H s I;rw[I.len];decide):PUS X (.AugAssign (.Name x pos') op e pos) (cC9 i g te):=by
 intro pins s σ H D I q;refine ps_aug hN hi hx he ipAny hf pins s σ H D I ?_;obtain⟨C,ρ,D0,J,h,k⟩:=q;have go: ∀(d:M.D) (ρ0:Ev) (v:V),Frz ρ ρ0->σ[i]? =some (some v)->Rep X.K (Av C ρ0 σ) H d v->(te ρ0 λy ρ1=>g d y.d λb=>D0.nx (ρ1.set i<|some b))->
   tAug i (lE X.K te) (λx y H Q=> ∃r,PIp X op r/\r x y H Q) D σ H:=λd ρ0 v f0 h1 r0 h=>by
  have J0:=J.frz f0;refine⟨v,h1,C,ρ0,_,J0,h,λy ρ1 w H1 q1 f1 s1 r1=> ?_⟩
  have J1:=(J0.frz f1).same s1;refine ho (Av C ρ1 σ) H1 d y.d v w _ _ (λa z=>J1.avSome z) (r0.mono<|.sub s1 λa=>f1.av) (r1.rep λa z=>J0.avF f1 z) q1 λb v' H' q s r=> ?_
  exact k.nx _ _ _ q (J1.store s r<|hl pins σ _ _ I)
 unfold cC9 aB2 at h;split at h
 .rename_i d e
  obtain⟨v,h1,h2⟩:=J.pu i d e;exact go d ρ v (.refl _) h1 h2 h
 .rename_i l e
  obtain⟨_,_,v,h1,h2⟩:=J.freeze e;exact go (.lst l) _ v (.set e) h1 h2 h
 .exact h.elim
def b35 (c:UT)(tb:US):US:=λD ρ=> ∃W:Nat->Ev->Prop,(∃m,W m ρ)/\ ∀m ρ,W m ρ->
 c ρ λb ρ1=>if b=true then tb {D with nx:=λρ'=> ∃m',m'<m/\W m' ρ',ct:=λρ'=> ∃m',m'<m/\W m' ρ',bk:=D.nx} ρ1 else D.nx ρ1
theorem aB3 {tb:US}(hp:PassesOwn (model X.prog X.w) X.A X.env X.xe)(hc:PUT X c tc)(hb:sR X body tb):PUS X (.While c body [] pos) (b35 tc tb):=
 rY (dB4 hp hc hb) λD σ H ⟨C,ρ,D0,I,⟨W,⟨m0,w0⟩,turn⟩,k⟩=>by
  refine⟨λm σ H=> ∃ρ,EOk X.K C ρ σ H/\W m ρ,⟨m0,ρ,I,w0⟩,?_⟩
  rintro m σ H ⟨ρ,I,w⟩;refine⟨C,ρ,_,I,turn m ρ w,λb ρ1 H1 q f s=> ?_⟩
  have I1:=(I.frz f).same s;cases b with
  | true=>
   dsimp only at q⊢;rw[a9 rfl]at q⊢;refine⟨λσ' H'=> ∃m',m'<m/\ ∃ρ',EOk X.K C ρ' σ' H'/\W m' ρ',λσ' H' z=>z,C,ρ1,_,I1,q,⟨?_,k.rt,k.nx,?_⟩⟩
   .rintro ρ' σ' H' ⟨m',hm,w'⟩ I';exact⟨m',hm,ρ',I',w'⟩
   .rintro ρ' σ' H' ⟨m',hm,w'⟩ I';exact⟨m',hm,ρ',I',w'⟩
  | false=>
   dsimp only at q⊢;rw[a7 bN]at q⊢;exact k.nx _ _ _ q I1
end
abbrev UI:=Ev->(Nat->(Nat->D)->Ev->Prop)->Prop
structure cD0 (K:PySem.W.Frag)(A:AS)(H:Hp)(J:It)(n:Nat)(it:Nat->D):Prop where
 go: ∀A' H' i,mY A H A' H'->i<n->J.go i H'
 yld: ∀A' H' i x H'',mY A H A' H'->(∀a,A' a->H' a≠none)->i<n->J.yld i H' x H''->i6 H' H''/\Rep K A' H'' (it i) x
 stop: ∀A' H',mY A H A' H'->J.stop n H'
def lI (K:PySem.W.Frag)(t:UI):TI:=λσ H R=> ∃C ρ Q0,EOk K C ρ σ H/\t ρ Q0/\
 ∀n it ρ' J H',Q0 n it ρ'->Frz ρ ρ'->i6 H H'->cD0 K (Av C ρ' σ) H' J n it->R J H'
def PUI (X:Cx)(tg iter:Expr)(t:UI):Prop:=PI X tg iter (lI X.K t)
def gP (ui:UI)(g:UG)(tb:US):US:=λD ρ=>ui ρ λn it ρ1=> ∃Pv:Nat->Ev->Prop,Pv 0 ρ1/\
 (∀i ρ,i<n->Pv i ρ->g (.pu<|it i) ρ λρ2=>tb {D with nx:=Pv (i+1),ct:=Pv (i+1),bk:=D.nx} ρ2)/\ ∀ρ,Pv n ρ->D.nx ρ
nonrec def C0.rz (C:C0) (ρ:Ev) (σ:L2.St) (H:Hp):C0:=C.raise ρ σ H λ_=>Classical.propDecidable _
section
variable {X:Cx}{e:Expr}{pos:Pos}{te:UE}{K:PySem.W.Frag}{C:C0}{ρ ρ':Ev}{σ σ':L2.St}{H H':Hp}
theorem EOk.rz (I:EOk K C ρ σ H):EOk K (C.rz ρ σ H) ρ σ H/\i6 C.H0 (C.rz ρ σ H).H0:=I.raise
theorem cY5 (I':EOk K (C.rz ρ σ H) ρ' σ' H'):mY (Av C ρ σ) H (Av (C.rz ρ σ H) ρ' σ') H':=λb o nb e=>by
 have e0:(C.rz ρ σ H).H0 b=some o:=by
  show @ite _ (Own ρ σ b) (Classical.propDecidable _) none (H b)=some o
  rw[a7 λz=>nb (.inr z)]
  exact e
 refine⟨?_,I'.ext b o e0⟩
 rintro(z| ⟨i,l,h1,h2⟩)
 .exact nb (.inl z)
 .obtain⟨a,vs,h3,h4,h5,_⟩:=I'.ow i l h1;rw[h2]at h3;cases h3;rw[e0]at h5;cases h5
theorem b36 {ui:UI}{g:UG}{T:List Nat}{tb:US}(hp:PassesOwn (model X.prog X.w) X.A X.env X.xe)(hc:X.calm=true)(hi:PUI X tg iter ui)(hg:PUG X tg T g)(hb:sR X body tb)
  (hs: ∀x,foldedSetIterable iter X.env x=pure x:=by intro _;rfl):PUS X (.For tg iter body [] pos) (gP ui g tb):=
 rY (ps_for hp hc hi hg hb hs) λD σ H ⟨C,ρ,D0,I,h,k⟩=>⟨C,ρ,_,I,h,λn it ρ1 J H1 q f s ok=>by
  obtain⟨Pv,p0,turn,fin⟩:=q;have I1:=(I.frz f).same s;obtain⟨Ir,sub⟩:=I1.rz;refine⟨λi m σ' H'=>m=n-i/\i<=n/\ ∃ρ',EOk X.K (C.rz ρ1 σ H1) ρ' σ' H'/\Pv i ρ',⟨n,rfl,dM _,ρ1,Ir,p0⟩,?_⟩
  rintro i m σ' H' ⟨rfl,hi,ρ',I',p'⟩;have P:=cY5 I';have lo: ∀ρ2 σ2 H2,EOk X.K (C.rz ρ1 σ H1) ρ2 σ2 H2->EOk X.K C ρ2 σ2 H2:=λρ2 σ2 H2 J2=>J2.lower sub rfl I.a0
  by_cases hlt:i<n
  .refine .inr ⟨ok.go _ _ i P hlt,λσ2 H2=> ∃ρ2,EOk X.K (C.rz ρ1 σ H1) ρ2 σ2 H2/\Pv (i+1) ρ2,λσ2 H2 z=>⟨n-(i+1),aa,rfl,hlt,z⟩,λx H2 y=> ?_⟩
   obtain⟨s2,r2⟩:=ok.yld _ _ i x H2 P (λa z=>I'.avSome z) hlt y
   refine⟨C.rz ρ1 σ H1,ρ',.pu<|it i,H',_,I',s2,r2,turn i ρ' hlt p',λρ2 σ2 H3 q I3 _=>⟨C.rz ρ1 σ H1,ρ2,_,I3,q,⟨?_,?_,?_,?_⟩⟩⟩
   .exact λρ3 σ3 H4 q I4=>⟨ρ3,I4,q⟩
   .exact λb v H4 q s4 r4=>k.rt b v H4 q (sub.trans s4) (r4.from sub)
   .exact λρ3 σ3 H4 q I4=>k.nx ρ3 σ3 H4 q (lo _ _ _ I4)
   .exact λρ3 σ3 H4 q I4=>⟨ρ3,I4,q⟩
  .have e:i=n:=aa
   subst e;exact .inl ⟨ok.stop _ _ P,k.nx _ _ _ (fin ρ' p')<|lo _ _ _ I'⟩⟩
nonrec def pO:D->Option (List D)
 | .tup l=>some l
 | .lst l=>some l
 | .rol l=>some l
 | _=>none
def dW (t:UE):UI:=λρ Q=>t ρ λb ρ1=>match pO b.d with
 | some l=>Q l.length (λi=>l.getD i .non) ρ1
 | none=>False
theorem pi_any {l:Expr}{tl:TE}(hl:PE X l tl):PI X tg l (λσ H R=>tl σ H λx H1=> ∃a,x= .ref a/\((∃xs,SqL X.K H1 a xs/\R (Itl X.K a) H1)\/ ∃xs,SqT X.K H1 a xs/\R (Itt X.K a) H1)):=by
 intro pins s σ H R I h;refine thn (hl pins s σ H _ I h) λv s1 ⟨x,H1,I1,r1,q1⟩=> ?_
 obtain⟨a,e,q⟩:=q1;subst e;cases r1;rcases q with⟨xs,hq,q⟩| ⟨xs,hq,q⟩
 .obtain⟨its,rv,p,hz⟩:=I1.list hq;refine aQ6 p.isList ?_;refine⟨s1.heap.objs.size,[s1.heap.objs.size],_,_,H1,rfl,I1.kept (t':=s1.toks) λb o e=>aV _ e,d33 a _,⟨_,cC _ rfl,rfl,rfl⟩,λb hb=> ?_,q⟩
  have e:b=s1.heap.objs.size:=by exists hb
  subst e;exact I1.fpOk (aH _) (I1.hok.fresh<|aH _)
 .obtain⟨its,rv,p,hz⟩:=I1.tuple hq;refine aQ2 (show s1.heap.IsTuple a its.toArray from p) ?_
  refine⟨s1.heap.objs.size,[s1.heap.objs.size],_,_,H1,rfl,I1.kept (t':=s1.toks) λb o e=>aV _ e,cO6 a _,⟨_,cC _ rfl,rfl,rfl⟩,λb hb=> ?_,q⟩
  have e:b=s1.heap.objs.size:=by exists hb
  subst e;exact I1.fpOk (aH _) (I1.hok.fresh<|aH _)
theorem aW4 {t t':TI}(h:PI X tg iter t)(i: ∀σ H R,t' σ H R->t σ H R):PI X tg iter t':=λpins s σ H R I q=>h pins s σ H R I (i σ H R q)
theorem bW5 {A:AS}{vs:List V}{l:List D}(c:(¬A a/\Rd H a (.lst vs))\/KL K a vs)(r:cE K A H l vs):cD0 K A H (Itl K a) l.length (λi=>l.getD i .non):=by
 have sq: ∀A' H',mY A H A' H'->SqL K H' a vs:=λA' H' P=>by
  rcases c with⟨n,c⟩|c
  .exact .inl (Rd.pres P n c).2
  .exact .inr c
 have get: ∀i,i<l.length-> ∃x,vs[i]? =some x/\Rep K A H (l.getD i .non) x:=λi hi=>r.get (by rw[aR,aU hi];rfl)
 refine⟨λA' H' i P hi=> ?_,λA' H' i x H'' P hA hi y=> ?_,λA' H' P=>⟨vs,sq _ _ P,by rw[r.length];exact aH _⟩⟩
 .obtain⟨x,e,_⟩:=get i hi;exact⟨vs,x,sq _ _ P,e⟩
 .obtain⟨x',e,r'⟩:=get i hi;obtain⟨rfl,y⟩:=y;have:=y vs (sq _ _ P);rw[e]at this;cases this;exact⟨.refl _,r'.mono P⟩
theorem dD7 {A:AS}{vs:List V}{l:List D}(c:(¬A a/\Rd H a (.tup vs))\/KT K a vs)(r:cE K A H l vs):cD0 K A H (Itt K a) l.length (λi=>l.getD i .non):=by
 have sq: ∀A' H',mY A H A' H'->SqT K H' a vs:=λA' H' P=>by
  rcases c with⟨n,c⟩|c
  .exact .inl (Rd.pres P n c).2
  .exact .inr c
 have get: ∀i,i<l.length-> ∃x,vs[i]? =some x/\Rep K A H (l.getD i .non) x:=λi hi=>r.get (by rw[aR,aU hi];rfl)
 refine⟨λA' H' i P hi=> ?_,λA' H' i x H'' P hA hi y=> ?_,λA' H' P=>⟨vs,sq _ _ P,by rw[r.length];exact aH _⟩⟩
 .obtain⟨x,e,_⟩:=get i hi;exact⟨vs,x,sq _ _ P,e⟩
 .obtain⟨x',e,r'⟩:=get i hi;obtain⟨rfl,y⟩:=y;have:=y vs (sq _ _ P);rw[e]at this;cases this;exact⟨.refl _,r'.mono P⟩
theorem eC (h:PU X e te):PUI X tg e (dW te):=aW4 (pi_any h) λσ H R ⟨C,ρ,Q0,I,h,k⟩=>⟨C,ρ,_,I,h,λb ρ1 v H1 q f s r=>by
 have rr:=r.rep λa z=>I.avF f z
 generalize b.d=d at q rr;cases d with
 | tup l=>
  simp only[Rep]at rr;obtain⟨a,vs,rfl,c,rs⟩:=rr;exact⟨a,rfl,.inr ⟨vs,c.imp cV id,k _ _ ρ1 _ H1 q f s<|dD7 c rs⟩⟩
 | lst l=>
  simp only[Rep]at rr;obtain⟨a,vs,rfl,n,c,rs⟩:=rr;exact⟨a,rfl,.inl ⟨vs,.inl<|.inl c,k _ _ ρ1 _ H1 q f s<|bW5 (.inl ⟨n,.inl c⟩) rs⟩⟩
 | rol l=>
  simp only[Rep]at rr;obtain⟨a,vs,rfl,c,rs⟩:=rr;exact⟨a,rfl,.inl ⟨vs,c.imp cV id,k _ _ ρ1 _ H1 q f s<|bW5 c rs⟩⟩
 | _=>exact(show False from q).elim⟩
theorem aS2 {A:AS}:cD0 K A H (Itr lo n) n (λi=> .int (lo+i)):=
 ⟨λ_ _ _ _ h=>h,λ_ _ i x H'' _ _ _ ⟨e,y⟩=>by subst e;subst y;exact⟨.refl _,by simp only[Rep]⟩,λ_ _ _=>aH n⟩
def fX (ta:UA):UI:=λρ Q=>ta ρ λds ρ1=>match ds with
 | [.int j]=>(-(2^62)<=j/\j<2^62)/\Q j.toNat (λi=> .int (0+i)) ρ1
 | _=>False
def bG8 (ta:UA):UI:=λρ Q=>ta ρ λds ρ1=>match ds with
 | [.int i,.int j]=>(-(2^62)<=i/\i<2^62/\ -(2^62)<=j/\j<2^62)/\Q (j-i).toNat (λk=> .int (i+k)) ρ1
 | _=>False
theorem bS {A:AS}{i:Int}{v:V}(h:Rep K A H (.int i) v):v= .int i:=by simpa only[Rep]using h
theorem cN {a:Expr}{ta:UA}(hg:Gl X "range")(hm:X.mg "range"=none)(ha:PUA X [a] ta)(hs:↥(starEach [a] X.env=[(false,eval a X.env)])):PUI X tg (.Call (.Name "range" p) [a] [] pos) (fX ta):=
 aW4 (d34 hg hm ha hs) λσ H R ⟨C,ρ,Q0,I,h,k⟩=>⟨C,ρ,_,I,h,λds ρ1 vs H1 q f s r=>by
  split at q
  .rename_i j
   obtain⟨v,vr,rfl,rv,rr⟩:=r.uncons;have:=rr.unnil;subst this;have:=bS rv;subst this;obtain⟨⟨h1,h2⟩,q⟩:=q;exact⟨j,rfl,h1,h2,k _ _ ρ1 _ H1 q f s aS2⟩
  .exact q.elim⟩
theorem b37 {a b:Expr}{ta:UA}(hg:Gl X "range")(hm:X.mg "range"=none)(ha:PUA X [a,b] ta)(hs:↥(starEach [a,b] X.env=[(false,eval a X.env),(false,eval b X.env)]))(hs2:↥(starEach [b] X.env=[(false,eval b X.env)])) :
  PUI X tg (.Call (.Name "range" p) [a,b] [] pos) (bG8 ta):=
 aW4 (d35 hg hm ha hs hs2) λσ H R ⟨C,ρ,Q0,I,h,k⟩=>⟨C,ρ,_,I,h,λds ρ1 vs H1 q f s r=>by
  split at q
  .rename_i i j
   obtain⟨v,vr,rfl,rv,rr⟩:=r.uncons;obtain⟨w,wr,rfl,rw',rr'⟩:=rr.uncons;have:=rr'.unnil;subst this;have:=bS rv;subst this;have:=bS rw';subst this;obtain⟨hb,q⟩:=q;exact⟨i,j,rfl,hb,k _ _ ρ1 _ H1 q f s aS2⟩
  .exact q.elim⟩
end
section
variable {X:Cx}{a b e o:Expr}{es:List Expr}{pos:Pos}{ta tb te ti:UE}{K:PySem.W.Frag}{C:C0}{ρ ρ':Ev}{σ σ':L2.St}{H H':Hp}{A:AS}
theorem Frz.ow {l:List D}(f:Frz ρ ρ')(h:ρ'[i]? =some (some<|.ow l)):ρ[i]? =some (some<|.ow l):=by
 rcases f.2 i with q| ⟨l',_,q⟩
 .exact q▸h
 .rw[q]at h;cases h
def lH (ρ:Ev)(i:Nat)(Q:List D->Prop):Prop:=match ρ[i]? with
 | some (some<|.ow l)=>Q l
 | _=>False
theorem jV {Q:List D->Prop}(h:lH ρ i Q): ∃l,ρ[i]? =some (some<|.ow l)/\Q l:=by
 unfold lH at h;split at h
 .rename_i l e
  exact⟨l,e,h⟩
 .exact h.elim
def aK9 (i:Nat)(t:UE):US:=λD ρ=>lH ρ i λ_=>t ρ λb ρ1=>lH ρ1 i λl=>l.length<sizeLine/\D.nx (ρ1.set i<|some<|.ow<|l++[b.d])
theorem iT (i:Nat)(hx:PE X (.Name x p) (aB0 i))(he:PU X e te)
  (hbase:↥(attributeBase (.Name x p) "append" X.env (eval (.Name x p) X.env)=eval (.Name x p) X.env))
  (hfew:↥(((backTo cpos<|starEach [e] X.env).all (λx=> !x.1)&&(backToKw cpos<|keywordEach [] X.env).all (λx=>x.1.isSome)
   &&decide ([e].length+([]:List Keyword).length+(if([]:List Keyword).isEmpty then 0 else 1)<30))=true))
  (hline:↥((apos.endLine==cpos.line)=true)) (hs:↥(starEach [e] X.env=(false,eval e X.env)::starEach [] X.env)) (hplain:↥((backTo cpos<|starEach [] X.env).any (·.1)=false))
  (hw:↥(swapsWith (.Call (.Attribute (.Name x p) "append" apos) [e] [] cpos) none pos.line X.env=pure false)) :
  PUS X (.Expr (.Call (.Attribute (.Name x p) "append" apos) [e] [] cpos) pos) (aK9 i te):=
 rY (bD4 (e41 PySem.F.plainAttrs_list PySem.F.slot_list_append PySem.F.type_list_append bW1 hx (aW1 he c39 hs) hbase hfew hline hs hplain) hw) λD σ H ⟨C,ρ,D0,I,h,k⟩=>by
  obtain⟨l,hl,h⟩:=jV h;obtain⟨a,vs,h1,h2,h3,h4⟩:=I.ow i l hl;refine⟨.ref a,h1,.inl ⟨rfl,vs,SqL.of h2⟩,C,ρ,_,I,h,λb ρ1 v H1 q f s r=> ?_⟩
  obtain⟨l',hl',hz,q⟩:=jV q;have e:=f.ow hl';rw[hl]at e;cases e;have I1:=(I.frz f).same s;obtain⟨a',vs',g1,g2,g3,g4⟩:=I1.ow i l hl';rw[h1]at g1;cases g1;refine⟨a,vs',v,rfl,rfl,g2,by rw[<-g4.length];exact hz,k.nx _ _ _ q ?_⟩
  exact I1.write hl' h1 (g4.append<|.cons (r.rep λa z=>I.avF f z) .nil)
def yL (i:Nat)(t ti:UE):US:=λD ρ=>t ρ λb ρ1=>lH ρ1 i λ_=>ti ρ1 λj ρ2=>lH ρ2 i λl=>match j.d with
 | .int k=>(match ixN l.length k with
  | some n=>D.nx (ρ2.set i<|some<|.ow<|l.set n b.d)
  | none=>False)
 | _=>False
theorem jN {ix:Expr}(i:Nat)(hx:PE X (.Name x p) (aB0 i))(he:PU X e te)(hi:PU X ix ti)
  (ha: ∀v,assign (.Subscript (.Name x p) ix tpos) X.env v=(do
   let ov<-holding [v] (eval (.Name x p) X.env)
   let iv<-holding [v,ov] (eval ix X.env)
   standAt tpos
   holding [v,ov,iv] (setItem ov iv v)
   release [v,ov,iv] []):=by intro _;rfl)
  (hs:↥(swapsWithSole [.Subscript (.Name x p) ix tpos] e pos.line X.env=pure false)) (hw:↥(swappedStores [.Subscript (.Name x p) ix tpos] e X.env=pure none))
  (h1:↥((assignEach [.Subscript (.Name x p) ix tpos] X.env).map (·.2)=[assign (.Subscript (.Name x p) ix tpos) X.env])):PUS X (.Assign [.Subscript (.Name x p) ix tpos] e pos) (yL i te ti):=
 rY (dB2 he (pg_sub hx hi cC4 ha) hs hw h1) λD σ H ⟨C,ρ,D0,I,h,k⟩=>⟨C,ρ,_,I,h,λb ρ1 v H1 q f s r=>by
  obtain⟨l,hl,q⟩:=jV q;have I1:=(I.frz f).same s;obtain⟨a,vs,h1,h2,h3,h4⟩:=I1.ow i l hl;refine⟨.ref a,h1,C,ρ1,_,I1,q,λj ρ2 w H2 q2 f2 s2 r2=> ?_⟩
  obtain⟨l',hl',q2⟩:=jV q2;have e:=f2.ow hl';rw[hl]at e;cases e;have I2:=(I1.frz f2).same s2;obtain⟨a',vs',g1,g2,g3,g4⟩:=I2.ow i l hl';rw[h1]at g1;cases g1;have rj:=r2.rep λa z=>I1.avF f2 z
  generalize j.d=dj at q2 rj;split at q2
  .rename_i kk
   have:=bS rj;subst this;split at q2
   .rename_i n hn
    refine⟨a,vs',kk,n,rfl,rfl,g2,by rw[<-g4.length];exact hn,k.nx _ _ _ q2 ?_⟩
    exact I2.write hl' h1 (g4.set n<|(r.rep λa z=>I.avF f z).mono<|.sub s2 λa=>f2.av)
   .exact q2.elim
  .exact q2.elim⟩
def gIx (d i:D)(Q:D->Prop):Prop:=match pO d,i with
 | some l,.int k=>(match atI l k with
  | some x=>Q x
  | none=>False)
 | _,_=>False
def uIx (t:UV)(ti:UE):UE:=λρ Q=>t ρ λd ρ1=>ti ρ1 λi ρ2=>gIx d i.d λx=>Q (.pu x) ρ2
theorem cE.atI {l:List D}{vs:List V}{k:Int}{x:D}(r:cE K A H l vs)(h:atI l k=some x): ∃v,L2.atI vs k=some v/\Rep K A H x v:=by
 unfold L2.atI at h⊢;cases e:ixN l.length k with
 | none=>rw[e]at h;cases h
 | some j=>
  rw[e]at h;rw[<-r.length,e];exact r.get h
theorem cP7.mono {A':AS}(s:i6 H H')(h: ∀a,A' a->A a): ∀{d:D} {v:V},cP7 K A H d v->cP7 K A' H' d v
 | .non,_,r=>Rep.mono (.sub s h) r
 | .bl _,_,r=>Rep.mono (.sub s h) r
 | .int _,_,r=>Rep.mono (.sub s h) r
 | .str _,_,r=>Rep.mono (.sub s h) r
 | .ty _,_,r=>Rep.mono (.sub s h) r
 | .tup _,_,⟨a,vs,e,c,r⟩=>⟨a,vs,e,c.imp (λc=>c.imp (s _ _) λ⟨o,z⟩=>⟨o,s _ _ z⟩) id,r.mono<|.sub s h⟩
 | .lst _,_,⟨a,vs,e,c,r⟩=>⟨a,vs,e,s _ _ c,r.mono<|.sub s h⟩
 | .rol _,_,⟨a,vs,e,c,r⟩=>⟨a,vs,e,s.seq c,r.mono<|.sub s h⟩
 | .obj _ _ _,_,r=>Rep.mono (.sub s h) r
 | .adr _,_,r=>Rep.mono (.sub s h) r
 | .xob _ _ _ _,_,r=>Rep.mono (.sub s h) r
theorem cP7.seq {d:D}{v:V}{l:List D}(r:cP7 K A H d v)(h:pO d=some l): ∃a vs,v= .ref a/\(SqL K H a vs\/SqT K H a vs)/\cE K A H l vs:=by
 cases d with
 | tup l'=>cases h;obtain⟨a,vs,e,c,r⟩:=r;exact⟨a,vs,e,.inr c,r⟩
 | lst l'=>cases h;obtain⟨a,vs,e,c,r⟩:=r;exact⟨a,vs,e,.inl<|SqL.of c,r⟩
 | rol l'=>cases h;obtain⟨a,vs,e,c,r⟩:=r;exact⟨a,vs,e,.inl c,r⟩
 | _=>cases h
theorem dU1 {d i:D}{Q:D->Prop}(h:gIx d i Q): ∃l k x,pO d=some l/\i= .int k/\atI l k=some x/\Q x:=by
 unfold gIx at h;split at h
 .rename_i l k e
  split at h
  .rename_i x ex
   exact⟨l,k,x,e,rfl,ex,h⟩
  .exact h.elim
 .exact h.elim
theorem aB4 {t:UV}(ha:PUV X a t)(hb:PU X b ti)(hs:aW2 b):PU X (.Subscript a b pos) (uIx t ti):=
 iZ (pe_ix ix_seq ha hb hs) λσ H Q ⟨C,ρ,Q0,I,h,k⟩=>⟨C,ρ,_,I,h,λd ρ1 v H1 q f s r=>by
  have I1:=(I.frz f).same s;refine⟨C,ρ1,_,I1,q,λi ρ2 w H2 q2 f2 s2 r2=> ?_⟩
  obtain⟨l,kk,x,e1,e2,e3,q2⟩:=dU1 q2;have ri:=r2.rep λa z=>I1.avF f2 z
  rw[e2]at ri;have:=bS ri;subst this;obtain⟨a,vs,rfl,c,rs⟩:=(r.mono (A':=Av C ρ2 σ) s2 λa=>f2.av).seq e1
  obtain⟨u,e4,r4⟩:=rs.atI e3;have fin:=k (.pu x) ρ2 u H2 q2 (f.trans f2) (s.trans s2) r4;rcases c with c|c
  .exact .inl ⟨a,vs,kk,u,rfl,rfl,c,e4,fin⟩
  .exact .inr (.inl ⟨a,vs,kk,u,rfl,rfl,c,e4,fin⟩)⟩
abbrev UO:=Ev->(Option Int->Ev->Prop)->Prop
def lO (K:PySem.W.Frag)(t:UO):TO:=λσ H Q=> ∃C ρ Q0,EOk K C ρ σ H/\t ρ Q0/\ ∀i ρ' H',Q0 i ρ'->Frz ρ ρ'->i6 H H'->Q i H'
def PUO (X:Cx)(e:Option Expr)(t:UO):Prop:=PO X e (lO X.K t)
theorem e45 {e:Option Expr}{t t':TO}(h:PO X e t)(i: ∀σ H Q,t' σ H Q->t σ H Q):PO X e t':=λpins s σ H Q I q=>h pins s σ H Q I (i σ H Q q)
def j4:UO:=λρ Q=>Q none ρ
def lY (t:UE):UO:=λρ Q=>t ρ λb ρ1=>match b.d with
 | .int i=>Q (some i) ρ1
 | _=>False
theorem jW:PUO X none j4:=e45 dT3 λσ H Q ⟨C,ρ,Q0,I,h,k⟩=>k _ _ _ h (.refl _) (.refl _)
theorem gQ (h:PU X e te):PUO X (some e) (lY te):=e45 (dT4 h) λσ H Q ⟨C,ρ,Q0,I,h,k⟩=>⟨C,ρ,_,I,h,λb ρ1 v H1 q f s r=>by
 have r':=r.rep λa z=>I.avF f z
 generalize b.d=d at q r';split at q
 .exact⟨_,bS r',k _ _ _ q f s⟩
 .exact q.elim⟩
nonrec def cutD (l:List D)(lo hi:Option Int):List D:=(l.drop<|HT.sIx l.length 0 lo).take (HT.sIx l.length l.length hi-HT.sIx l.length 0 lo)
theorem cE.cut {l:List D}{vs:List V}(r:cE K A H l vs)(lo hi:Option Int):cE K A H (cutD l lo hi) (cC3 vs lo hi):=by
 unfold cutD cC3;rw[r.length];exact(r.drop _).take _
def gSl (d:D)(lo hi:Option Int)(Q:B->Prop):Prop:=match d with
 | .tup l=> ¬(HT.sIx l.length 0 lo=0/\HT.sIx l.length l.length hi=l.length)/\Q (.pu<|.tup<|cutD l lo hi)
 | .lst l=>Q (.ow<|cutD l lo hi)
 | .rol l=>Q (.ow<|cutD l lo hi)
 | _=>False
def uSl (t:UV)(tl th:UO):UE:=λρ Q=>t ρ λd ρ1=>tl ρ1 λlo ρ2=>th ρ2 λhi ρ3=>gSl d lo hi λb=>Q b ρ3
theorem j6 {t:UV}{tl th:UO}{lo hi:Option Expr}(he:PUV X e t)(hl:PUO X lo tl)(hu:PUO X hi th):PU X (.Subscript e (.Slice lo hi none p2) pos) (uSl t tl th):=
 iZ (cC2 (cY3.or dC4) he hl hu) λσ H Q ⟨C,ρ,Q0,I,h,k⟩=>⟨C,ρ,_,I,h,λd ρ1 v H1 q f s r=>by
  have I1:=(I.frz f).same s;refine⟨C,ρ1,_,I1,q,λl2 ρ2 H2 q2 f2 s2=> ?_⟩
  have I2:=(I1.frz f2).same s2;refine⟨C,ρ2,_,I2,q2,λh3 ρ3 H3 q3 f3 s3=> ?_⟩
  have I3:=(I2.frz f3).same s3;have s13:=s2.trans s3;have sAll:=s.trans s13;have fAll:=f.trans (f2.trans f3);have r':=r.mono (A':=Av C ρ3 σ) s13 λa z=>f2.av (f3.av z)
  cases d with
  | tup l=>
   obtain⟨hw,q3⟩:=q3;obtain⟨a,vs,rfl,c,rs⟩:=r';exact .inr ⟨a,vs,rfl,c,by rw[<-rs.length];exact hw,λp n=>k _ ρ3 _ _ q3 fAll (sAll.trans<|fE n _) (j2 (λa z=>I3.avSome z) n<|rs.cut l2 h3)⟩
  | lst l=>
   obtain⟨a,vs,rfl,c,rs⟩:=r';exact .inl ⟨a,vs,rfl,SqL.of c,λp n=>k _ ρ3 _ _ q3 fAll (sAll.trans<|fE n _) (hX sAll n<|rs.cut l2 h3)⟩
  | rol l=>
   obtain⟨a,vs,rfl,c,rs⟩:=r';exact .inl ⟨a,vs,rfl,c,λp n=>k _ ρ3 _ _ q3 fAll (sAll.trans<|fE n _) (hX sAll n<|rs.cut l2 h3)⟩
  | _=>exact(show False from q3).elim⟩
def Sm (i:Int):Prop:=i.natAbs<2^9000
theorem Sm.log {i:Int}(h:Sm i):i.natAbs.log2<9000:=by
 by_cases z:i.natAbs=0
 .rw[z];decide
 .exact(Nat.log2_lt z).mpr h
def eV (d e:D)(Q:B->Prop):Prop:=match d,e with
 | .int i,.int j=>Q (.pu<|.int<|i+j)
 | .lst l,.lst m=>l.length+m.length<=sizeLine/\Q (.ow<|l++m)
 | .tup l,.tup m=>l.length+m.length<=sizeLine/\Q (.pu<|.tup<|l++m)
 | _,_=>False
theorem dD8:OpR X (binaryOp .Add) (λx y H Q=> ∃a b ys,x= .ref a/\y= .ref b/\SqT X.K H a []/\SqT X.K H b ys/\Q (.ref b) H):=by
 intro pins s σ H x y v u Q I rx ry h;obtain⟨a,b,ys,rfl,rfl,ha,hb,q⟩:=h;cases rx;cases ry;obtain⟨its,r1,p1,_⟩:=I.tuple ha;obtain⟨its2,r2,p2,_⟩:=I.tuple hb;have e:its=[]:=by
  have:=r1.length;exact u7.mp this.symm
 subst e;obtain⟨⟨cls,dd,data,sl⟩,ho,hc,n,hd⟩:=id p1;obtain⟨⟨cls2,dd2,data2,sl2⟩,ho2,hc2,n2,hd2⟩:=id p2;simp only at hc hd hc2 hd2;subst hc hd hc2 hd2;exact concat_meets ⟨_,ho,rfl⟩ ⟨_,ho2,rfl⟩ aR1 seq_tuple_add aO4 aN9 (aN5 _ _) (tuple_addW0 a b _ its2.toArray n n2 dd dd2 sl sl2 rfl) ⟨ho,ho2,⟨.ref b,H,I,rfl,q⟩⟩
theorem aB5 {i:Int}:qV K A H H' (.pu<|.int i) (.int i):=by
 show Rep K A H' (.int i) (.int i)
 simp only[Rep]
theorem bZ:OpU X (binaryOp .Add) eV:=by
 intro A H d e v w Q0 Q hA r1 r2 g k;unfold eV at g;split at g
 .rename_i i j
  exact⟨_,op_add,i,j,bS r1,bS r2,k _ _ H g (.refl _) aB5⟩
 .rename_i l m
  simp only[Rep]at r1 r2;obtain⟨a,vs,rfl,n1,c1,rs1⟩:=r1;obtain⟨b,ws,rfl,n2,c2,rs2⟩:=r2;exact⟨_,op_cat,a,b,vs,ws,rfl,rfl,c1,c2,by rw[<-rs1.length,<-rs2.length];exact g.1,λp n=>k _ _ _ g.2 (fE n _) (hX (.refl _) n<|rs1.append rs2)⟩
 .rename_i l m
  simp only[Rep]at r1 r2;obtain⟨a,vs,rfl,c1,rs1⟩:=r1;obtain⟨b,ws,rfl,c2,rs2⟩:=r2;obtain⟨hz,g⟩:=g
  by_cases hn:l=[]
  .subst hn;have e1:vs=[]:=rs1.unnil;subst e1;refine⟨_,dD8,a,b,ws,rfl,rfl,c1.imp cV id,c2.imp cV id,k _ _ H g (.refl _) ?_⟩;show Rep X.K A H (.tup m) (.ref b);simp only[Rep];exact⟨b,ws,rfl,c2,rs2⟩
  refine⟨_,dT5,a,b,vs,ws,rfl,rfl,c1.imp cV id,c2.imp cV id,λz=>hn ?_,by rw[<-rs1.length,<-rs2.length];exact hz,λz=> ?_,λz p n=> ?_⟩
  .have:=rs1.length;rw[z]at this;exact u7.mp this
  .have e2:=rs2.length;rw[z]at e2;have e3:m=[]:=u7.mp e2;subst e3;rw[gW]at g;refine k _ _ H g (.refl _) ?_;show Rep X.K A H (.tup l) (.ref a);simp only[Rep];exact⟨a,vs,rfl,c1,rs1⟩
  .exact k _ _ _ g (fE n _) (j2 hA n<|rs1.append rs2)
 .exact g.elim
def gI2 (f:Int->Int->(B->Prop)->Prop)(d e:D)(Q:B->Prop):Prop:=match d,e with
 | .int i,.int j=>f i j Q
 | _,_=>False
theorem tN {f:Int->Int->(B->Prop)->Prop}{d e:D}{Q:B->Prop}(h:gI2 f d e Q): ∃i j,d= .int i/\e= .int j/\f i j Q:=by
 unfold gI2 at h;split at h
 .exact⟨_,_,rfl,rfl,h⟩
 .exact h.elim
def gSub:D->D->(B->Prop)->Prop:=gI2 λi j Q=>Q (.pu<|.int<|i-j)
theorem bL:OpU X (binaryOp .Sub) gSub:=by
 intro A H d e v w Q0 Q hA r1 r2 g k;obtain⟨i,j,rfl,rfl,g⟩:=tN g;exact⟨_,op_sub,i,j,bS r1,bS r2,k _ _ H g (.refl _) aB5⟩
theorem cY6 {i:Int}(h:Sm i):Builtin.Int.intBits i<=2^20:=aJ (PyProof.Rows.intBits_le h) ac
def fG (d e:D)(Q:B->Prop):Prop:=match d,e with
 | .int i,.int j=>(cO7 i j\/(Sm i/\Sm j))/\Q (.pu<|.int<|i*j)
 | .lst l,.int k=>(-(2^63)<=k/\k<2^63/\l.length*k.toNat<=sizeLine)/\Q (.ow (replicate k.toNat l).flatten)
 | _,_=>False
theorem dU2:OpR X (binaryOp .Mult) (rI (λi j=>cO7 i j\/(Sm i/\Sm j)) λi j=> .int (i*j)):=opI λ_ _ _ _ _ _ _ hc q=>mul_int q (hc.elim cO7.ok λh=> .of_bits (cY6 h.1) (cY6 h.2))
theorem cA:OpU X (binaryOp .Mult) fG:=by
 intro A H d e v w Q0 Q hA r1 r2 g k;unfold fG at g;split at g
 .rename_i i j
  exact⟨_,dU2,i,j,bS r1,bS r2,g.1,k _ _ H g.2 (.refl _) aB5⟩
 .rename_i l kk
  have:=bS r2;subst this;simp only[Rep]at r1;obtain⟨a,vs,rfl,n1,c1,rs1⟩:=r1;obtain⟨⟨h1,h2,h3⟩,g⟩:=g;exact⟨_,op_rep,a,kk,vs,rfl,rfl,c1,h1,h2,by rw[<-rs1.length];exact h3,λp n=>k _ _ _ g (fE n _) (hX (.refl _) n<|rs1.rep _)⟩
 .exact g.elim
def aW5:D->D->(B->Prop)->Prop:=gI2 λi j Q=>(j≠0/\Sm j)/\Q (.pu<|.int<|i.fdiv j)
def jX:D->D->(B->Prop)->Prop:=gI2 λi j Q=>j≠0/\Q (.pu<|.int<|i.fmod j)
theorem dU3:OpR X (binaryOp .FloorDiv) (rI (λ_ j=>j≠0/\Sm j) λi j=> .int (i.fdiv j)):=opI λ_ _ _ _ _ _ _ hc q=>floordiv_int hc.1 q (.inl<|PyProof.noPylong_of_log2 hc.2.log)
theorem uU:OpU X (binaryOp .FloorDiv) aW5:=by
 intro A H d e v w Q0 Q hA r1 r2 g k;obtain⟨i,j,rfl,rfl,g⟩:=tN g;exact⟨_,dU3,i,j,bS r1,bS r2,g.1,k _ _ H g.2 (.refl _) aB5⟩
theorem eO:OpU X (binaryOp .Mod) jX:=by
 intro A H d e v w Q0 Q hA r1 r2 g k;obtain⟨i,j,rfl,rfl,g⟩:=tN g;exact⟨_,dS5,i,j,bS r1,bS r2,g.1,k _ _ H g.2 (.refl _) aB5⟩
def cD1:D->D->(B->Prop)->Prop:=gI2 λi j Q=>dS4 i j/\Q (.pu<|.int<|i^j.toNat)
theorem b38:OpU X (binaryOp .Pow) cD1:=by
 intro A H d e v w Q0 Q hA r1 r2 g k;obtain⟨i,j,rfl,rfl,g⟩:=tN g;exact⟨_,op_pow,i,j,bS r1,bS r2,g.1,k _ _ H g.2 (.refl _) aB5⟩
def oX (p:Int->Int->Bool):D->D->(B->Prop)->Prop:=gI2 λi j Q=>Q (.pu<|.bl<|p i j)
theorem c49 {p:Int->Int->Bool}(ho:OpR X (compareOp op) (rI0 λi j=> .bl (p i j))):OpU X (compareOp op) (oX p):=by
 intro A H d e v w Q0 Q hA r1 r2 g k;obtain⟨i,j,rfl,rfl,g⟩:=tN g;exact⟨_,ho,i,j,bS r1,bS r2,k _ _ H g (.refl _) lX⟩
theorem bW6:OpU X (compareOp .Lt) (oX λi j=>decide (i<j)):=c49 op_lt
theorem e46:OpU X (compareOp .LtE) (oX λi j=>decide (i<=j)):=c49 op_le
theorem aB6:OpU X (compareOp .Gt) (oX λi j=>decide (j<i)):=c49 op_gt
theorem dD9:OpU X (compareOp .GtE) (oX λi j=>decide (j<=i)):=c49 op_ge
def gJ (neg:Bool)(d e:D)(Q:B->Prop):Prop:=match d,e with
 | .int i,.int j=>Q (.pu<|.bl<|neg ^^ decide (i=j))
 | .bl i,.bl j=>Q (.pu<|.bl<|neg ^^ decide (i=j))
 | .str i,.str j=>Q (.pu<|.bl<|neg ^^ decide (i=j))
 | _,_=>False
theorem wE {b:Bool}{v:V}(h:Rep K A H (.bl b) v):v= .bl b:=by simpa only[Rep]using h
theorem aW6 {b:Str}{v:V}(h:Rep K A H (.str b) v):v= .str b:=by simpa only[Rep]using h
theorem fJ:OpU X (compareOp .Eq) (gJ false):=by
 intro A H d e v w Q0 Q hA r1 r2 g k;unfold gJ at g;split at g
 .rw[bS r1,bS r2];exact⟨_,dB5,rfl,k _ _ H g (.refl _) (by rw[bD5,nW,pX];exact lX)⟩
 .rw[wE r1,wE r2];exact⟨_,dB5,rfl,k _ _ H g (.refl _) (by rw[c38,nW,pX];exact lX)⟩
 .rw[aW6 r1,aW6 r2];exact⟨_,dB5,rfl,k _ _ H g (.refl _) (by rw[bD6,nW,pX];exact lX)⟩
 .exact g.elim
theorem cD2:OpU X (compareOp .NotEq) (gJ true):=by
 intro A H d e v w Q0 Q hA r1 r2 g k;unfold gJ at g;split at g
 .rw[bS r1,bS r2];exact⟨_,dB6,rfl,k _ _ H g (.refl _) (by rw[bD5,nX,pX];exact lX)⟩
 .rw[wE r1,wE r2];exact⟨_,dB6,rfl,k _ _ H g (.refl _) (by rw[c38,nX,pX];exact lX)⟩
 .rw[aW6 r1,aW6 r2];exact⟨_,dB6,rfl,k _ _ H g (.refl _) (by rw[bD6,nX,pX];exact lX)⟩
 .exact g.elim
end
section
variable {X:Cx}{a b e o:Expr}{es:List Expr}{pos:Pos}{ta tb te ti:UE}{K:PySem.W.Frag}{C:C0}{ρ ρ':Ev}{σ σ':L2.St}{H H':Hp}{A:AS}
def lZ (t:UE):UE:=λρ Q=>t ρ λb ρ1=>match b.d with
 | .int i=>Q (.pu<|.int<|-i) ρ1
 | _=>False
theorem gK (h:PU X a ta):PU X (.UnaryOp .USub a pos) (lZ ta):=
 iZ (pe_un un_neg h) λσ H Q ⟨C,ρ,Q0,I,h,k⟩=>⟨C,ρ,_,I,h,λb ρ1 v H1 q f s r=>by
  have r':=r.rep λa z=>I.avF f z
  generalize b.d=d at q r';split at q
  .exact⟨_,bS r',k _ _ _ _ q f s aB5⟩
  .exact q.elim⟩
theorem cQ1:IpU X .Add (gI2 λi j Q=>Q (.pu<|.int<|i+j)):=by
 intro A H d e v w Q0 Q hA r1 r2 g k;obtain⟨i,j,rfl,rfl,g⟩:=tN g;exact⟨_,ip_add,i,j,bS r1,bS r2,k _ _ H g (.refl _) aB5⟩
theorem iu_sub:IpU X .Sub (gI2 λi j Q=>Q (.pu<|.int<|i-j)):=by
 intro A H d e v w Q0 Q hA r1 r2 g k;obtain⟨i,j,rfl,rfl,g⟩:=tN g;exact⟨_,dB3,i,j,bS r1,bS r2,k _ _ H g (.refl _) aB5⟩
def g1 (f:D->(B->Prop)->Prop)(ds:List D)(Q:B->Prop):Prop:=match ds with
 | [d]=>f d Q
 | _=>False
def g2 (f:D->D->(B->Prop)->Prop)(ds:List D)(Q:B->Prop):Prop:=match ds with
 | [d,e]=>f d e Q
 | _=>False
theorem aB7 {f:D->(B->Prop)->Prop}{ds:List D}{Q:B->Prop}{vs:List V}(h:g1 f ds Q)(r:cE K A H ds vs): ∃d v,ds=[d]/\vs=[v]/\Rep K A H d v/\f d Q:=by
 unfold g1 at h;split at h
 .obtain⟨v,vr,rfl,rv,rr⟩:=r.uncons;have:=rr.unnil;subst this;exact⟨_,v,rfl,rfl,rv,h⟩
 .exact h.elim
theorem cQ2 {f:D->D->(B->Prop)->Prop}{ds:List D}{Q:B->Prop}{vs:List V}(h:g2 f ds Q)(r:cE K A H ds vs): ∃d e v w,ds=[d,e]/\vs=[v,w]/\Rep K A H d v/\Rep K A H e w/\f d e Q:=by
 unfold g2 at h;split at h
 .obtain⟨v,vr,rfl,rv,rr⟩:=r.uncons;obtain⟨w,wr,rfl,rw',rr'⟩:=rr.uncons;have:=rr'.unnil;subst this;exact⟨_,_,v,w,rfl,rfl,rv,rw',h⟩
 .exact h.elim
def dU4 (f:Int->(B->Prop)->Prop)(d:D)(Q:B->Prop):Prop:=match d with
 | .int i=>f i Q
 | _=>False
theorem dE0 {f:Int->(B->Prop)->Prop}{d:D}{Q:B->Prop}(h:dU4 f d Q): ∃i,d= .int i/\f i Q:=by
 unfold dU4 at h;split at h
 .exact⟨_,rfl,h⟩
 .exact h.elim
def bB6:List D->(B->Prop)->Prop:=g1 (dU4 λi Q=>Q (.pu<|.int<|if i<0 then -i else i))
theorem xB:uT X (.builtin "abs") bB6:=by
 intro A H ds vs Q0 Q hA r g k;obtain⟨d,v,rfl,rfl,rv,g⟩:=aB7 g r;obtain⟨i,rfl,g⟩:=dE0 g;exact⟨_,dB7,i,by rw[bS rv],k _ _ H g (.refl _) aB5⟩
def gMax:List D->(B->Prop)->Prop:=g2 (gI2 λi j Q=>Q (.pu<|.int<|if j>i then j else i))
theorem cu_max (hc:X.calm=true):uT X (.builtin "max") gMax:=by
 intro A H ds vs Q0 Q hA r g k;obtain⟨d,e,v,w,rfl,rfl,rv,rw',g⟩:=cQ2 g r;obtain⟨i,j,rfl,rfl,g⟩:=tN g;exact⟨_,d37 hc,i,j,by rw[bS rv,bS rw'],k _ _ H g (.refl _) aB5⟩
def gMin:List D->(B->Prop)->Prop:=g2 (gI2 λi j Q=>Q (.pu<|.int<|if j<i then j else i))
theorem cu_min (hc:X.calm=true):uT X (.builtin "min") gMin:=by
 intro A H ds vs Q0 Q hA r g k;obtain⟨d,e,v,w,rfl,rfl,rv,rw',g⟩:=cQ2 g r;obtain⟨i,j,rfl,rfl,g⟩:=tN g;exact⟨_,d38 hc,i,j,by rw[bS rv,bS rw'],k _ _ H g (.refl _) aB5⟩
def b39:List D->(B->Prop)->Prop:=g1 λd Q=>match d with
 | .int i=>Q (.pu<|.int i)
 | .bl k=>Q (.pu<|.int<|if k then 1 else 0)
 | _=>False
theorem cQ3:uT X (.type "int") b39:=by
 intro A H ds vs Q0 Q hA r g k;obtain⟨d,v,rfl,rfl,rv,g⟩:=aB7 g r;cases d with
 | int i=>exact⟨_,bV5,.inl ⟨i,by rw[bS rv],k _ _ H g (.refl _) aB5⟩⟩
 | bl c=>exact⟨_,bV5,.inr ⟨c,by rw[wE rv],k _ _ H g (.refl _) aB5⟩⟩
 | _=>exact(show False from g).elim
nonrec def cF:List D->(B->Prop)->Prop:=g1 λd Q=>match pO d with
 | some l=>Q (.pu<|.tup l)
 | none=>False
theorem dE:uT X (.type "tuple") cF:=by
 intro A H ds vs Q0 Q hA r g k;obtain⟨d,v,rfl,rfl,rv,g⟩:=aB7 g r;cases d with
 | tup l=>
  have rv':=rv;simp only[Rep]at rv;obtain⟨a,vs,rfl,c,rs⟩:=rv;exact⟨_,wY,a,vs,rfl,.inr ⟨c.imp cV id,k _ _ H g (.refl _) rv'⟩⟩
 | lst l=>
  simp only[Rep]at rv;obtain⟨a,vs,rfl,n,c,rs⟩:=rv;exact⟨_,wY,a,vs,rfl,.inl ⟨SqL.of c,λp n=>k _ _ _ g (fE n _) (j2 hA n rs)⟩⟩
 | rol l=>
  simp only[Rep]at rv;obtain⟨a,vs,rfl,c,rs⟩:=rv;exact⟨_,wY,a,vs,rfl,.inl ⟨c.imp cV id,λp n=>k _ _ _ g (fE n _) (j2 hA n rs)⟩⟩
 | _=>exact(show False from g).elim
nonrec def aI8:List D->(B->Prop)->Prop:=g1 λd Q=>match pO d with
 | some l=>Q (.ow l)
 | none=>False
theorem bE0:uT X (.type "list") aI8:=by
 intro A H ds vs Q0 Q hA r g k;obtain⟨d,v,rfl,rfl,rv,g⟩:=aB7 g r;cases e:pO d with
 | none=>simp only[e]at g
 | some l=>
  simp only[e]at g;obtain⟨a,vs,rfl,c,rs⟩:=rv.one.seq e;exact⟨_,c44,a,vs,rfl,c,λp n=>k _ _ _ g (fE n _) (hX (.refl _) n rs)⟩
def kF (t:UV):UE:=λρ Q=>t ρ λd ρ1=>match pO d with
 | some l=>Q (.pu<|.int l.length) ρ1
 | none=>False
theorem eJ {t:UV}(ha:PUV X e t)(hg:Gl X "len")(hm:X.mg "len"=none)(hs:↥(starEach [e] X.env=(false,eval e X.env)::starEach [] X.env))
  (hpl:↥((backTo pos<|starEach [] X.env).any (·.1)=false)):PU X (.Call (.Name "len" p) [e] [] pos) (kF t):=
 iZ (cC1 c43 hg hm PySem.boot_len (aW1 ha c39 hs) ac ac hs hpl) λσ H Q ⟨C,ρ,Q0,I,h,k⟩=>⟨C,ρ,_,I,h,λd ρ1 v H1 q f s r=>by
  cases e:pO d with
  | none=>simp only[e]at q
  | some l=>
   simp only[e]at q;obtain⟨a,vs,rfl,c,rs⟩:=r.seq e;exact⟨a,vs,rfl,c,k _ _ _ _ q f s (by rw[rs.length];exact aB5)⟩⟩
theorem aS3 {x:Value}{T:String}{A:Around}
  {P:(Result->Shared->Prop)->Shared->Prop} (hm:Meets (Builtin.«isinstance» ⟨[x,.type T],[]⟩) (λ_ R s=>P R s)) (h:P (λr s'=>match r with| .ok (.ret v)=>Q v s'| .ok _=>False| .error e=>E e s') s) :
  wpAny (model prog w) A (call (.builtin "isinstance") [x,.type T]) Q E s:=
 call_function_any kind_isinstance plain_isinstance entry_isinstance (args_isinstance _ _) (hm _ _ _ _ _ h)
theorem rep_ty {T:String}{v:V}(h:Rep K A H (.ty T) v):v= .ty T:=by simpa only[Rep]using h
def rIsi (K:PySem.W.Frag):List V->Hp->VK->Prop:=λxs H Q=> ∃x T k,xs=[x,.ty T]/\Q (.bl k) H/\
 ((∃i,x= .int i/\((T="int"/\k=true)\/((T="bool"\/T="tuple"\/T="list")/\k=false)))\/(∃c,x= .bl c/\(T="int"\/T="bool")/\k=true)\/
  (∃a ys,x= .ref a/\SqT K H a ys/\((T="tuple"/\k=true)\/((T="int"\/T="list")/\k=false)))\/(∃a ys,x= .ref a/\SqL K H a ys/\((T="list"/\k=true)\/((T="int"\/T="tuple")/\k=false))))
theorem tyT (T:String)(h:T="int"\/T="bool"\/T="tuple"\/T="list"):typeOf (.type T)=pure (.type "type"):=by
 rcases h with rfl|rfl|rfl|rfl<;>first|rfl|decide
theorem uW:pN X (.builtin "isinstance") (rIsi X.K):=by
 intro pins s σ H xs us Q I r h;obtain⟨x,T,k,rfl,q,h⟩:=h;obtain⟨u,w',rfl,rx,ry⟩:=vals2 r;have e:w'=Value.type T:=ry;subst e;rcases h with⟨i,rfl,h⟩| ⟨c,rfl,h,rfl⟩| ⟨a,ys,rfl,hs,h⟩| ⟨a,ys,rfl,hs,h⟩
 .obtain⟨t,rfl⟩:=rx;rcases h with⟨rfl,rfl⟩| ⟨h,rfl⟩
  .exact u9 (qS s i t) (tyT _ ae) PyProof.Rows.sub_int_int ⟨.bl true,H,I,rfl,q⟩
  .rcases h with rfl|rfl|rfl
   .exact aS3 (aP1 ac (tyT _ ae) PyProof.Rows.sub_int_bool) ⟨.bl false,H,I.tok _,rfl,q⟩
   .exact aS3 (aP1 ac (tyT _ ae) PyProof.Rows.sub_int_tuple) ⟨.bl false,H,I.tok _,rfl,q⟩
   .exact aS3 (aP1 ac (tyT _ ae) PyProof.Rows.sub_int_list) ⟨.bl false,H,I.tok _,rfl,q⟩
 .cases rx;rcases h with rfl|rfl
  .exact u9 (PySem.typeIs_bool s c) (tyT _ ae) PyProof.Rows.sub_bool_int ⟨.bl true,H,I,rfl,q⟩
  .exact u9 (PySem.typeIs_bool s c) (tyT _ ae) PyProof.Rows.sub_bool_bool ⟨.bl true,H,I,rfl,q⟩
 .cases rx;obtain⟨its,rv,p,hz⟩:=I.tuple hs;obtain⟨o,ho,hc,_⟩:=id p;rcases h with⟨rfl,rfl⟩| ⟨h,rfl⟩
  .exact u9 p.typeIs (tyT _ ae) PyProof.Rows.sub_tuple_tuple ⟨.bl true,H,I,rfl,q⟩
  .rcases h with rfl|rfl
   .exact aS3 (isinstance_false_tuple ac (tyT _ ae) PyProof.Rows.sub_tuple_int) ⟨⟨o,ho,hc⟩,.bl false,H,I.tok _,rfl,q⟩
   .exact aS3 (isinstance_false_tuple ac (tyT _ ae) PyProof.Rows.sub_tuple_list) ⟨⟨o,ho,hc⟩,.bl false,H,I.tok _,rfl,q⟩
 .cases rx;obtain⟨its,rv,p,hz⟩:=I.list hs;obtain⟨o,n,ho,hc,_⟩:=id p;rcases h with⟨rfl,rfl⟩| ⟨h,rfl⟩
  .exact u9 p.isList.typeIs (tyT _ ae) PyProof.Rows.sub_list_list ⟨.bl true,H,I,rfl,q⟩
  .rcases h with rfl|rfl
   .exact aS3 (isinstance_false_list ac (tyT _ ae) PyProof.Rows.sub_list_int) ⟨⟨o,ho,hc⟩,.bl false,H,I.tok _,rfl,q⟩
   .exact aS3 (isinstance_false_list ac (tyT _ ae) PyProof.Rows.sub_list_tuple) ⟨⟨o,ho,hc⟩,.bl false,H,I.tok _,rfl,q⟩
def cQ4:List D->(B->Prop)->Prop:=g2 λd e Q=>match e with
 | .ty T=>(match d with
  | .int _=>if T="int" then Q (.pu<|.bl true)else if T="bool"\/T="tuple"\/T="list" then Q (.pu<|.bl false)else False
  | .bl _=>if T="int"\/T="bool" then Q (.pu<|.bl true)else False
  | .tup _=>if T="tuple" then Q (.pu<|.bl true)else if T="int"\/T="list" then Q (.pu<|.bl false)else False
  | .lst _=>if T="list" then Q (.pu<|.bl true)else if T="int"\/T="tuple" then Q (.pu<|.bl false)else False
  | _=>False)
 | _=>False
theorem c50:uT X (.builtin "isinstance") cQ4:=by
 intro A H ds vs Q0 Q hA r g k;obtain⟨d,e,v,w,rfl,rfl,rv,rw',g⟩:=cQ2 g r;have no: ∀{c:Bool},Q0 (.pu<|.bl c)->Q (.bl c) H:=λz=>k _ _ H z (.refl _) lX
 cases e with
 | ty T=>
  rw[rep_ty rw'];cases d with
  | int i=>
   rw[bS rv]
   by_cases h1:T="int"
   .simp only[h1,eA]at g;exact⟨_,uW,_,T,true,rfl,no g,.inl ⟨i,rfl,.inl ⟨h1,rfl⟩⟩⟩
   .by_cases h2:T="bool"\/T="tuple"\/T="list"
    .simp only[h1,h2,eA,fW]at g;exact⟨_,uW,_,T,false,rfl,no g,.inl ⟨i,rfl,.inr ⟨h2,rfl⟩⟩⟩
    .simp only[h1,h2,fW]at g
  | bl c=>
   rw[wE rv]
   by_cases h1:T="int"\/T="bool"
   .simp only[h1,eA]at g;exact⟨_,uW,_,T,true,rfl,no g,.inr<|.inl ⟨c,rfl,h1,rfl⟩⟩
   .simp only[h1,fW]at g
  | tup l=>
   obtain⟨a,vs,rfl,c,rs⟩:=rv.one
   by_cases h1:T="tuple"
   .simp only[h1,eA]at g;exact⟨_,uW,_,T,true,rfl,no g,.inr<|.inr<|.inl ⟨a,vs,rfl,c,.inl ⟨h1,rfl⟩⟩⟩
   .by_cases h2:T="int"\/T="list"
    .simp only[h1,h2,eA,fW]at g;exact⟨_,uW,_,T,false,rfl,no g,.inr<|.inr<|.inl ⟨a,vs,rfl,c,.inr ⟨h2,rfl⟩⟩⟩
    .simp only[h1,h2,fW]at g
  | lst l=>
   obtain⟨a,vs,rfl,c,rs⟩:=rv.one
   by_cases h1:T="list"
   .simp only[h1,eA]at g;exact⟨_,uW,_,T,true,rfl,no g,.inr<|.inr<|.inr ⟨a,vs,rfl,SqL.of c,.inl ⟨h1,rfl⟩⟩⟩
   .by_cases h2:T="int"\/T="tuple"
    .simp only[h1,h2,eA,fW]at g;exact⟨_,uW,_,T,false,rfl,no g,.inr<|.inr<|.inr ⟨a,vs,rfl,SqL.of c,.inr ⟨h2,rfl⟩⟩⟩
    .simp only[h1,h2,fW]at g
  | _=>exact(show False from g).elim
 | _=>exact(show False from g).elim
theorem cD3 {T:String}(hg:Gl X x)(hm:X.mg x=none)(hv:bootBuiltins x=some (.type T))(hn:⇑(x≠"__name__"))(hd:⇑(x∪0)):PU X (.Name x p) (uC<|.ty T):=
 bD8 (dR5 (v:= .ty T) hg hm hv rfl hn hd) λA H=>by simp only[Rep]
nonrec def init (N:List Str)(ds:List D):Ev:=ds.map (λd=>some (.pu d))++replicate (N.length-ds.length) none
theorem aB8 {ds:List D}{z:B}(h:(init N ds)[i]? =some (some z)): ∃d,z= .pu d/\ds[i]? =some d:=by
 unfold init at h
 by_cases hi:i<ds.length
 .rw[nQ<|by simpa using hi,bJ]at h
  cases e:ds[i]? with
  | none=>rw[e]at h;cases h
  | some d=>rw[e]at h;cases h;exact⟨d,rfl,rfl⟩
 .rw[lK<|by simpa using hi,zW]at h
  split at h<;>cases h
theorem c51 {ds:List D}{vs:List V}(hA: ∀a,A a->H a≠none)(r:cE K A H ds vs):EOk K ⟨H,A⟩ (init N ds) (L2.start N vs) H:=by
 have own: ∀a,¬Own (init N ds) (L2.start N vs) a:=λa ⟨i,l,h1,_⟩=>by
  obtain⟨d,e,_⟩:=aB8 h1;cases e
 refine⟨?_,λi d h=> ?_,λi l h=> ?_,λi j l l' a h=> ?_,λi l h=> ?_,.refl _,hA⟩
 .unfold init L2.start;simp[r.length]
 .obtain⟨d',e,e2⟩:=aB8 h;cases e;obtain⟨v,h1,h2⟩:=r.get e2;refine⟨v,?_,h2.mono<|.sub (.refl _) λa z=>z.elim id λz=>absurd z (own a)⟩
  unfold L2.start;have hv:i<vs.length:=(jD.mp h1).1;rw[nQ<|by simpa using hv,bJ,h1]
  rfl
 .obtain⟨d',e,_⟩:=aB8 h;cases e
 .obtain⟨d',e,_⟩:=aB8 h;cases e
 .obtain⟨d',e,_⟩:=aB8 h;cases e
theorem c52 {K:PySem.W.Frag}{ps:List Str}(F:Fun K x qual st f fd)(S:aX N ps (aF st))
  (len: ∀ds Q,φ ds Q->ds.length=ps.length)
  (body: ∀(cdv:Value) (A:Around) (outer:List Env) (s:Shared) (H:Hp) (E:XK),gX k (A.deeper<|envOfC qual (aF st) s.heap.objs.size f cdv)->
   ∃t,sR (uS CX0 P w K mg base N qual (aF st) f cdv A outer s H E).nox (eF st) t/\ ∀ds Q,φ ds Q->t {Q with} (init N ds)) :
  sQ P w K mg base CX0 (k+1) f fd ps (spP K φ):=by
 refine F.ok S (λvs H Q E h=> ?_) (λcdv A outer s H vs Q E hr h=> ?_)
 .obtain⟨A,ds,Q0,_,r,h,_⟩:=h;rw[<-r.length];exact len ds Q0 h
 .obtain⟨A',ds,Q0,hA,r,h,q⟩:=h;obtain⟨t,ht,hq⟩:=body cdv A outer s H E hr;refine⟨_,ht,⟨H,A'⟩,init N ds,_,c51 hA r,hq ds Q0 h,⟨λρ σ H' z I=> ?_,λb v H' z s r=>q b v H' z s r,λ_ _ _ z=>z.elim,λ_ _ _ z=>z.elim⟩⟩
  exact q _ _ H' z I.ext (show Rep _ _ _ _ _ by simp only[Rep])
end
structure Fn (P:Program)(w:World)(K:PySem.W.Frag)(mg:Str->Option Value)(base:Heap)(x:Str)(ps:List Str)(k:Nat)(φ:Φ):Prop where
 ex: ∃f fd,sQ P w K mg base CX0 k f fd ps (spP K φ)/\Binds K fd ps []/\keepIn K (.ref f)=true/\mg x=some (.ref f)
section
variable {X:Cx}{e:Expr}{es:List Expr}{pos:Pos}
theorem yM {ps:List Str}{t:UA}(F:Fn X.prog X.w X.K X.mg X.base x ps k φ)(hr:gX k' X.A)(hk:k<=k')(hg:Gl X x)(ha:PUA X (e::es) t)(hdb:⇑(x∪0))
  (he:↥(starEach (e::es) X.env=(false,eval e X.env)::starEach es X.env)) (hpl:↥((backTo pos<|starEach es X.env).any (·.1)=false)):PU X (.Call (.Name x p) (e::es) [] pos) (aQ φ t):=by
 obtain⟨f,fd,G,b,kp,m⟩:=F.ex;exact dT9 (E:=E0) G (hr.mono hk) hg m kp b (λ_ _ _ _ _ _ _ h=>h.elim) ha hdb he hpl
theorem dE1 {ps:List Str}(F:Fn X.prog X.w X.K X.mg X.base x ps k φ)(hr:gX k' X.A)(hk:k<=k')(hg:Gl X x)(hdb:⇑(x∪0)):PU X (.Call (.Name x p) [] [] pos) (aQ φ aN):=by
 obtain⟨f,fd,G,b,kp,m⟩:=F.ex;exact dD3 (E:=E0) G (hr.mono hk) hg m kp b (λ_ _ _ _ _ _ _ h=>h.elim) hdb
theorem il (hn:X.N.length=n)(h:i<n): ∀pins σ H s,Inv X pins σ H s->i<σ.length:=λ_ _ _ _ I=>by rw[I.len,hn];exact h
theorem il2 (hn:X.N.length=n)(h:i<n)(h':j<n): ∀pins σ H s,Inv X pins σ H s->i<σ.length/\j<σ.length:=λ_ _ _ _ I=>by rw[I.len,hn];exact⟨h,h'⟩
end
theorem Fn.mk' {ps:List Str}(F:Fun K x qual st f fd)(m:mg x=some (.ref f))(b:Binds K fd ps [])(S:aX N ps (aF st))
  (len: ∀ds Q,φ ds Q->ds.length=ps.length) {t:US}
  (der: ∀(cdv:Value) (A:Around) (outer:List Env) (s:Shared) (H:Hp) (E:XK),gX k (A.deeper<|envOfC qual (aF st) s.heap.objs.size f cdv)->sR (uS CX0 P w K mg base N qual (aF st) f cdv A outer s H E).nox (eF st) t)
  (rd: ∀ds Q,φ ds Q->t {Q with} (init N ds)):Fn<$>x ps (k+1) φ:=
 ⟨f,fd,c52 F S len λcdv A outer s H E hr=>⟨t,der cdv A outer s H E hr,rd⟩,b,F.kp,m⟩
def bW7:Φ:=λds Q=> ∃ns:List Int,ds=[.rol<|ns.map .int]/\ns.length<=63/\Q (.pu<|.bl true)
theorem bW8 {K:PySem.W.Frag}{A:AS}{H:Hp}: ∀ns:List Int,cE K A H (ns.map .int) (ns.map V.int)
 | []=> .nil
 | n::ns=> .cons (by simp only[Rep]) (bW8 ns)
theorem law_sp {H:Hp}{ns:List Int}(hl:ns.length<=63)(hS:SqL K H a (ns.map V.int)):spP K bW7 [.ref a] H (λv _=>v= .bl true) (λ_ _ _=>False):=by
 refine⟨λ_=>False,[.rol<|ns.map .int],λb=>b= .pu (.bl true),λ_ z=>z.elim,.cons ?_ .nil,⟨ns,rfl,hl,rfl⟩,λb v H' q s r=> ?_⟩
 .simp only[Rep];exact⟨a,_,rfl,hS.imp (λz=>⟨λz=>z,z⟩) id,bW8 ns⟩
 .subst q;have r':Rep K (λ_=>False) H' (.bl true) v:=r
  exact wE r'
theorem walkM {l:PySem.W.OpenLaw}{XP:(Str->Option Value)->Heap->Prop}{d:DefRec}{K:Params->PySem.W.Frag}(hn:l.most=some 63)(hdf:d.params.defaults=[])(hr:gX k callerA)
  (hY: ∀(w:World) (h:Heap),YP w h->(K w.params).In h)
  (F: ∀(w:World) (mg:Str->Option Value) (fa:Addr) (h:Heap),(K w.params).In h->h.Ns mainGlobals mg->mg d.name=some (.ref fa)->
   ∃fd:FuncData,(∀(s:Shared) (u:Value),BindsTo s fd ⟨[u],[]⟩ [(x,u)])/\ ∀base:Heap,(K w.params).In base->base.Ns mainGlobals mg->sQ l.prog w (K w.params) mg base CX0 k fa fd [x] (spP (K w.params) bW7)) :
  PySem.W.WalkO q loose XP YP l.row.toRowW d [] (λf vs=>PySem.call f vs):=
 L2.walk_of (n:=63) (k:=k) (x:=x) (CX:=λ_=>CX0) (sp:=λw=>spP (K w.params) bW7) hn ac hdf hr hY F (λ_ _ a ns hl _ hS=>law_sp hl hS) λ_ _ _ _ _ z=>z
end M
section
namespace L2
nonrec def bT (X:Cx)(N:List Str)(scope:Scope)(cl:List (Str×Addr))(C:Addr)(s:Shared)(H:Hp)(fp:List Addr)(pins:List (Addr×Obj)):Cx where
 prog:=X.prog
 w:=X.w
 K:=X.K
 mg:=X.mg
 base:=X.base
 A:=X.A
 N:=N
 s₀:=s
 H₀:=H
 env:=compEnvC scope cl C X.env
 outer:=X.stack
 stack:=X.stack
 ex:=fp
 fn:=λx=>scope.names.lookup x==some .cell
 calm:=X.calm
 pn:=X.pn++pins
 xe:=λ_ _=>False
theorem a36 {env:Env}: ∀(names:List (Str×NameKind)),(∀y∈names,y.2= .free-> ∃c,env.cells.lookup y.1=some c)-> ∀cs:List (Str×Addr),(∀x c,cs.lookup x=some c->env.cells.lookup x=some c)->
  ∃cl,(forIn names cs fun(x:Str×NameKind) r=>(do if(x.2==NameKind.free)=true then do let c<-cellOf env x.1;pure (ForInStep.yield ((x.1,c)::r))else pure (ForInStep.yield r)):Sem (List<|Str×Addr))=pure cl/\
   (∀x c,cl.lookup x=some c->env.cells.lookup x=some c)/\(∀x c,cs.lookup x=some c-> ∃c',cl.lookup x=some c')/\ ∀y∈names,y.2= .free-> ∃c,cl.lookup y.1=some c
 | [],_,cs,hcs=>⟨cs,rfl,hcs,λx c h=>⟨c,h⟩,λy hy=>by simp at hy⟩
 | (n,k)::r,h,cs,hcs=>by
  have hr: ∀y∈r,y.2= .free-> ∃c,env.cells.lookup y.1=some c:=λy hy=>h y (fK _ hy)
  by_cases hk:k= .free
  .subst hk;obtain⟨c,hc⟩:=h (n,.free) jF rfl;have e1:cellOf env n=pure c:=by unfold cellOf;rw[hc]
   have hcs': ∀x c',List.lookup x ((n,c)::cs)=some c'->env.cells.lookup x=some c':=λx c' q=>by
    rw[cZ]at q;split at q
    .rename_i e
     have:x=n:=by exists e
     subst this;cases q;exact hc
    .exact hcs x c' q
   obtain⟨cl,h1,h2,h3,h4⟩:=a36 r hr ((n,c)::cs) hcs';have hn: ∃c',cl.lookup n=some c':=h3 n c (by rw[cZ];simp)
   refine⟨cl,?_,h2,λx c' q=> ?_,λy hy hf=> ?_⟩
   .rw[a16];show(do let c<-cellOf env n;pure (ForInStep.yield ((n,c)::cs))) >>= _=_;rw[e1];exact h1
   .by_cases z:x=n
    .subst z;exact hn
    .refine h3 x c' ?_
     rw[cZ];have:(x==n)=false:=by exists z
     rw[this];exact q
   .rcases aZ.mp hy with rfl|hy
    .exact hn
    .exact h4 y hy hf
  .obtain⟨cl,h1,h2,h3,h4⟩:=a36 r hr cs hcs;refine⟨cl,?_,h2,h3,λy hy hf=> ?_⟩
   .rw[a16];have:(k==NameKind.free)=false:=by exists hk
    show(if(k==NameKind.free)=true then _ else _) >>= _=_
    rw[this];exact h1
   .rcases aZ.mp hy with rfl|hy
    .exact absurd hf hk
    .exact h4 y hy hf
structure eK (env:Env)(XN N:List Str)(cap:List (Option Nat))(scope:Scope):Prop where
 kind:scope.kind= .function
 owns: ∀y∈scope.names,y.2= .cell->scope.names.lookup y.1=some .cell
 freeK: ∀y∈scope.names,y.2= .free->scope.names.lookup y.1=some .free
 names: ∀y∈scope.names,y.2= .local->scope.names.lookup y.1=some .local
 frees: ∀y∈scope.names,y.2= .free->env.kindOf y.1=some .cell\/env.kindOf y.1=some .free
 caps: ∀(i j:Nat) (x:Str),N[i]? =some x->cap[i]? =some (some j)->XN[j]? =some x/\(x,NameKind.free)∈scope.names/\scope.names.lookup x=some .free
 len:cap.length=N.length
nonrec def wF (σ:L2.St)(cap:List (Option Nat))(last:Nat)(D:Addr):L2.St:=(cap.map λc=>c.bind λj=>(σ[j]?).join).set last (some<|.ref D)
theorem aB9 {env:Env}{x:Str}{k:NameKind}: ∀{names:List (Str×NameKind)},names.lookup x=some k->
  (names.map fun(n,k)=>if(k==NameKind.free&&env.scope.kind== .function&&env.kindOf n==some .cell)then(n,NameKind.cell)else(n,k)).lookup x=
   some (if(k==NameKind.free&&env.scope.kind== .function&&env.kindOf x==some .cell)then NameKind.cell else k)
 | [],h=>by simp at h
 | (n,k')::r,h=>by
  rw[bY];rw[cZ]at h;right
  by_cases e:(x==n)=true
  .have e':x=n:=by exists e
   subst e';rw[e]at h;cases h;split<;>simp
  .have e2:(x==n)=false:=by exists e
   rw[e2]at h;have ih:=aB9 (env:=env) h;split
   .rw[cZ,e2];exact ih
   .rw[cZ,e2];exact ih
theorem oY {env:Env}{x:Str}{k:NameKind}: ∀{names:List (Str×NameKind)},(names.map fun(n,k)=>if(k==NameKind.free&&env.scope.kind== .function&&env.kindOf n==some .cell)then(n,NameKind.cell)else(n,k)).lookup x=some k->
  ∃k',names.lookup x=some k'/\(x,k')∈names/\(k=k'\/k'= .free)
 | [],h=>by simp at h
 | (n,k')::r,h=>by
  rw[bY]at h;dsimp only at h
  by_cases e:(x==n)=true
  .have e':x=n:=by exists e
   subst e';refine⟨k',by rw[cZ,e],jF,?_⟩
   split at h
   .rename_i c
    refine .inr ?_
    simp only[eG,fV]at c;exact c.1.1
   .rw[cZ,e]at h;cases h;exact .inl rfl
  .have e2:(x==n)=false:=by exists e
   have h':(r.map fun(n,k)=>if(k==NameKind.free&&env.scope.kind== .function&&env.kindOf n==some .cell)then(n,NameKind.cell)else(n,k)).lookup x=some k:=by
    split at h
    .rw[cZ,e2]at h;exact h
    .rw[cZ,e2]at h;exact h
   obtain⟨k2,h1,h2,h3⟩:=oY h';exact⟨k2,by rw[cZ,e2];exact h1,fK _ h2,h3⟩
theorem b40 {x:Str}{c:Addr}: ∀(names:List (Str×NameKind)) (h:Heap) (acc:List (Str×Addr)),(cellsFrom h.objs.size names acc).lookup x=some c->
  acc.lookup x=some c\/(h.objs.size<=c/\(x,NameKind.cell)∈names/\(pushCells h names).IsCell c none)
 | [],_,_,e=> .inl e
 | (y,k)::r,h,acc,e=>by
  unfold cellsFrom at e;unfold pushCells
  by_cases hk:(k==NameKind.cell)=true
  .rw[a9 hk]at e⊢;have hk':k= .cell:=by exists hk
   have sz:(h.push {cls:= .type "cell",data:= .cell none}).objs.size=h.objs.size+1:=jJ ..;rw[<-sz]at e;rcases b40 r _ _ e with q| ⟨q1,q2,q3⟩
   .rw[cZ]at q;split at q
    .rename_i e1
     have:x=y:=by exists e1
     subst this;cases q;exact .inr ⟨aH _,by rw[hk'];exact jF,⟨_,aR5 _ _ _ _<|cC _ rfl,rfl⟩⟩
    .exact .inl q
   .exact .inr ⟨ad,fK _ q2,q3⟩
  .rw[a7 hk]at e⊢;rcases b40 r h acc e with q| ⟨q1,q2,q3⟩
   .exact .inl q
   .exact .inr ⟨q1,fK _ q2,q3⟩
theorem b41: ∀(names:List (Str×NameKind)) (n:Nat) (acc:List (Str×Addr)),(∀x c,acc.lookup x=some c->c<n)->(∀x y c,acc.lookup x=some c->acc.lookup y=some c->x=y)->
  ∀x y c,(cellsFrom n names acc).lookup x=some c->(cellsFrom n names acc).lookup y=some c->x=y
 | [],_,_,_,hi=>hi
 | (z,k)::r,n,acc,hl,hi=>by
  unfold cellsFrom
  by_cases hk:(k==NameKind.cell)=true
  .rw[a9 hk];refine b41 r (n+1) _ (λx c e=> ?_) (λx y c e1 e2=> ?_)
   .rw[cZ]at e;split at e
    .cases e;exact qK n
    .exact lN (hl x c e)
   .rw[cZ]at e1 e2;split at e1
    .rename_i q1
     cases e1;split at e2
     .rename_i q2
      exact(by simpa using q1:x=z).trans (by simpa using q2:y=z).symm
     .exact absurd (hl y _ e2) (dJ _)
    .split at e2
     .cases e2;exact absurd (hl x _ e1) (dJ _)
     .exact hi x y c e1 e2
  .rw[a7 hk];exact b41 r n acc hl hi
theorem tW {x:Str}{c:Addr}: ∀(names:List (Str×NameKind)) (n:Nat) (acc:List (Str×Addr)),((x,NameKind.cell)∈names\/ ∀c,acc.lookup x=some c->n<=c)->(cellsFrom n names acc).lookup x=some c->n<=c
 | [],_,_,h,e=>by
  rcases h with h|h
  .simp at h
  .exact h c e
 | (z,k)::r,n,acc,h,e=>by
  unfold cellsFrom at e
  by_cases hk:(k==NameKind.cell)=true
  .rw[a9 hk]at e;have hk':k= .cell:=by exists hk
   rcases h with h|h
   .rcases aZ.mp h with h|h
    .cases h;have:n<=c:=by
      by_cases q: ∃c',(cellsFrom (n+1) r ((x,n)::acc)).lookup x=some c'/\(x,NameKind.cell)∈r
      .obtain⟨c',e',m⟩:=q;have:=tW (c:=c) r (n+1) _ (.inl m) e
       lia
      .have nm:(x,NameKind.cell) ∉ r:=λm=>q ⟨c,e,m⟩
       have:=cells_keep r (n+1) ((x,n)::acc) nm;rw[this,cZ]at e;simp at e;exact le_of_eq e
     exact this
    .have:=tW (c:=c) r (n+1) _ (.inl h) e
     lia
   .by_cases q:(x,NameKind.cell)∈r
    .have:=tW (c:=c) r (n+1) _ (.inl q) e
     lia
    .have:=cells_keep r (n+1) ((z,n)::acc) q;rw[this,cZ]at e;split at e
     .cases e;exact aH _
     .exact h c e
  .rw[a7 hk]at e;refine tW (c:=c) r n acc (h.imp (λm=> ?_) id) e
   rcases aZ.mp m with m|m
   .cases m;exact absurd ac hk
   .exact m
where
 cells_keep {x:Str}: ∀(names:List (Str×NameKind)) (n:Nat) (acc:List (Str×Addr)),(x,NameKind.cell) ∉ names->(cellsFrom n names acc).lookup x=acc.lookup x
 | [],_,_,_=>rfl
 | (z,k)::r,n,acc,h=>by
  unfold cellsFrom
  by_cases hk:(k==NameKind.cell)=true
  .rw[a9 hk];have hk':k= .cell:=by exists hk
   rw[cells_keep r (n+1) _ λm=>h (fK _ m),cZ]
   split
   .rename_i e
    have:x=z:=by exists e
    subst this;exact absurd (by rw[hk'];exact jF) h
   .rfl
  .rw[a7 hk];exact cells_keep r n acc λm=>h (fK _ m)
theorem cells_keep (names:List (Str×NameKind))(n:Nat)(acc:List (Str×Addr))(h:(x,NameKind.cell) ∉ names):(cellsFrom n names acc).lookup x=acc.lookup x:=tW.cells_keep names n acc h
theorem c53 {M:Model}{globals:Addr}{env0:Env}{Q:Env->Shared->Prop}
  (hQ:Q {scope:=scope,locals:=s.heap.objs.size,globals:=globals,cells:=cellsFrom (s.heap.objs.size+1) scope.names cl,qual:=qual,func:=none,code:=env0.code,frame:=env0.frame,builtins:=env0.builtins} {s with heap:=pushCells (s.heap.push {cls:= .type "dict",data:= .dict #[]}) scope.names}) :
  wpAny M A (newFunctionEnv scope globals cl [] qual none .none<|some env0) Q E s:=by
 simp only[newFunctionEnv,Option.isSome_some,eA];refine aA (wpAny_alloc ?_);refine aA (wpAny_layCells _ (λname kind cells=>by cases hkc:kind==NameKind.cell<;>simp[hkc]) _ _ _ _ ?_)
 rw[show({s with heap:=s.heap.push {cls:= .type "dict",data:= .dict #[]}}:Shared).heap.objs.size=s.heap.objs.size+1 from jJ ..]
 rw[forIn_nil];exact aA (aL<|aL hQ)
section
variable {X:Cx}{pins:List (Addr×Obj)}{σ:L2.St}{H:Hp}{s:Shared}{N:List Str}{cap:List (Option Nat)}{scope:Scope}
theorem cD4 {D:Addr}{cl0:List (Str×Addr)}{h1:Heap}{m0:Str->Option Value}(S:eK X.env X.N N cap scope)(I:Inv X pins σ H s)(hf: ∀b∈fp,aR9 X pins H b)(hfs: ∀b∈fp,b<s.heap.objs.size)
  (hcl: ∀x c,cl0.lookup x=some c->X.env.cells.lookup x=some c) (hcl2: ∀y∈scope.names,y.2= .free-> ∃c,cl0.lookup y.1=some c) (hN: ∀x,N[last]? =some x->scope.names.lookup x=none)
  (hns:h1.Ns s.heap.objs.size m0) (hk: ∀b o,s.heap.get? b=some o->h1.get? b=some o)
  (c1: ∀x c,cl.lookup x=some c->cl0.lookup x=some c\/(s.heap.objs.size<c/\h1.IsCell c none)) (c2: ∀x y c,cl.lookup x=some c->cl.lookup y=some c->x=y)
  (c3: ∀x,(x,NameKind.free)∈scope.names->cl.lookup x=cl0.lookup x) (c4: ∀x,scope.names.lookup x=some .cell-> ∃c,cl.lookup x=some c) (c5: ∀x c,scope.names.lookup x=some .cell->cl.lookup x=some c->s.heap.objs.size<=c) :
  Inv (bT X N scope cl s.heap.objs.size s H fp pins) [] (wF σ cap last D) H {s with heap:=h1,toks:=tk}:=by
 have sz:X.base.objs.size<=s.heap.objs.size:=aJ I.ok.bsz I.sz;have kindF: ∀x,(bT X N scope cl s.heap.objs.size s H fp pins).env.kindOf x=some .cell\/(bT X N scope cl s.heap.objs.size s H fp pins).env.kindOf x=some .free->(x,NameKind.free)∈scope.names\/scope.names.lookup x=some .cell:=λx h=>by
  have: ∃k,(k= .cell\/k= .free)/\(relabel scope X.env).names.lookup x=some k:=by
   rcases h with h|h
   .exact⟨_,.inl rfl,h⟩
   .exact⟨_,.inr rfl,h⟩
  obtain⟨k,hk,h⟩:=this;obtain⟨k',h1,h2,h3⟩:=oY h;rcases h3 with rfl|rfl
  .rcases hk with rfl|rfl
   .exact .inr (S.owns _ h2 rfl)
   .exact .inl h2
  .exact .inl h2
 have cne: ∀x c,cl.lookup x=some c-> ∀b∈fp,c≠b:=λx c h b hb=>by
  rcases c1 x c h with q| ⟨q,_⟩
  .exact(hf b hb).2.2.2.2.1 x c (hcl x c q)
  .exact λz=>by subst z;exact absurd (Nat.lt_trans q<|hfs c hb) (dJ _)
 refine⟨⟨I.ok.mod,S.kind,I.ok.glob,I.ok.blt,aH _,c2,λx h=> ?_,λx c h e=> ?_,I.ok.hd,I.ok.frames,.inl rfl,λb hb=> ?_,I.bs,sz,λb o e hb=> ?_,λb hb=> ?_,I.stack,I.stkFree⟩,
  rfl,I.bare,Un.kept hk,⟨m0,hns,λi x v e1 e2 e3=> ?_⟩,λx c h=> ?_,I.hok.fresh<|aH _,λx c h=> ?_,λp hp=> ?_,I.hok.kept hk,?_⟩
 .rcases kindF x h with q|q
  .obtain⟨c,e⟩:=hcl2 _ q rfl;exact⟨c,(c3 x q).trans e⟩
  .exact c4 x q
 .exact c5 x c (by simpa using(show(scope.names.lookup x==some NameKind.cell)=true from h)) e
 .exact⟨bK<|hfs b hb,λx c h=>cne x c h b hb⟩
 .rcases(hf b hb).2.2.2.1 with z|z
  .exact I.ok.noex b o e z
  .have:=aW e;exact absurd (b9 this<|aJ I.ok.bsz z) (dJ _)
 .intro z;rcases aZ.mp (I.stkSub b z)with z|z
  .exact(hf b hb).2.1 z
  .exact(hf b hb).2.2.1 z
 .have e1':N[i]? =some x:=e1;unfold wF at e2
  by_cases hl:last=i
  .subst hl;have z:=hN x e1';rcases e3 with e3|e3|e3
   .obtain⟨k',h1,_⟩:=oY (show(relabel scope X.env).names.lookup x=_ from e3)
    rw[z]at h1;cases h1
   .obtain⟨k',h1,_⟩:=oY (show(relabel scope X.env).names.lookup x=_ from e3)
    rw[z]at h1;cases h1
   .obtain⟨k',h1,_⟩:=oY (show(relabel scope X.env).names.lookup x=_ from e3)
    rw[z]at h1;cases h1
  .rw[M.get_set_ne hl,bJ]at e2;cases e4:cap[i]? with
   | none=>rw[e4]at e2;cases e2
   | some c=>
    rw[e4]at e2;cases c with
    | none=>cases e2
    | some j=>
     have e2':(σ[j]?).join=some v:=by exists e2
     have e5:σ[j]? =some (some v):=by
      cases q:σ[j]? with
      | none=>rw[q]at e2';cases e2'
      | some w=>rw[q]at e2';cases w with
       | none=>cases e2'
       | some w'=>cases e2';rfl
     obtain⟨a1,a2,a3⟩:=S.caps i j x e1' e4;have kx:=S.frees _ a2 rfl;obtain⟨m,hn,hl'⟩:=I.loc;have vis:Vis X.env.scope x:=by
      rcases kx with kx|kx
      .exact .inr (.inl kx)
      .exact .inr (.inr kx)
     obtain⟨u,r,l⟩:=hl' j x v a1 e5 vis;refine⟨u,r,.inr ⟨?_,?_⟩⟩
     .have q:=aB9 (env:=X.env) a3;show(relabel scope X.env).names.lookup x=_\/(relabel scope X.env).names.lookup x=_;unfold relabel;right;rw[q];split
      .exact .inl rfl
      .exact .inr rfl
     .rcases l with⟨l,_⟩| ⟨_,c,hc,hcell⟩
      .rcases kx with kx|kx<;>·rw[kx]at l;cases l
      .obtain⟨c',hc'⟩:=hcl2 _ a2 rfl;have:=hcl x c' hc';rw[hc]at this;cases this;obtain⟨o,ho,hd⟩:=hcell;exact⟨c,(c3 x a2).trans hc',o,hk _ _ ho,hd⟩
 .rcases c1 x c h with q| ⟨_,q⟩
  .obtain⟨v,o,ho,hd⟩:=I.cell x c (hcl x c q);exact⟨v,o,hk _ _ ho,hd⟩
  .exact⟨_,q⟩
 .rcases c1 x c h with q| ⟨q,_⟩
  .exact I.freeC x c (hcl x c q)
  .exact I.hok.fresh (jK q)
 .have hp':p∈X.pn++pins:=by
   have:p∈(X.pn++pins)++[]:=hp
   exists this
  obtain⟨a1,a2,a3,a4,a5⟩:=I.pin p hp';refine⟨hk _ _ a1,a2,bK<|aW a1,λz=> ?_,a5⟩
  rcases aZ.mp (I.stkSub p.1 z)with z|z
  .exact a3 z
  .exact a4 z
 .unfold wF;rw[eH,aG];exact S.len
theorem bW9 {σ':L2.St}{H':Hp}{h2:Heap}{pins':List (Addr×Obj)}(I:Inv X pins σ H s)(hf: ∀b∈fp,aR9 X pins H b)(hC:s.heap.objs.size<=C)
  (I':Inv (bT X N scope cl C s H fp pins) pins' σ' H' s') (hs:SameBut C s'.heap h2):Inv X pins σ H' {s' with heap:=h2}:=by
 have nC: ∀b o,s.heap.get? b=some o->b≠C:=λb o e z=>by
  subst z;exact absurd (b9 (aW e) hC) (dJ _)
 have get: ∀b,b≠C->h2.get? b=s'.heap.get? b:=λb hb=>hs.2 b hb
 have U:=I'.base;have u:Un (frs X.stack) fp H H' s.heap h2:=by
  refine⟨λb o e n h1 hx=> ?_,λb o e n h1 hx=> ?_,U.free,λb o e hx=> ?_,U.tups,U.frzs,U.tbls⟩
  .rw[get b<|nC b o e];exact U.keep b o e n h1 hx
  .rw[get b<|nC b o e];exact U.slot b o e n h1 hx
  .rw[get b<|nC b o e];exact U.there b o e hx
 have fC:H' C=none:=I'.free;have hok:HOk X.prog X.w H' h2:=λa o e=>by
  have na:a≠C:=λz=>by subst z;rw[fC]at e;cases e
  refine(I'.hok a o e).stay (λb u hb q=> ?_) (λ_ q=>q) λ_ _ q=>q
  have nb:b≠C:=by
   rcases hb with rfl|hb
   .exact na
   .exact λz=>by subst z;rw[fC]at hb;cases hb
  rw[get b nb];exact q
 obtain⟨hh,gg,dd,tt,oo⟩:=s';have eo:oo=s.os:=I'.os;subst eo;have fin:=I.call (h':=h2) (g':=gg) (d':=dd) (t':=tt) (ch:=fp) u hok I'.bare λb hb=>⟨(hf b hb).2.2.2.1,(hf b hb).2.1,(hf b hb).2.2.2.2.1,(hf b hb).2.2.2.2.2⟩
 exact fin
end
def a37 (e:Expr)(d:Nat)(target:Expr)(p0:Pos)(ifs:List Expr)(em:Sem Unit)(it acc:Value)(env:Env):Sem Fin:=do
 standAt p0
 match<-pyNext it with
 | none=>pure (.done .next)
 | some v=>
  letOwnedTupleGo target it v
  assign target env v
  let mut ok:=true
  for c in ifs do
   if ok then ok<-isTrue c env (eval c env)
  if ok then em
  again (.compLoop e d it acc env)
theorem rZ {prog:Program}{w:World}{A:Around}{R:Result->Shared->Prop}{s:Shared}{elt target:Expr}{gens:List Comprehension}{ifs:List Expr}{scope:Scope}{pos p0:Pos}{d:Nat}{it acc:Value}{env:Env}{em:Sem Unit}(I:Nat->Shared->Prop)
  (hturn:compTurn (.ListComp elt gens scope pos) d it acc env=a37 (.ListComp elt gens scope pos) d target p0 ifs em it acc env)
  (turn: ∀n s,I n s->wpAny (model prog w) A (pyNext it) (λr s₁=>match r with
   | none=>R (.ok .next) s₁
   | some v=>wpAny (model prog w) A (letOwnedTupleGo target it v) (λ_ s₂=>wpAny (model prog w) A (assign target env v) (λ_ s₂=>
     wpAny (model prog w) A (forIn ifs true λc r=>if r=true then do let ok<-isTrue c env (eval c env);pure (ForInStep.yield ok)else pure (ForInStep.yield r)) (λok s₃=>
      if ok=true then wpAny (model prog w) A em (λ_ s₅=> ∃m,m<n/\I m s₅) (notedBy (model prog w) A env λe s'=>R (.error e) s') s₃
      else ∃m,m<n/\I m s₃) (notedBy (model prog w) A env λe s'=>R (.error e) s') s₂) (notedBy (model prog w) A env λe s'=>R (.error e) s') s₂) (notedBy (model prog w) A env λe s'=>R (.error e) s') s₁) (notedBy (model prog w) A env λe s'=>R (.error e) s') s)
  (n:Nat) (h:I n s):codeAny (model prog w) A (.compLoop (.ListComp elt gens scope pos) d it acc env) R s:=by
 refine codeAny_loop rfl I (λn s hI=> ?_) n h
 show wpAny _ A ((compTurn (.ListComp elt gens scope pos) d it acc env).onRaise (λx=>do noteFrame x env;theTreesLotGoes x)) _ _ s
 refine wpAny_noted ?_
 rw[hturn];unfold a37;refine aA (kP<|aA<|bD (turn n s hI) (λr s₁ h₁=> ?_) λ_ _ h'=>h')
 cases r with
 | none=>exact aL h₁
 | some v=>
  refine aA (bD h₁ (λ_ s₂ h₂=>aA (bD h₂ (λ_ s₂ h₂=>aA (bD h₂ (λok s₃ h₃=> ?_) λ_ _ h'=>h')) λ_ _ h'=>h')) λ_ _ h'=>h')
  cases ok with
  | false=>exact aL ⟨rfl,h₃⟩
  | true=>exact aA (bD h₃ (λ_ s₅ h₅=>aL ⟨rfl,h₅⟩) λ_ _ h'=>h')
def PTs (X:Cx)(ifs:List Expr)(t:TT):Prop:=
 ∀(pins:List (Addr×Obj)) (s:Shared) (σ:L2.St) (H:Hp) (Q:Bool->Hp->Prop),Inv X pins σ H s->t σ H Q->
  X∩(forIn ifs true λc r=>if r=true then do let ok<-isTrue c X.env (eval c X.env);pure (ForInStep.yield ok)else pure (ForInStep.yield r)) (TP X pins σ Q) X.xe s
theorem dU5 {X:Cx}:PTs X [] (λ_ H Q=>Q true H):=λpins s σ H Q I h=>wpAny_tests_nil ⟨H,I,h⟩
theorem dU6 {X:Cx}{t:TT}(h:PT X c t):PTs X [c] t:=λpins s σ H Q I q=>wpAny_tests_one (h pins s σ H Q I q)
def bG9 (cap:List (Option Nat))(last:Nat)(wi:TI)(g:TG)(tt:TT)(tem:Addr->L2.St->Hp->(L2.St->Hp->Prop)->Prop):TE:=λσ H Q=>wi σ H λJ H1=> ∀D,H1 D=none-> ∃W:Nat->Nat->L2.St->Hp->Prop,(∃m,W 0 m (wF σ cap last D)<|upd H1 D<|.lst [])/\ ∀i m σ' H',W i m σ' H'->
 (J.stop i H'/\Q (.ref D) H')\/(J.go i H'/\ ∃Nx:L2.St->Hp->Prop,(∀σ2 H2,Nx σ2 H2-> ∃m',m'<m/\W (i+1) m' σ2 H2)/\ ∀x H2,J.yld i H' x H2->g x σ' H2 λσ3 H3=>tt σ3 H3 λc H4=>
  if c=true then tem D σ3 H4 Nx else Nx σ3 H4)
def tPut (te:TE)(D:Addr)(σ:L2.St)(H:Hp)(Nx:L2.St->Hp->Prop):Prop:=te σ H λy H5=> ∃ys,H5 D=some (.lst ys)/\ys.length<sizeLine/\Nx σ (upd H5 D<|.lst<|ys++[y])
def e47 (elt:Expr)(acc:Value)(env:Env):Sem Unit:=do let _<-call (.builtin "list.append") [acc,<-eval elt env]
def PEm (X:Cx)(em:Value->Env->Sem Unit)(tem:Addr->L2.St->Hp->(L2.St->Hp->Prop)->Prop):Prop:= ∀(D:Addr) (pins:List (Addr×Obj)) (s:Shared) (σ:L2.St) (H:Hp) (Nx:L2.St->Hp->Prop),Inv X pins σ H s->tem D σ H Nx->X∩(em (.ref D) X.env) (λ_ s'=> ∃σ' H',Inv X pins σ' H' s'/\Nx σ' H') X.xe s
theorem c54 {X:Cx}{te:TE}(he:PE X elt te):PEm X (e47 elt) (tPut te):=by
 intro D pins s σ H Nx I h;refine aA (bD (he pins s σ H _ I h) (λv s1 h1=> ?_) λ_ _ z=>z)
 obtain⟨y,H1,I1,r1,ys,e1,z1,q1⟩:=h1;refine aA (bD (bW1 (X:=X) _ s1 σ H1 (.ref D) [y] (.ref D) [v] (λv H=>v= .non/\Nx σ H) I1 rfl (.cons r1 .nil) ⟨_,ys,y,rfl,rfl,e1,z1,rfl,q1⟩) (λ_ s2 h2=> ?_) λ_ _ z=>z)
 obtain⟨_,H2,I2,_,_,q2⟩:=h2;exact aL ⟨σ,H2,I2,q2⟩
theorem bX0 {X:Cx}{RR:Value->Addr->Result->Shared->Prop}{iS:List Comprehension}{wi:TI}{g:TG}{tt:TT}{tem:Addr->L2.St->Hp->(L2.St->Hp->Prop)->Prop}(hem: ∀it acc env,compTurn (.ListComp elt (⟨tg,iter,ifs,0⟩::iS) scope pos) 0 it acc env=a37 (.ListComp elt (⟨tg,iter,ifs,0⟩::iS) scope pos) 0 tg iter.pos ifs (em acc env) it acc env)(hc:X.calm=true)(hi:PI X tg iter wi)(S:eK X.env X.N N cap scope)
  (hN: ∀x,N[last]? =some x->scope.names.lookup x=none)
  (hg: ∀cl C s H fp pins,PG (bT X N scope cl C s H fp pins) tg g) (ht: ∀cl C s H fp pins,PTs (bT X N scope cl C s H fp pins) ifs tt) (he: ∀cl C s H fp pins,PEm (bT X N scope cl C s H fp pins) em tem)
  {pins:List (Addr×Obj)} {s:Shared} {σ:L2.St} {H:Hp} {Q:VK} {cl:List (Str×Addr)} (I:Inv X pins σ H s) (h:bG9 cap last wi g tt tem σ H Q) (hcl: ∀x c,cl.lookup x=some c->X.env.cells.lookup x=some c) (hcl2: ∀y∈scope.names,y.2= .free-> ∃c,cl.lookup y.1=some c)
  (fin: ∀(D:Addr) (fp:List Addr) (H3:Hp) (s3:Shared) (σ':L2.St) (H':Hp) (s':Shared),Inv X pins σ H3 s3->(∀b∈fp,aR9 X pins H3 b)->Inv (bT X N scope (cellsFrom (s3.heap.objs.size+1) scope.names cl) s3.heap.objs.size s3 H3 fp pins) [] σ' H' s'->Q (.ref D) H'->RR (.ref D) s3.heap.objs.size (.ok .next) s') :
  X∩(eval iter X.env) (λx s₁=>X∩(pyIter x) (λit s₂=>X∩(newList []) (λacc s₃=>
   X∩(newFunctionEnv scope X.env.globals cl [] X.env.qual none .none<|some X.env) (λcenv s₄=>
    codeAny (model X.prog X.w) X.A (.compStart (.ListComp elt (⟨tg,iter,ifs,0⟩::iS) scope pos) 0 it acc {cenv with scope:=relabel scope X.env}) (RR acc cenv.locals) s₄) X.xe s₃) X.xe s₂) X.xe s₁) X.xe s:=by
 refine thn (hi pins s σ H _ I h) λxv s1 h1=>thn h1 λit s2 h2=> ?_
 obtain⟨ita,fp,tn,J,H2,rfl,I2,T,st2,f2,q⟩:=h2;refine jG ?_ (by show 0<=sizeLine;decide)
 have fD:H2 s2.heap.objs.size=none:=I2.hok.fresh (aH _);obtain⟨W,⟨m0,w0⟩,turn⟩:=q s2.heap.objs.size fD;have I3:Inv X pins σ (upd H2 s2.heap.objs.size<|.lst []) {s2 with heap:=s2.heap.push {cls:= .type "list",data:= .seq ([]:List Value).toArray}}:=I2.lnew (t':=s2.toks) .nil (dM _);have fpne: ∀b∈fp,b≠s2.heap.objs.size:=λb hb=>by
  obtain⟨o,ho,_⟩:=T.obj 0 _ st2 b hb;exact bK (aW ho)
 have f3: ∀b∈fp,aR9 X pins (upd H2 s2.heap.objs.size<|.lst []) b:=λb hb=>⟨by rw[cL<|fpne b hb];exact(f2 b hb).1,(f2 b hb).2⟩
 have k23: ∀b o,s2.heap.get? b=some o->(s2.heap.push {cls:= .type "list",data:= .seq ([]:List Value).toArray}).get? b=some o:=λb o e=>aV _ e
 have st3:tn 0 (s2.heap.push {cls:= .type "list",data:= .seq ([]:List Value).toArray}):=T.keep 0 _ _ st2 λb hb o e=>k23 b o e
 have fps: ∀b∈fp,b< (s2.heap.push {cls:= .type "list",data:= .seq ([]:List Value).toArray}).objs.size:=λb hb=>by
  obtain⟨o,ho,_⟩:=T.obj 0 _ st3 b hb;exact aW ho
 generalize hS3:({s2 with heap:=s2.heap.push {cls:= .type "list",data:= .seq ([]:List Value).toArray}}:Shared)=s3 at I3;have hh3:s3.heap=s2.heap.push {cls:= .type "list",data:= .seq ([]:List Value).toArray}:=by rw[<-hS3]
 rw[<-hh3]at st3 fps;refine c53 ?_;have sz3:(s3.heap.push {cls:= .type "dict",data:= .dict #[]}).objs.size=s3.heap.objs.size+1:=jJ ..;have hns₁:(pushCells (s3.heap.push {cls:= .type "dict",data:= .dict #[]}) scope.names).Ns s3.heap.objs.size (λ_=>none):=(Heap.Ns.new s3.heap<|.type "dict").keeps (aR5 _ _)
 have k34: ∀b o,s3.heap.get? b=some o->(pushCells (s3.heap.push {cls:= .type "dict",data:= .dict #[]}) scope.names).get? b=some o:=λb o e=>aR5 _ _ _ _ (aV _ e)
 have I4:=cD4 (tk:=s3.toks) (last:=last) (D:=s2.heap.objs.size) (cl:=cellsFrom (s3.heap.objs.size+1) scope.names cl) S I3 f3 fps hcl hcl2 hN hns₁ k34
  (λx c e=>by
   rw[<-sz3]at e;rcases b40 _ _ _ e with q| ⟨q1,_,q3⟩
   .exact .inl q
   .exact .inr ⟨ad,q3⟩)
  (b41 _ _ _ (λx c e=>by
   obtain⟨v,q⟩:=I3.cell x c (hcl x c e);exact lN q.lt) λx y c e1 e2=>I3.ok.inj x y c (hcl x c e1) (hcl y c e2))
  (λx m=>cells_keep _ _ _ λm'=>by
   have h1:=S.owns _ m' rfl;have h2:=S.freeK _ m rfl;rw[h1]at h2;cases h2)
  (λx e=>zV.mp (aO3 _ _ _<|.inl e))
  (λx c e1 e2=>by
   have:=tW scope.names (s3.heap.objs.size+1) cl (.inl<|qB e1) e2
   lia)
 have st4:tn 0 (pushCells (s3.heap.push {cls:= .type "dict",data:= .dict #[]}) scope.names):=T.keep 0 _ _ st3 λb hb o e=>k34 b o e
 generalize hcl':cellsFrom (s3.heap.objs.size+1) scope.names cl=cl' at I4;have loop:codeAny (model X.prog X.w) X.A (.compLoop (.ListComp elt (⟨tg,iter,ifs,0⟩::iS) scope pos) 0 (.ref ita) (.ref s2.heap.objs.size)<|compEnvC scope cl' s3.heap.objs.size X.env)
   (RR (.ref s2.heap.objs.size) s3.heap.objs.size) {s3 with heap:=pushCells (s3.heap.push {cls:= .type "dict",data:= .dict #[]}) scope.names,toks:=s3.toks}:=by
  have stat: ∀{H':Hp},(∀b∈fp,H' b=none)-> ∀b∈fp,aR9 (bT X N scope cl' s3.heap.objs.size s3 (upd H2 s2.heap.objs.size<|.lst []) fp pins) [] H' b:=λ{H'} hn b hb=>by
   refine⟨hn b hb,bK<|fps b hb,λz=> ?_,.inl hb,λx c e=>(I4.ok.exf b hb).2 x c e,λp hp=> ?_⟩
   .rcases aZ.mp (I3.stkSub b z)with z|z
    .exact(f3 b hb).2.1 z
    .exact(f3 b hb).2.2.1 z
   .have:p∈(X.pn++pins)++[]:=hp;exact(f3 b hb).2.2.2.2.2 p (by exists this)
  have hcb:(bT X N scope cl' s3.heap.objs.size s3 (upd H2 s2.heap.objs.size<|.lst []) fp pins).calm=true:=hc;refine rZ (λn s'=> ∃i σ' H',Inv (bT X N scope cl' s3.heap.objs.size s3 (upd H2 s2.heap.objs.size<|.lst []) fp pins) [] σ' H' s'/\tn i s'.heap/\(∀b∈fp,H' b=none)/\W i n σ' H') (hem _ _ _) ?_ m0 ⟨0,_,_,I4,st4,λb hb=>(f3 b hb).1,w0⟩
  rintro n s5 ⟨i,σ5,H5,I5,st5,fr5,w5⟩;rcases turn i n σ5 H5 w5 with⟨stop,qn⟩| ⟨go,Nx,hNx,step⟩
  .refine bD (T.done (bT X N scope cl' s3.heap.objs.size s3 (upd H2 s2.heap.objs.size<|.lst []) fp pins) rfl rfl rfl hcb i [] s5 σ5 H5 (λ_ _=>False) I5 (stat fr5) st5 stop) (λr s6 hr=> ?_) (λ_ _ z=>z.elim)
   obtain⟨rfl,I6⟩:=hr;exact fin _ fp _ s3 σ5 H5 s6 I3 f3 (hcl'▸I6) qn
  .refine bD (T.item (bT X N scope cl' s3.heap.objs.size s3 (upd H2 s2.heap.objs.size<|.lst []) fp pins) rfl rfl rfl hcb i [] s5 σ5 H5 (λ_ _=>False) I5 (stat fr5) st5 go) (λr s6 hr=> ?_) (λ_ _ z=>z.elim)
   obtain⟨u,rfl,h6⟩:=hr;refine bD h6 (λ_ s7 h7=> ?_) (λ_ _ z=>z.elim)
   obtain⟨x,H7,I7,r7,y7,st7,fr7⟩:=h7;have I7':=I7.pinned (stat fr7) (T.obj _ _ st7);refine bD (hg _ _ _ _ _ _ _ s7 σ5 H7 x u _ I7' r7<|step x H7 y7) (λ_ s8 h8=> ?_) (λ_ _ z=>False.elim z)
   obtain⟨σ8,H8,I8,q8⟩:=h8;have again: ∀{σ9:L2.St} {H9:Hp} {s9:Shared},Inv (bT X N scope cl' s3.heap.objs.size s3 (upd H2 s2.heap.objs.size<|.lst []) fp pins) ([]++b30 fp s7.heap) σ9 H9 s9->Nx σ9 H9-> ∃m,m<n/\ ∃i σ' H',Inv (bT X N scope cl' s3.heap.objs.size s3 (upd H2 s2.heap.objs.size<|.lst []) fp pins) [] σ' H' s9/\tn i s9.heap/\(∀b∈fp,H' b=none)/\W i m σ' H':=λ{σ9 H9 s9} I9 n9=>by
    obtain⟨m',hm,w9⟩:=hNx σ9 H9 n9;refine⟨m',hm,i+1,σ9,H9,I9.unpinned,T.keep _ _ _ st7 λb hb o e=>(I9.pin (b,o)<|dX _<|dX _<|qU hb e).1,λb hb=> ?_,w9⟩
    obtain⟨o,e,d⟩:=T.obj _ _ st7 b hb;exact(I9.pin (b,o)<|dX _<|dX _<|qU hb e).2.1
   refine bD (ht _ _ _ _ _ _ _ s8 σ8 H8 _ I8 q8) (λc s9 h9=> ?_) (λ_ _ z=>False.elim z)
   obtain⟨H9,I9,q9⟩:=h9;cases c with
   | false=>exact again I9 q9
   | true=>
    rw[a9 rfl]at q9⊢;refine bD (he _ _ _ _ _ _ _ _ s9 σ8 H9 _ I9 q9) (λ_ s10 h10=> ?_) (λ_ _ z=>False.elim z)
    obtain⟨σ10,H10,I10,q10⟩:=h10;exact again I10 q10
 exact codeAny_compStart_list loop (T.self _ 0 _ _ _ st4 loop)
theorem aL6 {X:Cx}{σ:L2.St}{H:Hp}(S:eK X.env X.N N cap scope)(I:Inv X pins σ H s) :
  ∃cl,closureFor scope X.env=pure cl/\(∀x c,cl.lookup x=some c->X.env.cells.lookup x=some c)/\ ∀y∈scope.names,y.2= .free-> ∃c,cl.lookup y.1=some c:=by
 obtain⟨cl,h1,h2,_,h4⟩:=a36 (env:=X.env) scope.names (λy hy hf=>I.ok.has y.1 (S.frees y hy hf)) [] (λx c q=>by simp at q)
 refine⟨cl,?_,h2,h4⟩
 have e:closureFor scope X.env=(forIn scope.names [] fun(x:Str×NameKind) r=>(do if(x.2==NameKind.free)=true then do let c<-cellOf X.env x.1;pure (ForInStep.yield ((x.1,c)::r))else pure (ForInStep.yield r)):Sem (List<|Str×Addr)) >>= λr=>pure r:=by
  rfl
 rw[e,h1];rfl
theorem dU7 {X:Cx}{iS:List Comprehension}{wi:TI}{g:TG}{tt:TT}{tem:Addr->L2.St->Hp->(L2.St->Hp->Prop)->Prop}(hem: ∀it acc env,compTurn (.ListComp elt (⟨tg,iter,ifs,0⟩::iS) scope pos) 0 it acc env=a37 (.ListComp elt (⟨tg,iter,ifs,0⟩::iS) scope pos) 0 tg iter.pos ifs (em acc env) it acc env)(hc:X.calm=true)(hi:PI X tg iter wi)(S:eK X.env X.N N cap scope)
  (hN: ∀x,N[last]? =some x->scope.names.lookup x=none)
  (hg: ∀cl C s H fp pins,PG (bT X N scope cl C s H fp pins) tg g) (ht: ∀cl C s H fp pins,PTs (bT X N scope cl C s H fp pins) ifs tt) (he: ∀cl C s H fp pins,PEm (bT X N scope cl C s H fp pins) em tem)
  (hs: ∀x,foldedSetIterable iter X.env x=pure x:=by intro _;rfl):PE X (.ListComp elt (⟨tg,iter,ifs,0⟩::iS) scope pos) (bG9 cap last wi g tt tem):=by
 intro pins s σ H Q I h;rw[eval_ListComp];obtain⟨cl,hcl0,hcl,hcl2⟩:=aL6 S I;refine wpAny_comprehension_free (use:=none) rfl hs hcl0 S.kind S.names ?_;refine bX0 (RR:=λacc C=>compPost (model X.prog X.w) X.A X.xe none (EP X pins σ Q) acc C) hem hc hi S hN hg ht he I h hcl hcl2 λD fp H3 s3 σ' H' s' I3 f3 I' q=> ?_
 obtain⟨m6,hn6,_⟩:=I'.loc;exact⟨m6,hn6,λh' hs'=>⟨.ref D,H',bW9 I3 f3 (aH _) I' hs',rfl,q⟩⟩
theorem cQ5 {X:Cx}{iS:List Comprehension}{wi:TI}{g:TG}{tt:TT}{tem:Addr->L2.St->Hp->(L2.St->Hp->Prop)->Prop}(hem: ∀it acc env,compTurn (.ListComp elt (⟨tg,iter,ifs,0⟩::iS) scope pos) 0 it acc env=a37 (.ListComp elt (⟨tg,iter,ifs,0⟩::iS) scope pos) 0 tg iter.pos ifs (em acc env) it acc env)(hc:X.calm=true)(hi:PI X tg iter wi)(S:eK X.env X.N N cap scope)
  (hN: ∀x,N[last]? =some x->scope.names.lookup x=none)
  (hg: ∀cl C s H fp pins,PG (bT X N scope cl C s H fp pins) tg g) (ht: ∀cl C s H fp pins,PTs (bT X N scope cl C s H fp pins) ifs tt) (he: ∀cl C s H fp pins,PEm (bT X N scope cl C s H fp pins) em tem)
  (hy:PG X (.Name y py) (a91 i)) (hsw:↥(swapsWith (.ListComp elt (⟨tg,iter,ifs,0⟩::iS) scope pos) (some<|.Name y py) spos.line X.env=pure true))
  (hs: ∀x,foldedSetIterable iter X.env x=pure x:=by intro _;rfl):PS X (.Assign [.Name y py] (.ListComp elt (⟨tg,iter,ifs,0⟩::iS) scope pos) spos) (dS0 (bG9 cap last wi g tt tem)<|a91 i):=by
 intro pins s σ H D I h;rw[exec_Assign_Name_used _ _ _ _ hsw];refine aA (kP<|aA ?_);obtain⟨cl,hcl0,hcl,hcl2⟩:=aL6 S I;show wpAny _ X.A (do let _<-comprehension (.ListComp elt (⟨tg,iter,ifs,0⟩::iS) scope pos) scope X.env _ (newList []) false (eval iter X.env) (some<|assign (.Name y py) X.env)) _ _ s
 refine aA (bD (wpAny_comprehension_free (use:=some (assign (.Name y py) X.env)) (Q:=λ_ s'=>SP X pins D .next s') rfl hs hcl0 S.kind S.names ?_) (λ_ s' hq=>aL (aL hq)) λ_ _ e=>e)
 refine bX0 (RR:=λacc C=>compPost (model X.prog X.w) X.A X.xe (some<|assign (.Name y py) X.env) (λ_ s'=>SP X pins D .next s') acc C) hem hc hi S hN hg ht he I (show bG9 cap last wi g tt tem σ H (λx H1=>a91 i x σ H1 D.nx)from h) hcl hcl2 λD' fp H3 s3 σ' H' s' I3 f3 I' q=> ?_
 obtain⟨m6,hn6,_⟩:=I'.loc;obtain⟨o6,es6,ep6,ho6,rest6⟩:=id hn6;have J:Inv X pins σ H' s':=bW9 (h2:=s'.heap) I3 f3 (aH _) I' (.refl ..);have fC:H' s3.heap.objs.size=none:=I'.free;have neL:s3.heap.objs.size≠X.env.locals:=qP I3.lt;have neF:s3.heap.objs.size ∉ X.fs:=I3.nofs (aH _);have neC: ∀x c,X.env.cells.lookup x=some c->c≠s3.heap.objs.size:=λx c e z=>by
  obtain⟨v,qq⟩:=I3.cell x c e;exact absurd (b9 qq.lt (by rw[z];exact aH _)) (dJ _)
 have neP: ∀p∈X.pn++pins,p.1≠s3.heap.objs.size:=λp hp z=>by
  have:=aW (I3.pin p hp).1;rw[z]at this;exact dJ _ this
 have nd: ∀v,o6.data≠ .cell v:=λv z=>by
  have:o6.data= .dict es6 ep6:=rest6.1;rw[this]at z;cases z
 have J':Inv X (pins++[(s3.heap.objs.size,o6)]) σ H' s':=J.pins_of λp hp=>(dI.mp hp).elim (λz=>J.pin p (dX _ z)) λz=>by
  have e:p=(s3.heap.objs.size,o6):=by exists z
  subst e;exact⟨ho6,fC,neL,neF,nd⟩
 show wpAny _ X.A (assign (.Name y py) X.env<|.ref D') _ _ _
 refine thn (hy _ s' σ H' (.ref D') (.ref D') D.nx J' rfl q) λ_ s7 ⟨σ7,H7,I7,q7⟩=> ?_
 obtain⟨e7,n7,_⟩:=I7.pin (s3.heap.objs.size,o6) (dX _<|dX _ ae)
 refine⟨m6,⟨o6,es6,ep6,e7,rest6⟩,λh' hs'=> ?_⟩
 have I8:=I7.unpinned;exact⟨σ7,H7,I8.turned (t':=s7.toks) (λb o hb e=>(hs'.2 b hb).trans e) n7 neL (.inr<|aJ I3.sz<|aH _) neC neP,q7⟩
end L2
namespace M
nonrec def dU8:B->B
 | .pu d=> .pu d
 | .ow l=> .bo l
 | .bo l=> .bo l
nonrec def pP (ρ:Ev)(cap:List (Option Nat))(last:Nat):Ev:=(cap.map λc=>c.bind λj=>((ρ[j]?).join).map dU8).set last (some<|.ow [])
nonrec def dU9 (ρ:Ev)(j:Nat):Ev:=match ρ[j]? with
 | some (some<|.ow l)=>ρ.set j (some<|.pu<|.lst l)
 | _=>ρ
nonrec def xC:Ev->List Nat->Ev
 | ρ,[]=>ρ
 | ρ,j::js=>xC (dU9 ρ j) js
theorem dE2 (ρ:Ev)(j:Nat):Frz ρ (dU9 ρ j):=by
 unfold dU9;split
 .rename_i l e
  exact .set e
 .exact .refl _
theorem cD5: ∀(js:List Nat) (ρ:Ev),Frz ρ (xC ρ js)
 | [],ρ=> .refl _
 | j::js,ρ=>(dE2 ρ j).trans (cD5 js _)
nonrec def dF (js:List Nat)(cap:List (Option Nat))(last:Nat)(ui:UI)(g:UG)(tt:UT)(te:UE):UE:=λρ Q=>ui ρ λn it ρ1=> ∃Pv:Nat->Ev->Prop,Pv 0 (pP (xC ρ1 js) cap last)/\
 (∀i ρ',i<n->Pv i ρ'->g (.pu<|it i) ρ' λρ2=>tt ρ2 λc ρ3=>if c=true then te ρ3 λb ρ4=>lH ρ4 last λl=>l.length<sizeLine/\Pv (i+1) (ρ4.set last<|some<|.ow<|l++[b.d])else Pv (i+1) ρ3)/\
 ∀ρ',Pv n ρ'->lH ρ' last λl=>Q (.ow l) (xC ρ1 js)
def b42 (js:List Nat)(cap:List (Option Nat))(last:Nat)(ui:UI)(g:UG)(tt:UT)(uem:(Ev->Prop)->Ev->Prop):UE:=λρ Q=>ui ρ λn it ρ1=> ∃Pv:Nat->Ev->Prop,Pv 0 (pP (xC ρ1 js) cap last)/\
 (∀i ρ',i<n->Pv i ρ'->g (.pu<|it i) ρ' λρ2=>tt ρ2 λc ρ3=>if c=true then uem (Pv<|i+1) ρ3 else Pv (i+1) ρ3)/\
 ∀ρ',Pv n ρ'->lH ρ' last λl=>Q (.ow l) (xC ρ1 js)
def uPut (last:Nat)(te:UE)(Nx:Ev->Prop)(ρ:Ev):Prop:=te ρ λb ρ4=>lH ρ4 last λl=>l.length<sizeLine/\Nx (ρ4.set last<|some<|.ow<|l++[b.d])
def dE3 (K:PySem.W.Frag)(last:Nat)(uem:(Ev->Prop)->Ev->Prop)(tem:Addr->L2.St->Hp->(L2.St->Hp->Prop)->Prop):Prop:= ∀(C:C0) (ρ:Ev) (σ:L2.St) (H:Hp) (Dn:Addr) (Nx:Ev->Prop) (NX:L2.St->Hp->Prop),EOk K C ρ σ H->σ[last]? =some (some<|.ref Dn)->uem Nx ρ->(∀ρ2 σ2 H2,EOk K C ρ2 σ2 H2->σ2[last]? =some (some<|.ref Dn)->Nx ρ2->NX σ2 H2)->tem Dn σ H NX
section
variable {X:Cx}{K:PySem.W.Frag}{C:C0}{ρ ρ':Ev}{σ σ':L2.St}{H H':Hp}
theorem cap_ok {Dn:Addr}(I:EOk K C ρ σ H)(hl:last<cap.length)(n:H Dn=none) :
  EOk K ⟨H,Av C ρ σ⟩ (pP ρ cap last) (wF σ cap last Dn) (upd H Dn<|.lst []):=by
 have pu: ∀(i:Nat) (z:B),last≠i->(pP ρ cap last)[i]? =some (some z)-> ∃(j:Nat) (z':B),cap[i]? =some (some j)/\z=dU8 z'/\ρ[j]? =some (some z'):=λi z ne h=>by
  unfold pP at h;rw[get_set_ne ne,bJ]at h;cases e4:cap[i]? with
  | none=>rw[e4]at h;cases h
  | some c=>
   rw[e4]at h;cases c with
   | none=>cases h
   | some j=>
    have h':((ρ[j]?).join).map dU8=some z:=by exists h
    cases q:ρ[j]? with
    | none=>rw[q]at h';cases h'
    | some w=>
     rw[q]at h';cases w with
     | none=>cases h'
     | some w'=>cases h';exact⟨j,w',rfl,rfl,q⟩
 have sgm: ∀(i j:Nat) (v:V),last≠i->cap[i]? =some (some j)->σ[j]? =some (some v)->(wF σ cap last Dn)[i]? =some (some v):=λi j v e e1 h1=>by
  unfold wF;rw[get_set_ne e,bJ,e1];show some ((σ[j]?).join)=_;rw[h1];rfl
 have atl:(pP ρ cap last)[last]? =some (some<|.ow []):=by
  unfold pP;exact iJ (by rw[aG];exact hl)
 have sal:(wF σ cap last Dn)[last]? =some (some<|.ref Dn):=by
  unfold wF;exact iJ (by rw[aG];exact hl)
 have noOw: ∀(i:Nat) (l:List D),last≠i->(pP ρ cap last)[i]? ≠some (some<|.ow l):=λi l e h=>by
  obtain⟨j,z',_,z,_⟩:=pu i _ e h;cases z'<;>cases z
 have own: ∀a,Own (pP ρ cap last) (wF σ cap last Dn) a->a=Dn:=λa ⟨i,l,h1,h2⟩=>by
  by_cases e:last=i
  .subst e;rw[sal]at h2;cases h2;rfl
  .exact absurd h1 (noOw i l e)
 have P:mY (Av C ρ σ) H (Av ⟨H,Av C ρ σ⟩ (pP ρ cap last)<|wF σ cap last Dn) (upd H Dn<|.lst []):=λb o nb e=>by
  have ne:b≠Dn:=λz=>by subst z;rw[n]at e;cases e
  refine⟨?_,by rw[cL ne];exact e⟩
  rintro(z|z)
  .exact nb z
  .exact ne (own b z)
 refine⟨by unfold pP wF;rw[eH,eH,aG,aG],λi d h=> ?_,λi l h=> ?_,λi j l l' a h1 h2 h3 h4=> ?_,λi l h=> ?_,fE n _,λa z=>I.avSome z⟩
 .by_cases e:last=i
  .subst e;rw[atl]at h;cases h
  .obtain⟨j,z',e1,z,e2⟩:=pu i _ e h;cases z' with
   | pu d'=>
    cases z;obtain⟨v,h1,h2⟩:=I.pu j d e2;exact⟨v,sgm i j v e e1 h1,h2.mono P⟩
   | ow l=>cases z
   | bo l=>cases z
 .by_cases e:last=i
  .subst e;rw[atl]at h;cases h;exact⟨Dn,[],sal,iY,n,.nil⟩
  .exact absurd h (noOw i l e)
 .have e1:last=i:=zU λe=>absurd h1 (noOw i l e)
  have e2:last=j:=zU λe=>absurd h2 (noOw j l' e)
  exact e1.symm.trans e2
 .by_cases e:last=i
  .subst e;rw[atl]at h;cases h
  .obtain⟨j,z',e1,z,e2⟩:=pu i _ e h;cases z' with
   | pu d'=>cases z
   | ow l'=>
    cases z;obtain⟨a,vs,h1,h2,h3,h4⟩:=I.ow j l e2;exact⟨a,vs,sgm i j _ e e1 h1,.inr ⟨j,l,e2,h1⟩,h2,h4.mono P⟩
   | bo l'=>
    cases z;obtain⟨a,vs,h1,h2,h3,h4⟩:=I.bo j l e2;exact⟨a,vs,sgm i j _ e e1 h1,.inl h2,I.ext _ _ h3,h4.mono P⟩
theorem cQ6 {te:UE}:dE3 K last (uPut last te) (tPut<|lE K te):=λC ρ σ H Dn Nx NX J l3 q nx=>⟨C,ρ,_,J,q,λb ρ5 v H5 q5 f5 s5 r5=>by
 have J5:=(J.frz f5).same s5;obtain⟨l,hl5,hz,q5⟩:=jV q5;obtain⟨a,vs,g1,g2,g3,g4⟩:=J5.ow last l hl5;rw[l3]at g1;cases g1;exact⟨vs,g2,by rw[<-g4.length];exact hz,nx _ _ _ (J5.write hl5 l3<|g4.append<|.cons (r5.rep λa z=>J.avF f5 z) .nil) l3 q5⟩⟩
theorem e48 {ui:UI}{g:UG}{T:List Nat}{tt:UT}{uem:(Ev->Prop)->Ev->Prop}{tem:Addr->L2.St->Hp->(L2.St->Hp->Prop)->Prop}(em:dE3 K last uem tem)(hl:last<cap.length)(hT:last ∉ T)(σ:L2.St)(H:Hp)(Q:VK)(h:lE K (b42 js cap last ui g tt uem) σ H Q) :
  bG9 cap last (lI K ui) (lG K T g) (lT K tt) tem σ H Q:=by
 obtain⟨C,ρ,Q0,I,h,k⟩:=h;refine⟨C,ρ,_,I,h,λn it ρ1 J H1 q f s ok Dn nD=> ?_⟩
 obtain⟨Pv,p0,turn,fin⟩:=q;have fz:=cD5 js ρ1;have I1:EOk K C (xC ρ1 js) σ H1:=((I.frz f).same s).frz fz;generalize xC ρ1 js=ρ2 at fz I1 p0 fin;have P12: ∀{A':AS} {H':Hp},mY (Av C ρ2 σ) H1 A' H'->mY (Av C ρ1 σ) H1 A' H':=λp b o nb e=>p b o (λz=>nb (fz.av z)) e
 have I2:=cap_ok I1 hl nD;have own0: ∀{ρ':Ev} {σ':L2.St} {H':Hp},EOk K ⟨H1,Av C ρ2 σ⟩ ρ' σ' H'->mY (Av C ρ2 σ) H1 (Av ⟨H1,Av C ρ2 σ⟩ ρ' σ') H':=λ{ρ' σ' H'} J' b o nb e=>by
  refine⟨?_,J'.ext b o e⟩
  rintro(z| ⟨i,l,h1,h2⟩)
  .exact nb z
  .obtain⟨a,vs,h3,h4,h5,_⟩:=J'.ow i l h1;rw[h2]at h3;cases h3;have e':(⟨H1,Av C ρ2 σ⟩:C0).H0 b=some o:=e;rw[h5]at e';cases e'
 have sal:(wF σ cap last Dn)[last]? =some (some<|.ref Dn):=by
  unfold wF;exact iJ (by rw[aG];exact hl)
 refine⟨λi m σ' H'=>m=n-i/\i<=n/\σ'[last]? =some (some<|.ref Dn)/\ ∃ρ',EOk K ⟨H1,Av C ρ2 σ⟩ ρ' σ' H'/\Pv i ρ',⟨n,rfl,dM _,sal,_,I2,p0⟩,?_⟩
 rintro i m σ' H' ⟨rfl,hi,hlast,ρ',J',p'⟩;have P:=P12 (own0 J')
 by_cases hlt:i<n
 .refine .inr ⟨ok.go _ _ i P hlt,λσ2 H2=>σ2[last]? =some (some<|.ref Dn)/\ ∃ρ3,EOk K ⟨H1,Av C ρ2 σ⟩ ρ3 σ2 H2/\Pv (i+1) ρ3,λσ2 H2 z=>⟨n-(i+1),aa,rfl,hlt,z⟩,λx H2 y=> ?_⟩
  obtain⟨s2,r2⟩:=ok.yld _ _ i x H2 P (λa z=>J'.avSome z) hlt y
  refine⟨_,ρ',.pu<|it i,H',_,J',s2,r2,turn i ρ' hlt p',λρ3 σ3 H3 q3 J3 same3=> ?_⟩
  have l3:σ3[last]? =some (some<|.ref Dn):=(same3 last hT).trans hlast;refine⟨_,ρ3,_,J3,q3,λc ρ4 H4 q4 f4 s4=> ?_⟩
  have J4:=(J3.frz f4).same s4;cases c with
  | false=>
   dsimp only at q4⊢;rw[a7 bN]at q4⊢;exact⟨l3,ρ4,J4,q4⟩
  | true=>
   dsimp only at q4⊢;rw[a9 rfl]at q4⊢;exact em _ ρ4 _ _ Dn _ _ J4 l3 q4 λρ5 σ5 H5 J5 l5 q5=>⟨l5,ρ5,J5,q5⟩
 .have e:i=n:=aa
  subst e;obtain⟨l,hl5,q5⟩:=jV (fin ρ' p');obtain⟨a,vs,g1,g2,g3,g4⟩:=J'.ow last l hl5;rw[hlast]at g1;cases g1;refine .inl ⟨ok.stop _ _ P,k _ _ _ _ q5 (f.trans fz) (s.trans J'.ext) ⟨Dn,vs,rfl,s.free nD,g2,?_⟩⟩;refine g4.mono λb o nb e=>⟨?_,e⟩
  rintro(z|z)
  .exact nb (.inl z)
  .subst z;exact nb (.inr ⟨last,l,hl5,hlast⟩)
theorem dN: ∀{X:Cx},PTs X [] (lT X.K λρ Q=>Q true ρ):=λ{X} pins s σ H Q I ⟨C,ρ,Q0,J,h,k⟩=>dU5 pins s σ H Q I (k _ ρ H h (.refl _)<|.refl _)
theorem aW7 {t:UT}(h:PUT X c t):PTs X [c] (lT X.K t):=dU6 h
theorem dE4 {iS:List Comprehension}{ui:UI}{g:UG}{T:List Nat}{tt:UT}{uem:(Ev->Prop)->Ev->Prop}{tem:Addr->L2.St->Hp->(L2.St->Hp->Prop)->Prop}(ek:dE3 X.K last uem tem)(hem: ∀it acc env,compTurn (.ListComp elt (⟨tg,iter,ifs,0⟩::iS) scope pos) 0 it acc env=a37 (.ListComp elt (⟨tg,iter,ifs,0⟩::iS) scope pos) 0 tg iter.pos ifs (em acc env) it acc env)(hc:X.calm=true)(hi:PUI X tg iter ui)(S:eK X.env X.N N cap scope)
  (hN: ∀x,N[last]? =some x->scope.names.lookup x=none) (hl:last<cap.length) (hT:last ∉ T)
  (hg: ∀cl C s H fp pins,PUG (bT X N scope cl C s H fp pins) tg T g) (ht: ∀cl C s H fp pins,PTs (bT X N scope cl C s H fp pins) ifs<|lT X.K tt) (he: ∀cl C s H fp pins,PEm (bT X N scope cl C s H fp pins) em tem)
  (hs: ∀x,foldedSetIterable iter X.env x=pure x:=by intro _;rfl):PU X (.ListComp elt (⟨tg,iter,ifs,0⟩::iS) scope pos) (b42 js cap last ui g tt uem):=
 iZ (dU7 (g:=lG X.K T g) (tt:=lT X.K tt) hem hc hi S hN hg ht he hs) (e48 ek hl hT)
theorem dV0 {ui:UI}{g:UG}{T:List Nat}{tt:UT}{te:UE}(hc:X.calm=true)(hi:PUI X tg iter ui)(S:eK X.env X.N N cap scope)
  (hN: ∀x,N[last]? =some x->scope.names.lookup x=none) (hl:last<cap.length) (hT:last ∉ T)
  (hg: ∀cl C s H fp pins,PUG (bT X N scope cl C s H fp pins) tg T g) (ht: ∀cl C s H fp pins,PTs (bT X N scope cl C s H fp pins) ifs<|lT X.K tt) (he: ∀cl C s H fp pins,PU (bT X N scope cl C s H fp pins) elt te)
  (hs: ∀x,foldedSetIterable iter X.env x=pure x:=by intro _;rfl):PU X (.ListComp elt [⟨tg,iter,ifs,0⟩] scope pos) (dF js cap last ui g tt te):=
 dE4 (js:=js) (cQ6 (te:=te)) (λ_ _ _=>rfl) hc hi S hN hl hT hg ht (λcl C s H fp pins=>c54 (he cl C s H fp pins)) hs
theorem b96 {iS:List Comprehension}{ui:UI}{g:UG}{T:List Nat}{tt:UT}{uem:(Ev->Prop)->Ev->Prop}{tem:Addr->L2.St->Hp->(L2.St->Hp->Prop)->Prop}(i:Nat)(ek:dE3 X.K last uem tem)(hem: ∀it acc env,compTurn (.ListComp elt (⟨tg,iter,ifs,0⟩::iS) scope pos) 0 it acc env=a37 (.ListComp elt (⟨tg,iter,ifs,0⟩::iS) scope pos) 0 tg iter.pos ifs (em acc env) it acc env)(hc:X.calm=true)(hi:PUI X tg iter ui)(S:eK X.env X.N N cap scope)
  (hN: ∀x,N[last]? =some x->scope.names.lookup x=none) (hl:last<cap.length) (hT:last ∉ T)
  (hg: ∀cl C s H fp pins,PUG (bT X N scope cl C s H fp pins) tg T g) (ht: ∀cl C s H fp pins,PTs (bT X N scope cl C s H fp pins) ifs<|lT X.K tt) (he: ∀cl C s H fp pins,PEm (bT X N scope cl C s H fp pins) em tem)
  (hy:PG X (.Name y py) (a91 i)) (hi': ∀pins σ H s,Inv X pins σ H s->i<σ.length) (hsw:↥(swapsWith (.ListComp elt (⟨tg,iter,ifs,0⟩::iS) scope pos) (some<|.Name y py) spos.line X.env=pure true))
  (hs: ∀x,foldedSetIterable iter X.env x=pure x:=by intro _;rfl):PUS X (.Assign [.Name y py] (.ListComp elt (⟨tg,iter,ifs,0⟩::iS) scope pos) spos) (bF i<|b42 js cap last ui g tt uem):=by
 intro pins s σ H D I q;refine cQ5 (g:=lG X.K T g) (tt:=lT X.K tt) hem hc hi S hN hg ht he hy hsw hs pins s σ H D I ?_;obtain⟨C,ρ,D0,J,h,k⟩:=q;exact e48 ek hl hT σ H _ ⟨C,ρ,_,J,h,λb ρ1 v H1 q f s1 r=>k.nx _ _ _ q ((J.frz f).store s1 r<|hi' pins σ H s I)⟩
theorem cQ7 {ui:UI}{g:UG}{T:List Nat}{tt:UT}{te:UE}(i:Nat)(hc:X.calm=true)(hi:PUI X tg iter ui)(S:eK X.env X.N N cap scope)
  (hN: ∀x,N[last]? =some x->scope.names.lookup x=none) (hl:last<cap.length) (hT:last ∉ T)
  (hg: ∀cl C s H fp pins,PUG (bT X N scope cl C s H fp pins) tg T g) (ht: ∀cl C s H fp pins,PTs (bT X N scope cl C s H fp pins) ifs<|lT X.K tt) (he: ∀cl C s H fp pins,PU (bT X N scope cl C s H fp pins) elt te)
  (hy:PG X (.Name y py) (a91 i)) (hi': ∀pins σ H s,Inv X pins σ H s->i<σ.length) (hsw:↥(swapsWith (.ListComp elt [⟨tg,iter,ifs,0⟩] scope pos) (some<|.Name y py) spos.line X.env=pure true))
  (hs: ∀x,foldedSetIterable iter X.env x=pure x:=by intro _;rfl):PUS X (.Assign [.Name y py] (.ListComp elt [⟨tg,iter,ifs,0⟩] scope pos) spos) (bF i<|dF js cap last ui g tt te):=
 b96 (js:=js) i (cQ6 (te:=te)) (λ_ _ _=>rfl) hc hi S hN hl hT hg ht (λcl C s H fp pins=>c54 (he cl C s H fp pins)) hy hi' hsw hs
end
end M
end
section
namespace L2
section
variable {X:Cx}
theorem dV1 {bs:List Bool}: ∀{its:List Value},Vals (bs.map V.bl) its->LSm.BoolsAre its bs:=by
 induction bs with
 | nil=>intro its r;cases r;exact .nil
 | cons b bs ih=>
  intro its r;cases r with
  | cons r1 r2=>
   cases r1;exact .cons b (ih r2)
theorem cQ8 (hc:X.calm=true):pN X (.builtin "all") (λxs H Q=> ∃(p:Addr) (bs:List Bool),xs=[.ref p]/\SqL X.K H p (bs.map V.bl)/\Q (.bl<|bs.all id) H):=by
 intro pins s σ H xs us Q I r h;obtain⟨p,bs,rfl,hq,q⟩:=h;obtain⟨u,rfl,rx⟩:=vals1 r;cases rx;obtain⟨its,rv,pl,hz⟩:=I.list hq;have ba:=dV1 rv;refine call_all_walk (aQ6 pl.isList ?_);have hne:p≠s.heap.objs.size:=by
  obtain⟨o,n,e,_⟩:=pl;exact bK (aW e)
 refine⟨s.heap.objs.size,_,_,_,_,_,λi=>(bs[i]?).getD true,rfl,Walks.list (A:=X.A.in1) (I.ok.hd hc) s.heap.objs.size p (λz=>hne z) its.toArray,⟨⟨_,cC _ rfl,rfl,rfl⟩,pl.isList.push _⟩,?_,λh' tk hk=> ?_⟩
 .intro i v s' Q' E' hP hQ;obtain⟨b,hb,rfl⟩:=ba.get i v (by exists hP)
  refine qH ?_
  have e:(λi=>(bs[i]?).getD true) i=b:=by simp[hb]
  dsimp only at hQ;rw[hb]at hQ;exact hQ
 .have e:=LSm.range_all bs;have hl:=ba.length;have e2:its.toArray.size=bs.length:=by rw[bG,hl]
  rw[e2,e];exact⟨.bl<|bs.all id,H,I.kept λb o e=>hk b o (by simpa using bK (aW e)) (aV _ e),rfl,q⟩
theorem cQ9 (hc:X.calm=true):pN X (.builtin "sum") (λxs H Q=> ∃(p:Addr) (ns:List Int),xs=[.ref p]/\SqL X.K H p (ns.map V.int)/\Q (.int ns.sum) H):=by
 intro pins s σ H xs us Q I r h;obtain⟨p,ns,rfl,hq,q⟩:=h;obtain⟨u,rfl,rx⟩:=vals1 r;cases rx;obtain⟨its,rv,pl,hz⟩:=I.list hq;have hi:IntsAre its ns:=by simpa using intsAre_of rv
 obtain⟨xs,hx⟩:=hi.allInts.items;have hl':s.heap.IsList p (intItems xs):=hx▸pl.isList;refine sum_intListG (I.ok.hd hc) hl' λh' tk t' hk=> ?_
 have e1:ns=xs.toList.map (·.1):=by
  rw[<-nums_intItems,<-hx];exact(show numsOf its.toArray.toList=ns from hi.numsOf).symm
 have e2:preSum (numAt xs) xs.size=ns.sum:=by
  rw[preSum_eq,List.take_of_length_le ae,e1]
 rw[e2];exact⟨.int ns.sum,H,I.kept hk,⟨_,rfl⟩,q⟩
nonrec def tX (esc:List (Str×NameKind))(XN N:List Str)(cap:List (Option Nat))(scope:Scope)(last:Nat):Bool:=
 (scope.kind== .function)&&scope.names.all (λy=>y.2 != .cell||scope.names.lookup y.1==some .cell)&&scope.names.all (λy=>y.2 != .free||scope.names.lookup y.1==some .free)&&scope.names.all (λy=>y.2 != .local||scope.names.lookup y.1==some .local)&&
 scope.names.all (λy=>y.2 != .free||esc.lookup y.1==some .cell||esc.lookup y.1==some .free)&&
 (N.zip cap).all (λz=>match z.2 with|none=>true|some j=>XN[j]? ==some z.1&&scope.names.contains (z.1,.free)&&scope.names.lookup z.1==some .free)&&
 (cap.length==N.length)&&(match N[last]? with|some x=>(scope.names.lookup x).isNone|none=>true)
theorem eK.of (he:env.scope.names=esc)(h:tX esc XN N cap scope last=true) :
  eK env XN N cap scope/\ ∀x,N[last]? =some x->scope.names.lookup x=none:=by
 unfold tX at h;simp only[eG,eR,fV]at h;obtain⟨⟨⟨⟨⟨⟨⟨h1,h2⟩,h2'⟩,h3⟩,h4⟩,h5⟩,h6⟩,h7⟩:=h;have hk: ∀x,env.kindOf x=esc.lookup x:=λx=>by unfold Env.kindOf;rw[he]
 refine⟨⟨h1,λy hy hl=>by have:=h2 y hy;rw[hl]at this;simpa using this,λy hy hl=>by have:=h2' y hy;rw[hl]at this;simpa using this,λy hy hl=> ?_,λy hy hf=> ?_,λi j x e1 e2=> ?_,h6⟩,λx e=> ?_⟩
 .have:=h3 y hy;rw[hl]at this
  exists this
 .have:=h4 y hy;rw[hf]at this;rw[hk]
  exists this
 .have hm:(x,some j)∈N.zip cap:=by
   refine aO9 (i:=i) ?_
   rw[List.getElem?_zip_eq_some];exact⟨e1,e2⟩
  have:=h5 _ hm;simp only[eG,fV]at this;obtain⟨⟨a,b⟩,c⟩:=this;exact⟨a,by simpa using b,c⟩
 .rw[e]at h7
  exists h7
end
end L2
namespace M
section
variable {X:Cx}{K:PySem.W.Frag}{A:AS}{H:Hp}
nonrec def aC0:List D->Option (List Bool)
 | []=>some []
 | .bl b::r=>(aC0 r).map (b::·)
 | _=>none
nonrec def aL7:List D->Option (List Int)
 | []=>some []
 | .int b::r=>(aL7 r).map (b::·)
 | _=>none
theorem uX (bs:List Bool):aC0 (bs.map .bl)=some bs:=by
 induction bs with
 | nil=>rfl
 | cons b bs ih=>rw[bY];show(aC0<|bs.map .bl).map _=_;rw[ih];rfl
theorem bX1 (bs:List Int):aL7 (bs.map .int)=some bs:=by
 induction bs with
 | nil=>rfl
 | cons b bs ih=>rw[bY];show(aL7<|bs.map .int).map _=_;rw[ih];rfl
theorem bH0: ∀{l:List D} {bs:List Bool} {vs:List V},aC0 l=some bs->cE K A H l vs->vs=bs.map V.bl
 | [],bs,vs,h,r=>by cases h;exact r.unnil
 | d::r,bs,vs,h,q=>by
  obtain⟨v,vr,rfl,rv,rr⟩:=q.uncons;cases d with
  | bl b=>
   have h':(aC0 r).map (b::·)=some bs:=h;cases e:aC0 r with
   | none=>rw[e]at h';cases h'
   | some bs'=>
    rw[e]at h';cases h';rw[wE rv,bH0 e rr];rfl
  | _=>cases h
theorem b43: ∀{l:List D} {bs:List Int} {vs:List V},aL7 l=some bs->cE K A H l vs->vs=bs.map V.int
 | [],bs,vs,h,r=>by cases h;exact r.unnil
 | d::r,bs,vs,h,q=>by
  obtain⟨v,vr,rfl,rv,rr⟩:=q.uncons;cases d with
  | int b=>
   have h':(aL7 r).map (b::·)=some bs:=h;cases e:aL7 r with
   | none=>rw[e]at h';cases h'
   | some bs'=>
    rw[e]at h';cases h';rw[bS rv,b43 e rr];rfl
  | _=>cases h
nonrec def cD6:List D->(B->Prop)->Prop:=g1 λd Q=>match d with
 | .lst l=>(match aC0 l with
  | some bs=>Q (.pu<|.bl<|bs.all id)
  | none=>False)
 | _=>False
theorem bH1 (hc:X.calm=true):uT X (.builtin "all") cD6:=by
 intro A H ds vs Q0 Q hA r g k;obtain⟨d,v,rfl,rfl,rv,g⟩:=aB7 g r;cases d with
 | lst l=>
  dsimp only at g;cases e:aC0 l with
  | none=>rw[e]at g;exact g.elim
  | some bs=>
   rw[e]at g;simp only[Rep]at rv;obtain⟨a,vs,rfl,n,c,rs⟩:=rv;rw[bH0 e rs]at c;exact⟨_,cQ8 hc,a,bs,rfl,SqL.of c,k _ _ H g (.refl _) lX⟩
 | _=>exact(show False from g).elim
nonrec def gSum:List D->(B->Prop)->Prop:=g1 λd Q=>match d with
 | .lst l=>(match aL7 l with
  | some ns=>Q (.pu<|.int ns.sum)
  | none=>False)
 | _=>False
theorem cu_sum (hc:X.calm=true):uT X (.builtin "sum") gSum:=by
 intro A H ds vs Q0 Q hA r g k;obtain⟨d,v,rfl,rfl,rv,g⟩:=aB7 g r;cases d with
 | lst l=>
  dsimp only at g;cases e:aL7 l with
  | none=>rw[e]at g;exact g.elim
  | some bs=>
   rw[e]at g;simp only[Rep]at rv;obtain⟨a,vs,rfl,n,c,rs⟩:=rv;rw[b43 e rs]at c;exact⟨_,cQ9 hc,a,bs,rfl,SqL.of c,k _ _ H g (.refl _) aB5⟩
 | _=>exact(show False from g).elim
theorem cY7 {i:Int}{t:Tok}(hg:Gl X x)(hm:X.mg x=some (.int i t))(hd:⇑(x∪0)):PU X (.Name x p) (uC<|.int i):=
 bD8 (bD3 (v:= .int i) hg hm ⟨t,rfl⟩ hd) λA H=>by simp only[Rep]
theorem bH2:bootBuiltins "all"=some (.builtin "all"):=af
theorem bt_sum:bootBuiltins "sum"=some (.builtin "sum"):=af
theorem yN {ui:UI}{g:UG}{T:List Nat}{tt:UT}{te:UE}(he0:X.env.scope.names=esc)(hx0:X.N=XN)(lk:tX esc XN N cap scope last=true)(hl:last<cap.length)(hT:last ∉ T)(hc:X.calm=true)(hi:PUI X tg iter ui)
  (hg: ∀cl C s H fp pins,PUG (bT X N scope cl C s H fp pins) tg T g) (ht: ∀cl C s H fp pins,PTs (bT X N scope cl C s H fp pins) ifs<|lT X.K tt) (he: ∀cl C s H fp pins,PU (bT X N scope cl C s H fp pins) elt te)
  (hs: ∀x,foldedSetIterable iter X.env x=pure x:=by intro _;rfl):PU X (.ListComp elt [⟨tg,iter,ifs,0⟩] scope pos) (dF js cap last ui g tt te):=
 dV0 hc hi (eK.of he0<|hx0▸lk).1 (eK.of he0<|hx0▸lk).2 hl hT hg ht he hs
theorem oM {ui:UI}{g:UG}{T:List Nat}{tt:UT}{te:UE}(i:Nat)(he0:X.env.scope.names=esc)(hx0:X.N=XN)(lk:tX esc XN N cap scope last=true)(hl:last<cap.length)(hT:last ∉ T)(hc:X.calm=true)(hi:PUI X tg iter ui)
  (hg: ∀cl C s H fp pins,PUG (bT X N scope cl C s H fp pins) tg T g) (ht: ∀cl C s H fp pins,PTs (bT X N scope cl C s H fp pins) ifs<|lT X.K tt) (he: ∀cl C s H fp pins,PU (bT X N scope cl C s H fp pins) elt te)
  (hy:PG X (.Name y py) (a91 i)) (hi': ∀pins σ H s,Inv X pins σ H s->i<σ.length) (hsw:↥(swapsWith (.ListComp elt [⟨tg,iter,ifs,0⟩] scope pos) (some<|.Name y py) spos.line X.env=pure true))
  (hs: ∀x,foldedSetIterable iter X.env x=pure x:=by intro _;rfl):PUS X (.Assign [.Name y py] (.ListComp elt [⟨tg,iter,ifs,0⟩] scope pos) spos) (bF i<|dF js cap last ui g tt te):=
 cQ7 i hc hi (eK.of he0<|hx0▸lk).1 (eK.of he0<|hx0▸lk).2 hl hT hg ht he hy hi' hsw hs
def aC1 (te:UE):US:=λD ρ=>te ρ λ_ ρ1=>D.nx ρ1
theorem c55 {te:UE}(he:PU X e te)(hs:↥(swapsWith e none pos.line X.env=pure false)):PUS X (.Expr e pos) (aC1 te):=
 rY (bD4 he hs) λD σ H ⟨C,ρ,D0,I,h,k⟩=>⟨C,ρ,_,I,h,λb ρ1 v H1 q f s r=>k.nx _ _ _ q ((I.frz f).same s)⟩
theorem nG: ∀ds ρ Q,tH ds ρ Q->ds.length=0:=λds ρ Q h=>by rw[h.1];rfl
theorem dR {u:UGs}(h: ∀ds ρ Q,u ds ρ Q->ds.length=n): ∀ds ρ Q,fP i u ds ρ Q->ds.length=n+1:=λds ρ Q q=>by
 cases ds with
 | nil=>exact(show False from q).elim
 | cons d r=>rw[cY,h r _ Q q.2]
end
theorem Fn.void {ps:List Str}(F:Fun K x qual st f fd)(m:mg x=some (.ref f))(b:Binds K fd ps [])(h: ∀ds Q,¬φ ds Q):Fn<$>x ps 1 φ:=
 ⟨f,fd,⟨λvs H Q E ⟨_,ds,Q0,_,_,z,_⟩=>absurd z (h ds Q0),λA outer s H args us vs Q E _ _ _ _ ⟨_,ds,Q0,_,_,z,_⟩=>absurd z (h ds Q0)⟩,b,F.kp,m⟩
end M
end
section
namespace HT
open PySem PyProof.Rows
end HT
namespace L2
end L2
namespace M
section
variable {X:Cx}{K:PySem.W.Frag}{A:AS}{H:Hp}{e e3:Expr}{t3:UE}{pos p2:Pos}
def gIn (neg:Bool)(d e:D)(Q:B->Prop):Prop:= ∃(i:Int) (js:List Int),d= .int i/\(e= .tup (js.map D.int)\/e= .lst (js.map D.int)\/e= .rol (js.map D.int))/\Q (.pu<|.bl<|neg ^^ decide (i∈js))
theorem cE.unints: ∀{js:List Int} {vs:List V},cE K A H (js.map D.int) vs->vs=js.map V.int
 | [],_,h=>by simp only[fM,cE]at h;exact h
 | j::js,vs,h=>by
  simp only[bY,cE]at h;obtain⟨v,vr,rfl,r,rs⟩:=h;rw[bS r,cE.unints rs];rfl
theorem dE5 (i:Int)(js:List Int):inV (.int i) (js.map V.int)=decide (i∈js):=by
 unfold inV
 induction js with
 | nil=>rfl
 | cons j js ih=>
  rw[bY,any_cons,ih];show((j==i)||decide (i∈js))=decide (i∈j::js)
  by_cases h:j=i
  .subst h;simp
  .have h': ¬i=j:=λz=>h z.symm
   simp[h,h']
theorem b44 (js:List Int):(js.map V.int).all aW3=true:=by
 induction js with
 | nil=>rfl
 | cons j js ih=>rw[bY,all_cons,ih];rfl
theorem ou_inG {neg:Bool}{op:Value->Value->Sem Value}(ho:OpR X op (rIn X.K neg)):OpU X op (gIn neg):=by
 intro A H d e v w Q0 Q hA r1 r2 g k;obtain⟨i,js,rfl,he,g⟩:=g;have e1:=bS r1;subst e1;have fin:Q (.bl<|if neg=true then !inV (.int i) (js.map V.int)else inV (.int i) (js.map V.int)) H:=by
  rw[dE5];refine k _ _ H g (.refl _) ?_;cases neg
  .rw[a7 ac,nW];exact lX
  .rw[a9 rfl,nX];exact lX
 rcases he with rfl|rfl|rfl
 .simp only[Rep]at r2;obtain⟨a,vs,rfl,c,rs⟩:=r2;have:=rs.unints;subst this;exact⟨_,ho,a,_,rfl,.inr<|c.imp cV id,rfl,b44 js,fin⟩
 .simp only[Rep]at r2;obtain⟨a,vs,rfl,n,c,rs⟩:=r2;have:=rs.unints;subst this;exact⟨_,ho,a,_,rfl,.inl<|SqL.of c,rfl,b44 js,fin⟩
 .simp only[Rep]at r2;obtain⟨a,vs,rfl,c,rs⟩:=r2;have:=rs.unints;subst this;exact⟨_,ho,a,_,rfl,.inl<|c.imp cV id,rfl,b44 js,fin⟩
theorem dE6:OpU X (compareOp .NotIn) (gIn true):=ou_inG c42
end
end M
end
section
namespace L2
nonrec def Itd (lo:Int)(n:Nat):It:={go:=λi _=>i<n,yld:=λi H x H'=>H'=H/\x=V.int (lo-(i:Int)),stop:=λi _=>n<=i}
theorem bX2 (it:Addr)(lo:Int)(n:Nat):c37 P w K tg (Itd lo n) [it] it (λi h=>IsRangeIter h it (lo+(i:Nat)*(-1)) ((n:Int)-(i:Nat)) (-1)) where
 mem:=ae
 obj:=λi h st b hb=>by
  have e:b=it:=by exists hb
  subst e;exact⟨_,st,λv z=>by
   have z':Data.fields _=Data.cell v:=z;cases z'⟩
 keep:=λi h h' st k=>k it ae _ st
 item:=by
  intro X hP hw hK hc i pins s σ H E I hf st hg;subst hP hw hK;obtain⟨f0,f1,f2,f3,f4,f5⟩:=hf it ae
  have W:=Walks.range (prog:=X.prog) (w:=X.w) (I.ok.hd hc) it lo (-1) n;refine W.item i s _ _ hg st λv h' tk hv st' kk=> ?_
  obtain⟨t,rfl⟩:=hv;have I1:Inv X pins σ H {s with heap:=h',toks:=tk}:=I.turned (λb o hb e=>kk b o (by exists hb) e) f0 f1 f3 f4 f5
  refine⟨_,rfl,bV4 (s:={s with heap:=h',toks:=tk}) (n:="range_iterator") st' rfl rfl ac ⟨.int<|lo-i,H,I1,⟨t,?_⟩,⟨rfl,rfl⟩,st',λb hb=>(hf b hb).1⟩⟩
  rw[show lo+((i:Nat):Int)*(-1)=lo-(i:Int)by lia]
 done:=by
  intro X hP hw hK hc i pins s σ H E I hf st hg;subst hP hw hK;obtain⟨f0,f1,f2,f3,f4,f5⟩:=hf it ae
  exact wpAny_pyNext_range_end (I.ok.hd hc) st (by have:n<=i:=hg;lia) λh' eb=>⟨rfl,I.turned (t':=s.toks) (λb o hb e=>eb b o hb e) f0 f1 f3 f4 f5⟩
 self:=λ_ _ _ _ _ st h=>aO2 st h
section
variable {X:Cx}{tg:Expr}
theorem bX3 (a b:Int):Builtin.Range.rangeSize a b (-1)=(((a-b).toNat:Nat):Int):=by
 unfold Builtin.Range.rangeSize;rw[a7 ac]
 split<;>simp<;>lia
theorem small_down {a b:Int}(h1: -(2^31)<=a)(h2:a<2^31)(h3: -(2^31)<=b)(h4:b<2^31):Builtin.Range.small a b (-1)=true:=by
 unfold Builtin.Range.small;rw[bX3];simp[Builtin.Range.rangeFitsLong];omega
theorem cR0 {σ:St}{H:Hp}{R:It->Hp->Prop}{hi:Int}{t u v:Tok}(I:Inv X pins σ H s)(h1: -(2^31)<=lo)(h2:lo<2^31)(h3: -(2^31)<=hi)(h4:hi<2^31)
  (q:R (Itd lo (lo-hi).toNat) H):X∩(pyIter<|.ref s.heap.objs.size) (PIE X pins σ tg R) E {s with heap:=s.heap.push {cls:= .type "range",data:= .fields #[.int lo t,.int hi u,.int (-1) v]},toks:=tk}:=by
 refine aQ0 (uK ..) (small_down h1 h2 h3 h4) ?_
 have I1:Inv X pins σ H {s with heap:=s.heap.push {cls:= .type "range",data:= .fields #[.int lo t,.int hi u,.int (-1) v]},toks:=tk}:=I.kept λb o e=>aV _ e
 refine⟨(s.heap.push {cls:= .type "range",data:= .fields #[.int lo t,.int hi u,.int (-1) v]}).objs.size,[(s.heap.push {cls:= .type "range",data:= .fields #[.int lo t,.int hi u,.int (-1) v]}).objs.size],_,_,H,rfl,
  I1.kept (t':=tk) λb o e=>aV _ e,bX2 _ lo (lo-hi).toNat,?_,λb hb=> ?_,q⟩
 .have e1:lo+((0:Nat):Int)*(-1)=lo:=ae
  have e2:(((lo-hi).toNat:Nat):Int)-((0:Nat):Int)=Builtin.Range.rangeSize lo hi (-1):=by rw[bX3];simp
  show IsRangeIter _ _ (lo+((0:Nat):Int)*(-1)) ((((lo-hi).toNat:Nat):Int)-((0:Nat):Int)) (-1)
  rw[e1,e2];exact cC _ rfl
 .have e:b=(s.heap.push {cls:= .type "range",data:= .fields #[.int lo t,.int hi u,.int (-1) v]}).objs.size:=by exists hb
  subst e;exact I1.fpOk (aH _) (I1.hok.fresh<|aH _)
def iRngD (ta:TA):TI:=λσ H R=>ta σ H λvs H1=> ∃i j:Int,vs=[.int i,.int j,.int<|-1]/\(-(2^31)<=i/\i<2^31/\ -(2^31)<=j/\j<2^31)/\R (Itd i (i-j).toNat) H1
theorem d45 {a b:Expr}{ta:TA}(hg:Gl X "range")(hm:X.mg "range"=none)(ha:PA X [a,b,c] ta)(hs:↥(starEach [a,b,c] X.env=[(false,eval a X.env),(false,eval b X.env),(false,eval c X.env)]))(hs2:↥(starEach [b,c] X.env=[(false,eval b X.env),(false,eval c X.env)])) :
  PI X tg (.Call (.Name "range" p) [a,b,c] [] pos) (iRngD ta):=by
 intro pins s σ H R I h;refine Call_ (sP I hg hm uP<|jC (thn (ha pos pins s σ H _ I h) λus s1 ⟨vs,H1,I1,r1,q1⟩=> ?_) (by rw[hs,hs2]) (by rw[hs2];rfl))
 obtain⟨i,j,e,⟨q1,q2,q3,q4⟩,q⟩:=q1;subst e;cases r1 with
 | cons r rr=>
  cases rr with
  | cons r' rr=>
   cases rr with
   | cons r'' rr=>
    cases rr;obtain⟨t,rfl⟩:=r;obtain⟨t',rfl⟩:=r';obtain⟨t'',rfl⟩:=r'';exact call_range_3 ac (cR0 I1 q1 q2 q3 q4 q) (.inl (by
     unfold Builtin.divisionGoesByPylong;simp;intro hz;have:Nat.log2 1=0:=ac
     lia))
end
end L2
namespace M
section
variable {X:Cx}{K:PySem.W.Frag}{H:Hp}{pos:Pos}
theorem bX4 {A:AS}:cD0 K A H (Itd lo n) n (λi=> .int (lo-i)):=
 ⟨λ_ _ _ _ h=>h,λ_ _ i x H'' _ _ _ ⟨e,y⟩=>by subst e;subst y;exact⟨.refl _,by simp only[Rep]⟩,λ_ _ _=>aH n⟩
def b97 (ta:UA):UI:=λρ Q=>ta ρ λds ρ1=>match ds with
 | [.int i,.int j,.int m]=>m= -1/\(-(2^31)<=i/\i<2^31/\ -(2^31)<=j/\j<2^31)/\Q (i-j).toNat (λk=> .int (i-k)) ρ1
 | _=>False
theorem yO {a b:Expr}{ta:UA}(hg:Gl X "range")(hm:X.mg "range"=none)(ha:PUA X [a,b,c] ta)(hs:↥(starEach [a,b,c] X.env=[(false,eval a X.env),(false,eval b X.env),(false,eval c X.env)]))(hs2:↥(starEach [b,c] X.env=[(false,eval b X.env),(false,eval c X.env)])) :
  PUI X tg (.Call (.Name "range" p) [a,b,c] [] pos) (b97 ta):=
 aW4 (d45 hg hm ha hs hs2) λσ H R ⟨C,ρ,Q0,I,h,k⟩=>⟨C,ρ,_,I,h,λds ρ1 vs H1 q f s r=>by
  split at q
  .rename_i i j m
   obtain⟨v,vr,rfl,rv,rr⟩:=r.uncons;obtain⟨w,wr,rfl,rw',rr'⟩:=rr.uncons;obtain⟨z,zr,rfl,rz,rr''⟩:=rr'.uncons;have:=rr''.unnil;subst this;have:=bS rv;subst this;have:=bS rw';subst this;have:=bS rz;subst this;obtain⟨hm,hb,q⟩:=q;subst hm;exact⟨i,j,rfl,hb,k _ _ ρ1 _ H1 q f s bX4⟩
  .exact q.elim⟩
end
end M
end
section
namespace L2
section
variable {X:Cx}{pins:List (Addr×Obj)}{σ:St}{H:Hp}{s:Shared}{h':Heap}
theorem Inv.turnedNew {o:HO}(I:Inv X pins σ H s)(k: ∀b u,b ∉ ch->s.heap.get? b=some u->h'.get? b=some u)(hf: ∀b∈ch,aR9 X pins H b)
  (hp:s.heap.objs.size<=a) (new:rX X.prog X.w (upd H a o) h' a o):Inv X pins σ (upd H a o) {s with heap:=h',toks:=t'}:=by
 have hn:H a=none:=I.hok.fresh hp;have nch: ∀b u,H b=some u->b ∉ ch:=λb u e z=>by have:=(hf b z).1;rw[e]at this;cases this
 refine I.step (g':=s.gens) (d':=s.drawn) (ch:=ch) (λb hb=>⟨(hf b hb).2.2.2.1,(hf b hb).2.1,(hf b hb).2.2.2.2.1,(hf b hb).2.2.2.2.2⟩) (λb u _ _ hc e _=>k b u hc e) (λb u _ _ hc e _=>⟨u.slots,k b u hc e⟩)
  (λb u _ e n=>by rw[cL<|bK<|b9 (aW e) hp];exact n) (λb u hc e=>⟨u,k b u hc e⟩)
  (λb xs e=>by rw[cL<|dA e hn];exact e) (λb ob u e=>by rw[cL<|dA e hn];exact e) (λb ps e=>⟨#[],by rw[cL<|dA e hn,e];simp⟩) (λm hm=> ?_) (λb u e=> ?_) I.bare
 .obtain⟨ob,es,ep,ho,r⟩:=hm;exact⟨ob,es,ep,k _ ob (λz=>(hf _ z).2.1 rfl) ho,r⟩
 .by_cases hb:b=a
  .subst hb;rw[iY]at e;cases e;exact new
  .rw[cL hb]at e;refine(I.hok b u e).stay (λc v hc q=>k c v ?_ q) (λc q=>by rw[cL<|dA q hn];exact q) λc xs q=>by rw[cL<|dA q hn];exact q
   rcases hc with z|z
   .rw[z];exact nch b u e
   .exact nch c _ z
theorem Inv.turnedL (I:Inv X pins σ H s)(k: ∀b u,b ∉ ch->s.heap.get? b=some u->h'.get? b=some u)(hf: ∀b∈ch,aR9 X pins H b):Inv X pins σ H {s with heap:=h',toks:=t'}:=by
 have nch: ∀b u,H b=some u->b ∉ ch:=λb u e z=>by have:=(hf b z).1;rw[e]at this;cases this
 refine I.step (g':=s.gens) (d':=s.drawn) (ch:=ch) (λb hb=>⟨(hf b hb).2.2.2.1,(hf b hb).2.1,(hf b hb).2.2.2.2.1,(hf b hb).2.2.2.2.2⟩) (λb u _ _ hc e _=>k b u hc e) (λb u _ _ hc e _=>⟨u.slots,k b u hc e⟩)
  (λb u _ e n=>n) (λb u hc e=>⟨u,k b u hc e⟩) (λb xs e=>e) (λb ob u e=>e) (λb ps e=>⟨#[],by rw[e];simp⟩) (λm hm=> ?_) (λb u e=> ?_) I.bare
 .obtain⟨ob,es,ep,ho,r⟩:=hm;exact⟨ob,es,ep,k _ ob (λz=>(hf _ z).2.1 rfl) ho,r⟩
 .refine(I.hok b u e).stay (λc v hc q=>k c v ?_ q) (λc q=>q) λc xs q=>q
  rcases hc with z|z
  .rw[z];exact nch b u e
  .exact nch c _ z
end
def wC (T:Bool)(h:Heap)(a:Addr)(xs:Array Value):Prop:=match T with
 | false=>h.IsList a xs
 | true=>h.IsTuple a xs
def wD (T:Bool)(h:Heap)(it a:Addr)(i:Nat):Prop:=match T with
 | false=>h.IsListIter it a i
 | true=>h.IsTupleIter it a i
nonrec def aC2 (T:Bool)(a:Addr):Obj:=match T with
 | false=>{cls:= .type "list_iterator",data:= .fields #[.ref a,.int 0 0]}
 | true=>{cls:= .type "tuple_iterator",data:= .fields #[.ref a,.int 0 0]}
def SqV (K:PySem.W.Frag)(T:Bool)(H:Hp)(a:Addr)(xs:List V):Prop:=match T with
 | false=>SqL K H a xs
 | true=>SqT K H a xs
theorem wC.at (x:wC T h a xs)(e: ∀o,h.get? a=some o->h'.get? a=some o):wC T h' a xs:=by
 cases T<;>(obtain⟨o,ho,r⟩:=x;exact⟨o,e o ho,r⟩)
theorem wD.at (x:wD T h it a i)(e: ∀o,h.get? it=some o->h'.get? it=some o):wD T h' it a i:=by
 cases T<;>(obtain⟨o,ho,r⟩:=x;exact⟨o,e o ho,r⟩)
theorem wC.lt (x:wC T h a xs):a<h.objs.size:=by
 cases T<;>(obtain⟨o,ho,r⟩:=x;exact aW ho)
theorem wD.rec' (x:wD T h it a i): ∃o,h.get? it=some o/\ ∀v,o.data≠ .cell v:=by
 cases T<;>(obtain⟨o,ho,hc,hd⟩:=x;exact⟨o,ho,λv z=>by rw[hd]at z;cases z⟩)
theorem wD.new (h:Heap)(a:Addr):wD T (h.push<|aC2 T a) h.objs.size a 0:=by
 cases T<;>exact⟨_,cC _ rfl,rfl,rfl⟩
section
variable {X:Cx}{pins:List (Addr×Obj)}{σ:St}{H:Hp}{s:Shared}
theorem Inv.sq {xs:List V}(I:Inv X pins σ H s)(h:SqV X.K T H a xs): ∃its:List Value,Vals xs its/\wC T s.heap a its.toArray/\xs.length<=sizeLine:=by
 cases T with
 | false=>obtain⟨its,rv,p,hz⟩:=I.list h;exact⟨its,rv,p.isList,hz⟩
 | true=>obtain⟨its,rv,p,hz⟩:=I.tuple h;exact⟨its,rv,p,hz⟩
theorem Inv.sq_inj {xs ys:List V}(I:Inv X pins σ H s)(h:SqV X.K T H a xs)(h':SqV X.K T H a ys):xs=ys:=by
 cases T with
 | false=>exact I.list_inj h h'
 | true=>exact I.tuple_inj h h'
end
section
variable {prog:Program}{w:World}{A:Around}{E:Value->Shared->Prop}{s:Shared}
theorem aI9 (hl:wC T s.heap a xs)(hQ:Q (.ref s.heap.objs.size) {s with heap:=s.heap.push (aC2 T a)}) :
  wpAny (model prog w) A (pyIter<|.ref a) Q E s:=by
 cases T with
 | false=>exact aQ6 hl hQ
 | true=>exact aQ2 hl hQ
theorem dE7 {x:Value}(hit:s.heap.IsTupleIter it t i)(ht:s.heap.IsTuple t items)(hx:items[i]? =some x)
  (hQ: ∀h',h'.IsTupleIter it t (i+1)->SameBut it s.heap h'->Q x {s with heap:=h'}):wpAny (model prog w) A (Builtin.SmallTypes.nextOf<|.ref it) Q E s:=by
 obtain⟨oi,hoi,hci,hdi⟩:=id hit;obtain⟨ot,hot,_,nt,hdt⟩:=ht;unfold Builtin.SmallTypes.nextOf;refine aA (lL (name:=Str.ofString "__next__") hit.typeIs zR<|jI zR hit.typeIs PySem.F.entry_tuple_iterator_next ?_<|PySem.F.args_tuple_iterator_next_1 _);show wpAny _ _ (field (.ref it) 0 >>= _) _ _ s;refine aA (d6 hoi hdi (x:= .ref t) rfl ?_)
 show wpAny _ _ (if(Value.ref t==Value.none)=true then _ else _) _ _ s;rw[a7<|show ¬((Value.ref t==Value.none)=true)from bN]
 show wpAny _ _ (field (.ref it) 1 >>= _) _ _ s;refine aA (d6 hoi hdi (x:= .int i 0) rfl ?_)
 show wpAny _ _ (seqItems? (.ref t) >>= _) _ _ s;refine aA (lQ hot hdt ?_)
 simp only[cD,hx];refine aA (uG hoi hdi ae<|aL ⟨x,rfl,aL<|hQ _ ⟨_,pW _ hoi<|aO8<|qD hdi _,(Obj.cls_mapFields ..).trans hci,?_⟩<|uA ..⟩)
 rw[qD hdi];simp[rawInt]
theorem d46 (hh:A.handled=none)(hit:s.heap.IsTupleIter it t i)(ht:s.heap.IsTuple t items)(hx:items[i]? =none)
  (hE: ∀h' e,ExtBut it s.heap h'->(∃o,h'.get? e=some o/\o.cls= .type "StopIteration")->E (.ref e) {s with heap:=h'}):wpAny (model prog w) A (Builtin.SmallTypes.nextOf<|.ref it) Q E s:=by
 obtain⟨oi,hoi,hci,hdi⟩:=id hit;obtain⟨ot,hot,_,nt,hdt⟩:=ht;unfold Builtin.SmallTypes.nextOf;refine aA (lL (name:=Str.ofString "__next__") hit.typeIs zR<|jI zR hit.typeIs PySem.F.entry_tuple_iterator_next ?_<|PySem.F.args_tuple_iterator_next_1 _);show wpAny _ _ (field (.ref it) 0 >>= _) _ _ s;refine aA (d6 hoi hdi (x:= .ref t) rfl ?_)
 show wpAny _ _ (if(Value.ref t==Value.none)=true then _ else _) _ _ s;rw[a7<|show ¬((Value.ref t==Value.none)=true)from bN]
 show wpAny _ _ (field (.ref it) 1 >>= _) _ _ s;refine aA (d6 hoi hdi (x:= .int i 0) rfl ?_)
 show wpAny _ _ (seqItems? (.ref t) >>= _) _ _ s;refine aA (lQ hot hdt ?_)
 simp only[cD,hx];refine aA (lW<|aA<|uG hoi hdi ae ?_)
 show wpAny _ _ (newExc (.type "StopIteration") [] >>= _) _ _ _;refine aA ?_;simp only[newExc,newTuple];refine aA (jG ?_<|by size_fits)
 refine aA (m:=firstArgMember _ _) (jM (a:=Value.none) (by first|rfl| (simp only[firstArgMember];rfl)) ?_);refine jG ?_ (by size_fits)
 simp only[raiseNew];refine aA (wpAny_handled ?_);first|rw[show A.in1.handled=none from hh]|rw[hh]
 exact aA (aL<|wpAny_throw<|hE _ _ (((uA ..).extBut.push _).push _) ⟨_,cC _ rfl,rfl⟩)
theorem bE1 {T:Bool}{it a:Addr}{i:Nat}{xs:Array Value}{x:Value}{Q:Value->Shared->Prop}(hit:wD T s.heap it a i)(hl:wC T s.heap a xs)(hx:xs[i]? =some x)
  (hQ: ∀h',wD T h' it a (i+1)->SameBut it s.heap h'->Q x {s with heap:=h'}):wpAny (model prog w) A (Builtin.SmallTypes.nextOf<|.ref it) Q E s:=by
 cases T with
 | false=>exact wpAny_nextOf_list_item hit hl hx hQ
 | true=>exact dE7 hit hl hx hQ
theorem bH3 {T:Bool}{it a:Addr}{i:Nat}{xs:Array Value}{Q:Value->Shared->Prop}(hh:A.handled=none)(hit:wD T s.heap it a i)(hl:wC T s.heap a xs)(hx:xs[i]? =none)
  (hE: ∀h' e,ExtBut it s.heap h'->(∃o,h'.get? e=some o/\o.cls= .type "StopIteration")->E (.ref e) {s with heap:=h'}):wpAny (model prog w) A (Builtin.SmallTypes.nextOf<|.ref it) Q E s:=by
 cases T with
 | false=>exact wpAny_nextOf_list_end hh hit hl hx hE
 | true=>exact d46 hh hit hl hx hE
end
structure ZSt (T1 T2:Bool)(z TI TO i1 i2 l1 l2:Addr)(f0:Value)(i:Nat)(h:Heap):Prop where
 hz:IsZip h z TI TO f0
 hI:IsPair h TI (.ref i1) (.ref i2)
 hO: ∃a b,IsPair h TO a b
 h1:wD T1 h i1 l1 i
 h2:wD T2 h i2 l2 i
structure ZAp (z TI TO i1 i2:Addr):Prop where
 a:TI≠z
 b:TO≠z
 c:i1≠z
 d:i2≠z
 e:TI≠TO
 f:TI≠i1
 g:TI≠i2
 h:TO≠i1
 i:TO≠i2
 j:i1≠i2
section
variable {prog:Program}{w:World}{A:Around}{E:Value->Shared->Prop}{s:Shared}{T1 T2:Bool}{z TI TO i1 i2 l1 l2:Addr}{k:Nat}{xs ys:Array Value}
theorem dE8 {x y:Value}(D:ZAp z TI TO i1 i2)(n1:l1 ∉ [z,TI,TO,i1,i2])(n2:l2 ∉ [z,TI,TO,i1,i2])(st:ZSt T1 T2 z TI TO i1 i2 l1 l2 .none k s.heap)
  (hl1:wC T1 s.heap l1 xs) (hl2:wC T2 s.heap l2 ys) (hx:xs[k]? =some x) (hy:ys[k]? =some y)
  (hQ: ∀h',ZSt T1 T2 z TI TO i1 i2 l1 l2 (rawInt s.heap.objs.size) (k+1) h'->IsPair h' s.heap.objs.size x y->(∀c o,c ∉ [z,TI,TO,i1,i2]->s.heap.get? c=some o->h'.get? c=some o)->Q (.ref s.heap.objs.size) {s with heap:=h'}) :
  wpAny (model prog w) A (Builtin.«zip.__next__» ⟨[.ref z],[]⟩) (λfin s'=> ∃v,fin= .done (.ret v)/\Q v s') E s:=by
 obtain⟨hz,hI,⟨a0,b0,hO⟩,h1,h2⟩:=st;simp only[aZ,eS,eU,not_or]at n1 n2;show wpAny _ _ (field (.ref z) 2 >>= _) _ _ _;refine aA (d6 hz rfl (x:= .bool false) rfl ?_);show wpAny _ _ (field (.ref z) 3 >>= _) _ _ _;refine aA (d6 hz rfl (x:= .ref TI) rfl ?_);refine aA (lQ hI rfl ?_);show wpAny _ _ (Builtin.SmallTypes.ownedTupleIsFree (.ref z) >>= _) _ _ _
 refine aA ?_;unfold Builtin.SmallTypes.ownedTupleIsFree;refine aA (d6 hz rfl (x:= .none) rfl (aL ?_))
 simp only[eA];refine aA (lW ?_);refine aA (d6 hz rfl (x:= .ref TO) rfl ?_);refine aA (qE hz ae λg1 z1 m1=> ?_);replace z1:IsZip g1 z TI TO .ellipsis:=z1
 refine aA ?_;simp only[List.zipIdx_cons,List.zipIdx_nil,a16,forIn_nil]
 refine aA (aA<|a21 ?_);show wpAny _ _ (Builtin.SmallTypes.nextOf (.ref i1) >>= _) _ _ _
 refine aA (bE1 (s:={s with heap:=g1}) (h1.at λo e=>m1.extBut _ _ D.c e) (hl1.at λo e=>m1.extBut _ _ n1.1 e) hx λg2 p2 m2=>aL ?_)
 have o2:IsPair g2 TO a0 b0:=m2.extBut _ _ D.h (m1.extBut _ _ D.b hO);refine aA (lQ o2 rfl ?_);refine aA (aP2 o2 λg3 o3 m3=> ?_);replace o3:IsPair g3 TO x b0:=o3
 refine aA (wpAny_letGo<|aL ?_)
 refine aA (aA<|a21 ?_);show wpAny _ _ (Builtin.SmallTypes.nextOf (.ref i2) >>= _) _ _ _
 refine aA (bE1 (s:={s with heap:=g3}) (h2.at λo e=>m3.extBut _ _ D.i.symm (m2.extBut _ _ D.j.symm<|m1.extBut _ _ D.d e)) (hl2.at λo e=>m3.extBut _ _ n2.2.2.1 (m2.extBut _ _ n2.2.2.2.1<|m1.extBut _ _ n2.1 e)) hy λg4 p4 m4=>aL ?_)
 have o4:IsPair g4 TO x b0:=m4.extBut _ _ D.i o3;refine aA (lQ o4 rfl ?_);refine aA (aP2 o4 λg5 o5 m5=> ?_);replace o5:IsPair g5 TO x y:=o5
 refine aA (wpAny_letGo<|aL<|aL ?_)
 refine aA (lQ o5 rfl ?_);refine aA (wpAny_newTuple ?_)
 have sz:g5.objs.size=s.heap.objs.size:=by rw[m5.1,m4.1,m3.1,m2.1,m1.1]
 have z5:IsZip g5 z TI TO .ellipsis:=m5.extBut _ _ D.b.symm (m4.extBut _ _ D.d.symm<|m3.extBut _ _ D.b.symm<|m2.extBut _ _ D.c.symm z1);have keep5: ∀c o,c≠z->c≠TO->c≠i1->c≠i2->s.heap.get? c=some o->g5.get? c=some o:=λc o c1 c2 c3 c4 e=>m5.extBut _ _ c2 (m4.extBut _ _ c4<|m3.extBut _ _ c2<|m2.extBut _ _ c3<|m1.extBut _ _ c1 e)
 have q1:wD T1 g5 i1 l1 (k+1):=p2.at λo e=>m5.extBut _ _ D.h.symm (m4.extBut _ _ D.j<|m3.extBut _ _ D.h.symm e)
 have q2:wD T2 g5 i2 l2 (k+1):=p4.at λo e=>m5.extBut _ _ D.i.symm e
 have zl:z<g5.objs.size:=aW z5;show wpAny _ _ (Builtin.SmallTypes.ownedTupleHandOut (.ref z) (.ref g5.objs.size) >>= _) _ _ _;refine aA ?_;unfold Builtin.SmallTypes.ownedTupleHandOut;have z6:IsZip (g5.push {cls:= .type "tuple",data:= .seq #[x,y]}) z TI TO .ellipsis:=aV _ z5;refine aA (qE z6 ae λg7 z7 m7=> ?_);replace z7:IsZip g7 z TI TO (rawInt g5.objs.size):=z7
 refine qE z7 ae λg8 z8 m8=> ?_;replace z8:IsZip g8 z TI TO (rawInt g5.objs.size):=z8
 have up: ∀c o,c≠z->g5.get? c=some o->g8.get? c=some o:=λc o c1 e=>m8.extBut _ _ c1 (m7.extBut _ _ c1<|aV _ e)
 have t8:IsPair g8 g5.objs.size x y:=m8.extBut _ _ (qP zl) (m7.extBut _ _ (qP zl)<|cC _ rfl);rw[sz]at z8 t8;refine aL ⟨_,rfl,?_⟩;show Q (.ref g5.objs.size) _;rw[sz];refine hQ g8 ⟨z8,up _ _ D.a<|keep5 _ _ D.a D.e D.f D.g hI,⟨x,y,up _ _ D.b o5⟩,q1.at λo e=>up _ _ D.c e,q2.at λo e=>up _ _ D.d e⟩ t8 λc o nc e=> ?_
 simp only[aZ,eS,eU,not_or]at nc;exact up c o nc.1 (keep5 c o nc.1 nc.2.2.1 nc.2.2.2.1 nc.2.2.2.2 e)
theorem d47 {Q:Fin->Shared->Prop}(hh:A.handled=none)(D:ZAp z TI TO i1 i2)(n1:l1 ∉ [z,TI,TO,i1,i2])(n2:l2 ∉ [z,TI,TO,i1,i2])(st:ZSt T1 T2 z TI TO i1 i2 l1 l2 .none k s.heap)
  (hl1:wC T1 s.heap l1 xs) (hl2:wC T2 s.heap l2 ys) (hend:xs[k]? =none\/ys[k]? =none)
  (hE: ∀h' e,(∀c o,c ∉ [z,TI,TO,i1,i2]->s.heap.get? c=some o->h'.get? c=some o)->(∃o,h'.get? e=some o/\o.cls= .type "StopIteration")->E (.ref e) {s with heap:=h'}) :
  wpAny (model prog w) A (Builtin.«zip.__next__» ⟨[.ref z],[]⟩) Q E s:=by
 obtain⟨hz,hI,⟨a0,b0,hO⟩,h1,h2⟩:=st;simp only[aZ,eS,eU,not_or]at n1 n2;have nin: ∀c,c ∉ [z,TI,TO,i1,i2]->c≠z/\c≠TI/\c≠TO/\c≠i1/\c≠i2:=λc h=>by simpa only[aZ,eS,eU,not_or]using h
 show wpAny _ _ (field (.ref z) 2 >>= _) _ _ _;refine aA (d6 hz rfl (x:= .bool false) rfl ?_)
 show wpAny _ _ (field (.ref z) 3 >>= _) _ _ _;refine aA (d6 hz rfl (x:= .ref TI) rfl ?_)
 refine aA (lQ hI rfl ?_);show wpAny _ _ (Builtin.SmallTypes.ownedTupleIsFree (.ref z) >>= _) _ _ _
 refine aA ?_;unfold Builtin.SmallTypes.ownedTupleIsFree;refine aA (d6 hz rfl (x:= .none) rfl (aL ?_))
 simp only[eA];refine aA (lW ?_);refine aA (d6 hz rfl (x:= .ref TO) rfl ?_);refine aA (qE hz ae λg1 z1 m1=> ?_);replace z1:IsZip g1 z TI TO .ellipsis:=z1
 refine aA ?_;simp only[List.zipIdx_cons,List.zipIdx_nil,a16,forIn_nil]
 refine aA (aA<|a21 ?_);show wpAny _ _ (Builtin.SmallTypes.nextOf (.ref i1) >>= _) _ _ _
 cases hx:xs[k]? with
 | none=>
  refine aA (bH3 (s:={s with heap:=g1}) hh (h1.at λo e=>m1.extBut _ _ D.c e) (hl1.at λo e=>m1.extBut _ _ n1.1 e) hx λg2 e m2 he=> ?_)
  obtain⟨oe,hoe,hce⟩:=he;have z2:IsZip g2 z TI TO .ellipsis:=m2 _ _ D.c.symm z1;have ez:e≠z:=λq=>by subst q;rw[z2]at hoe;cases hoe;simp at hce
  refine qE z2 ae λg3 _ m3=>hE g3 e (λc o nc q=> ?_) ⟨oe,m3.extBut _ _ ez hoe,hce⟩
  obtain⟨c1,c2,c3,c4,c5⟩:=nin c nc;exact m3.extBut _ _ c1 (m2 _ _ c4<|m1.extBut _ _ c1 q)
 | some x=>
  have hy:ys[k]? =none:=by rcases hend with q|q;(rw[hx]at q;cases q);exact q
  refine aA (bE1 (s:={s with heap:=g1}) (h1.at λo e=>m1.extBut _ _ D.c e) (hl1.at λo e=>m1.extBut _ _ n1.1 e) hx λg2 p2 m2=>aL ?_)
  have o2:IsPair g2 TO a0 b0:=m2.extBut _ _ D.h (m1.extBut _ _ D.b hO);refine aA (lQ o2 rfl ?_);refine aA (aP2 o2 λg3 o3 m3=> ?_)
  refine aA (wpAny_letGo<|aL ?_);refine aA (aA<|a21 ?_);show wpAny _ _ (Builtin.SmallTypes.nextOf (.ref i2) >>= _) _ _ _
  refine aA (bH3 (s:={s with heap:=g3}) hh (h2.at λo e=>m3.extBut _ _ D.i.symm (m2.extBut _ _ D.j.symm<|m1.extBut _ _ D.d e)) (hl2.at λo e=>m3.extBut _ _ n2.2.2.1 (m2.extBut _ _ n2.2.2.2.1<|m1.extBut _ _ n2.1 e)) hy λg4 e m4 he=> ?_)
  obtain⟨oe,hoe,hce⟩:=he;have z4:IsZip g4 z TI TO .ellipsis:=m4 _ _ D.d.symm (m3.extBut _ _ D.b.symm<|m2.extBut _ _ D.c.symm z1);have ez:e≠z:=λq=>by subst q;rw[z4]at hoe;cases hoe;simp at hce
  refine qE z4 ae λg5 _ m5=>hE g5 e (λc o nc q=> ?_) ⟨oe,m5.extBut _ _ ez hoe,hce⟩
  obtain⟨c1,c2,c3,c4,c5⟩:=nin c nc;exact m5.extBut _ _ c1 (m4 _ _ c5<|m3.extBut _ _ c3<|m2.extBut _ _ c4<|m1.extBut _ _ c1 q)
end
nonrec def Itz (K:PySem.W.Frag)(T1 T2:Bool)(l1 l2:Addr):It where
 go:=λi H=> ∃xs ys x y,SqV K T1 H l1 xs/\SqV K T2 H l2 ys/\xs[i]? =some x/\ys[i]? =some y
 yld:=λi H v H'=> ∃T x y,v= .ref T/\H T=none/\H'=upd H T (.tup [x,y])/\(∀xs,SqV K T1 H l1 xs->xs[i]? =some x)/\ ∀ys,SqV K T2 H l2 ys->ys[i]? =some y
 stop:=λi H=> ∃xs ys,SqV K T1 H l1 xs/\SqV K T2 H l2 ys/\(xs.length<=i\/ys.length<=i)
theorem ZSt.objs {z TI TO i1 i2:Addr}{f0:Value}(st:ZSt T1 T2 z TI TO i1 i2 l1 l2 f0 i h): ∀b∈[z,TI,TO,i1,i2],∃o,h.get? b=some o/\ ∀v,o.data≠ .cell v:=λb hb=>by
 obtain⟨hz,hI,⟨a,c,hO⟩,h1,h2⟩:=st;simp only[aZ,eS,eU]at hb;rcases hb with rfl|rfl|rfl|rfl|rfl
 .exact⟨_,hz,λv q=>by cases q⟩
 .exact⟨_,hI,λv q=>by cases q⟩
 .exact⟨_,hO,λv q=>by cases q⟩
 .exact h1.rec'
 .exact h2.rec'
theorem cD7:2<=sizeLine:=ac
theorem dE9 {z TI TO i1 i2:Addr}(D:ZAp z TI TO i1 i2)(n1:l1 ∉ [z,TI,TO,i1,i2])(n2:l2 ∉ [z,TI,TO,i1,i2]) :
  c37 P w K (.Tuple elts kt tp) (Itz K T1 T2 l1 l2) [z,TI,TO,i1,i2] z (ZSt T1 T2 z TI TO i1 i2 l1 l2 .none) where
 mem:=ae
 obj:=λi h st b hb=>st.objs b hb
 keep:=λi h h' st k=>by
  obtain⟨hz,hI,⟨a,c,hO⟩,h1,h2⟩:=st;exact⟨k z ae _ hz,k TI ae _ hI,⟨a,c,k TO ae _ hO⟩,h1.at λo e=>k i1 ae o e,h2.at λo e=>k i2 ae o e⟩
 item:=by
  intro X hP hw hK hc i pins s σ H E I hf st hg;subst hP hw hK;obtain⟨xs,ys,x,y,q1,q2,e1,e2⟩:=hg;obtain⟨is1,r1,p1,_⟩:=I.sq q1;obtain⟨is2,r2,p2,_⟩:=I.sq q2;obtain⟨u1,hu1,ru1⟩:=r1.get e1;obtain⟨u2,hu2,ru2⟩:=r2.get e2;have hT:s.TypeIs (.ref z) "zip":=⟨_,st.hz,rfl⟩;unfold pyNext
  refine aA (nY<|lL (name:=Str.ofString "__next__") hT zZ<|jI zZ hT PySem.F.entry_zip_next (dE8 D n1 n2 st p1 p2 (by exists hu1) (by exists hu2) λh' st' ht k=>aL ?_)<|PySem.F.args_zip_next_1 _)
  refine⟨_,rfl,wpAny_letOwnedTupleGo_zip st'.hz λh2 hz2 m=> ?_⟩
  have kk: ∀b u,b ∉ [z,TI,TO,i1,i2]->s.heap.get? b=some u->h2.get? b=some u:=λb u nb e=>m.extBut _ _ (λq=>nb (by simp[q])) (k b u nb e)
  have hne:s.heap.objs.size≠z:=qP (aW st.hz);have ht2:IsPair h2 s.heap.objs.size u1 u2:=m.extBut _ _ hne ht;obtain⟨a',c',hO'⟩:=st'.hO;refine⟨.ref s.heap.objs.size,upd H s.heap.objs.size<|.tup [x,y],I.turnedNew (t':=s.toks) kk hf (aH _) ⟨cD7,[u1,u2],.cons ru1<|.cons ru2 .nil,⟨_,ht2,rfl,_,rfl⟩⟩,rfl,
   ⟨_,x,y,rfl,I.hok.fresh<|aH _,rfl,λxs' q=>by rw[I.sq_inj q q1];exact e1,λys' q=>by rw[I.sq_inj q q2];exact e2⟩,⟨hz2,m.extBut _ _ D.a st'.hI,⟨a',c',m.extBut _ _ D.b hO'⟩,st'.h1.at λo e=>m.extBut _ _ D.c e,st'.h2.at λo e=>m.extBut _ _ D.d e⟩,λb hb=> ?_⟩
  obtain⟨o,ho,_⟩:=st.objs b hb;rw[cL<|bK<|aW ho];exact(hf b hb).1
 done:=by
  intro X hP hw hK hc i pins s σ H E I hf st hg;subst hP hw hK;obtain⟨xs,ys,q1,q2,hs⟩:=hg;obtain⟨is1,r1,p1,_⟩:=I.sq q1;obtain⟨is2,r2,p2,_⟩:=I.sq q2;have l1':=r1.length;have l2':=r2.length;have hT:s.TypeIs (.ref z) "zip":=⟨_,st.hz,rfl⟩;unfold pyNext
  refine aA (nY<|lL (name:=Str.ofString "__next__") hT zZ<|jI zZ hT PySem.F.entry_zip_next (d47 (I.ok.hd hc) D n1 n2 st p1 p2 (by simp;omega) λh' e k he=> ?_)<|PySem.F.args_zip_next_1 _)
  obtain⟨o,ho,hc'⟩:=he;exact aA (wpAny_isInstance (T:="StopIteration") (b:=true) ⟨o,ho,hc'⟩ isSubtype_stop<|aL ⟨rfl,I.turnedL (t':=s.toks) k hf⟩)
 self:=λ_ _ _ _ _ st h=>wpAny_pyIter_zip st.hz h
noncomputable abbrev zg1 (T1:Bool)(h:Heap)(l1:Addr):Heap:=h.push (aC2 T1 l1)
noncomputable abbrev zg2 (T1 T2:Bool)(h:Heap)(l1 l2:Addr):Heap:=(zg1 T1 h l1).push (aC2 T2 l2)
noncomputable abbrev zg3 (T1 T2:Bool)(h:Heap)(l1 l2:Addr):Heap:=(zg2 T1 T2 h l1 l2).push {cls:= .type "tuple",data:= .seq #[.ref h.objs.size,.ref (zg1 T1 h l1).objs.size]}
noncomputable abbrev zg4 (T1 T2:Bool)(h:Heap)(l1 l2:Addr):Heap:=(zg3 T1 T2 h l1 l2).push {cls:= .type "tuple",data:= .seq #[.none,.none]}
noncomputable abbrev zg5 (T1 T2:Bool)(h:Heap)(l1 l2:Addr):Heap:=(zg4 T1 T2 h l1 l2).push {cls:= .type "zip",data:= .fields #[.none,.bool false,.bool false,.ref (zg2 T1 T2 h l1 l2).objs.size,.ref (zg3 T1 T2 h l1 l2).objs.size]}
theorem dV2 (T1 T2:Bool)(l1 l2:Addr)(xs ys:Array Value):Meets (Builtin.«zip.__new__» ⟨[.type "zip",.ref l1,.ref l2],[]⟩) (λ_ R s=>wC T1 s.heap l1 xs/\wC T2 s.heap l2 ys/\
  R (.ok<|.ret<|.ref (zg4 T1 T2 s.heap l1 l2).objs.size) {s with heap:=zg5 T1 T2 s.heap l1 l2}):= .of_wp λprog w A R s h=>by
 obtain⟨hp,g,d,tk,os⟩:=s;obtain⟨hl1,hl2,h⟩:=h;have hsub:=sub_zip;have e1:wC T1 (Shared.heap ⟨hp,g,d,tk,os⟩) l1 xs:=hl1;have e2:wC T2 (Shared.heap ⟨hp.push<|aC2 T1 l1,g,d,tk,os⟩) l2 ys:=hl2.at λo e=>aV _ e
 wp_walk using aI9 e1,aI9 e2
 exact⟨_,rfl,h⟩
section
variable {prog:Program}{w:World}{A:Around}{E:Value->Shared->Prop}{s:Shared}
theorem dF0 {ys:Array Value}(hl1:wC T1 s.heap l1 xs)(hl2:wC T2 s.heap l2 ys)
  (h: ∀h' z TI TO i1 i2,ZAp z TI TO i1 i2->(∀b∈[z,TI,TO,i1,i2],s.heap.objs.size<=b)->ZSt T1 T2 z TI TO i1 i2 l1 l2 .none 0 h'->(∀c o,s.heap.get? c=some o->h'.get? c=some o)->Q (.ref z) {s with heap:=h'}) :
  wpAny (model prog w) A (call (.type "zip") [.ref l1,.ref l2]) Q E s:=by
 refine callType_new PySem.F.called_zip ac (PySem.F.typeCall_zip_2 _ _) (PySem.F.newCall_zip_2 _ _) (λobj=>PySem.F.args_object_init_3 obj _ _) PySem.F.entry_zip_new (dV2 T1 T2 l1 l2 xs ys) ⟨hl1,hl2,?_⟩
 have z1:(zg1 T1 s.heap l1).objs.size=s.heap.objs.size+1:=jJ ..;have z2:(zg2 T1 T2 s.heap l1 l2).objs.size=s.heap.objs.size+2:=by rw[jJ,z1]
 have z3:(zg3 T1 T2 s.heap l1 l2).objs.size=s.heap.objs.size+3:=by rw[jJ,z2]
 have z4:(zg4 T1 T2 s.heap l1 l2).objs.size=s.heap.objs.size+4:=by rw[jJ,z3]
 have g5:(zg5 T1 T2 s.heap l1 l2).get? (zg4 T1 T2 s.heap l1 l2).objs.size=some _:=cC _ rfl;have g4:(zg5 T1 T2 s.heap l1 l2).get? (zg3 T1 T2 s.heap l1 l2).objs.size=some _:=aV _ (cC _ rfl);have g3:(zg5 T1 T2 s.heap l1 l2).get? (zg2 T1 T2 s.heap l1 l2).objs.size=some _:=aV _ (aV _<|cC _ rfl)
 have s2:wD T2 (zg5 T1 T2 s.heap l1 l2) (zg1 T1 s.heap l1).objs.size l2 0:=(wD.new (zg1 T1 s.heap l1) l2).at λo e=>aV _ (aV _<|aV _ e)
 have s1:wD T1 (zg5 T1 T2 s.heap l1 l2) s.heap.objs.size l1 0:=(wD.new s.heap l1).at λo e=>aV _ (aV _<|aV _<|aV _ e)
 have ap:ZAp (zg4 T1 T2 s.heap l1 l2).objs.size (zg2 T1 T2 s.heap l1 l2).objs.size (zg3 T1 T2 s.heap l1 l2).objs.size s.heap.objs.size (zg1 T1 s.heap l1).objs.size:=by
  rw[z1,z2,z3,z4];have k: ∀n a b:Nat,a≠b->n+a≠n+b:=λn a b h=>aa
  exact⟨k _ 2 4 ac,k _ 3 4 ac,k _ 0 4 ac,k _ 1 4 ac,k _ 2 3 ac,k _ 2 0 ac,k _ 2 1 ac,k _ 3 0 ac,k _ 3 1 ac,k _ 0 1 ac⟩
 refine⟨⟨_,g5,rfl⟩,h _ _ _ _ _ _ ap (λb hb=> ?_) ⟨g5,g3,⟨_,_,g4⟩,s1,s2⟩ λc o e=>aV _ (aV _<|aV _<|aV _<|aV _ e)⟩
 rw[z1,z2,z3,z4]at hb;simp only[aZ,eS,eU]at hb;rcases hb with rfl|rfl|rfl|rfl|rfl<;>omega
end
section
variable {X:Cx}
def iZip (K:PySem.W.Frag)(ta:TA):TI:=λσ H R=>ta σ H λvs H1=> ∃l1 l2 T1 T2 xs ys,vs=[.ref l1,.ref l2]/\SqV K T1 H1 l1 xs/\SqV K T2 H1 l2 ys/\R (Itz K T1 T2 l1 l2) H1
theorem pi_zip {a b:Expr}{ta:TA}(hg:Gl X "zip")(hm:X.mg "zip"=none)(ha:PA X [a,b] ta)(hs:↥(starEach [a,b] X.env=[(false,eval a X.env),(false,eval b X.env)]))(hs2:↥(starEach [b] X.env=[(false,eval b X.env)])) :
  PI X (.Tuple elts kt tp) (.Call (.Name "zip" p) [a,b] [] pos) (iZip X.K ta):=by
 intro pins s σ H R I h;refine Call_ (sP I hg hm PyProof.Rows.boot_zip<|jC (thn (ha pos pins s σ H _ I h) λus s1 ⟨vs,H1,I1,r1,q1⟩=> ?_) (by rw[hs,hs2]) (by rw[hs2];rfl))
 obtain⟨l1,l2,T1,T2,xs,ys,e,q1,q2,q⟩:=q1;subst e;obtain⟨u,v,rfl,r,r'⟩:=Vals.two r1;cases r;cases r';obtain⟨is1,_,p1,_⟩:=I1.sq q1;obtain⟨is2,_,p2,_⟩:=I1.sq q2;refine dF0 p1 p2 λh' z TI TO i1 i2 ap fr st k=>wpAny_pyIter_zip st.hz ?_
 have nl: ∀l,l<s1.heap.objs.size->l ∉ [z,TI,TO,i1,i2]:=λl hl hb=>absurd (b9 hl<|fr l hb) (dJ _)
 exact⟨z,[z,TI,TO,i1,i2],_,_,H1,rfl,I1.kept (t':=s1.toks) k,dE9 ap (nl l1 p1.lt)<|nl l2 p2.lt,st,λb hb=>I1.fpOk (fr b hb) (I1.hok.fresh<|fr b hb),q⟩
end
theorem cD8 (hh:A.handled=none)(it a:Addr)(hne:a≠it)(xs:Array Value):Draws prog w A it [it,a] xs.size (λi v=>xs[i]? =some v) (λi h=>wD T h it a i/\wC T h a xs) where
 live:=λ_ _ st=>let ⟨o,ho,_⟩:=st.1.rec';⟨o,ho⟩
 frame:=λ_ _ _ st k=>⟨st.1.at λo e=>k it ae o e,st.2.at λo e=>k a ae o e⟩
 item:=λi s Q E hi st hQ=>bE1 st.1 st.2 (x:=xs[i]) (by simp[hi]) λh' hit' m=>hQ _ h' s.toks (by simp[hi]) ⟨hit',st.2.at λo e=>m.extBut _ _ hne e⟩ m
 done:=λs Q E st hE=>bH3 hh st.1 st.2 ae hE
nonrec def Ite (K:PySem.W.Frag)(T:Bool)(l:Addr):It where
 go:=λi H=> ∃xs x,SqV K T H l xs/\xs[i]? =some x
 yld:=λi H v H'=> ∃Tn x,v= .ref Tn/\H Tn=none/\H'=upd H Tn (.tup [.int (i:Int),x])/\ ∀xs,SqV K T H l xs->xs[i]? =some x
 stop:=λi H=> ∃xs,SqV K T H l xs/\xs.length=i
def ESt (T:Bool)(e it l:Addr)(i:Nat)(h:Heap):Prop:=(∃old,IsEnum h e it i old)/\wD T h it l i
theorem ESt.objs {e:Addr}(st:ESt T e it l i h): ∀b∈[e,it],∃o,h.get? b=some o/\ ∀v,o.data≠ .cell v:=λb hb=>by
 obtain⟨⟨old,he⟩,h1⟩:=st;simp only[aZ,eS,eU]at hb;rcases hb with rfl|rfl
 .exact⟨_,he,λv q=>by cases q⟩
 .exact h1.rec'
theorem d48 {e:Addr}(hei:e≠it)(nl:l ∉ [e,it]):c37 P w K (.Tuple elts kt tp) (Ite K T l) [e,it] e (ESt T e it l) where
 mem:=ae
 obj:=λi h st b hb=>st.objs b hb
 keep:=λi h h' st k=>by
  obtain⟨⟨old,he⟩,h1⟩:=st;exact⟨⟨old,k e ae _ he⟩,h1.at λo q=>k it ae o q⟩
 item:=by
  intro X hP hw hK hc i pins s σ H E I hf st hg;subst hP hw hK;obtain⟨xs,x,q1,e1⟩:=hg;obtain⟨is1,r1,p1,_⟩:=I.sq q1;obtain⟨u1,hu1,ru1⟩:=r1.get e1;simp only[aZ,eS,eU,not_or]at nl;obtain⟨⟨old,he⟩,h1⟩:=id st;have hi:i<is1.toArray.size:=by rw[bG];exact(jD.mp hu1).1
  have D:=cD8 (prog:=X.prog) (w:=X.w) (A:=X.A.in1) (T:=T) (I.ok.hd hc) it l nl.2 is1.toArray;refine wpAny_pyNext_enum_itemD D he ⟨h1,p1⟩ hi hei (by simp[hei,Ne.symm nl.1]) λv h' tk hv ho hs' ht hsz k=>⟨_,rfl,wpAny_letOwnedTupleGo_enum ho λh2 he2 m=> ?_⟩
  have ev:v=u1:=by
   have:is1.toArray[i]? =some u1:=by exists hu1
   rw[this]at hv;cases hv;rfl
  subst ev;have hne:s.heap.objs.size≠e:=qP (aW he);have kk: ∀b u,b ∉ [e,it]->s.heap.get? b=some u->h2.get? b=some u:=λb u nb q=>by
   simp only[aZ,eS,eU,not_or]at nb;exact m.extBut _ _ nb.1 (k b u nb.1 nb.2 q)
  have ht2:h2.get? s.heap.objs.size=some {cls:= .type "tuple",data:= .seq #[.int i tk,v]}:=m.extBut _ _ hne ht;refine⟨.ref s.heap.objs.size,upd H s.heap.objs.size<|.tup [.int (i:Int),x],I.turnedNew (t':=tk+1) kk hf (aH _) ⟨cD7,[.int i tk,v],.cons ⟨tk,rfl⟩<|.cons ru1 .nil,⟨_,ht2,rfl,_,rfl⟩⟩,rfl,
   ⟨_,x,rfl,I.hok.fresh<|aH _,rfl,λxs' q=>by rw[I.sq_inj q q1];exact e1⟩,⟨⟨_,by exists he2⟩,hs'.1.at λo q=>m.extBut _ _ (Ne.symm hei) q⟩,λb hb=> ?_⟩
  obtain⟨o,ho',_⟩:=st.objs b hb;rw[cL<|bK<|aW ho'];exact(hf b hb).1
 done:=by
  intro X hP hw hK hc i pins s σ H E I hf st hg;subst hP hw hK;obtain⟨xs,q1,hl⟩:=hg;obtain⟨is1,r1,p1,_⟩:=I.sq q1;have l1':=r1.length;simp only[aZ,eS,eU,not_or]at nl;obtain⟨⟨old,he⟩,h1⟩:=id st;have D:=cD8 (prog:=X.prog) (w:=X.w) (A:=X.A.in1) (T:=T) (I.ok.hd hc) it l nl.2 is1.toArray
  refine wpAny_pyNext_enum_endD D he ⟨by rw[bG,<-l1',hl];exact h1,p1⟩ λh' ex=>⟨rfl,I.turnedL (t':=s.toks) (λb u nb q=>ex b u (λz=>nb (by simp[z])) q) hf⟩
 self:=λ_ _ _ _ _ st h=>by
  obtain⟨⟨old,he⟩,_⟩:=st;exact wpAny_pyIter_enum he h
theorem d49 (l:Addr)(xs:Array Value):Meets (Builtin.«enumerate.__new__» ⟨[.type "enumerate",.ref l],[]⟩) (λ_ R s=>s.heap.IsTuple l xs/\
  R (.ok<|.ret<|.ref (s.heap.push<|aC2 true l).objs.size) {s with heap:=(s.heap.push<|aC2 true l).push {cls:= .type "enumerate",data:= .fields #[.none,.bool false,.ref s.heap.objs.size,rawInt 0,.none,.none]}}):= .of_wp λprog w A R s h=>by
 obtain⟨hp,g,d,tk,os⟩:=s;obtain⟨hl,h⟩:=h;obtain⟨⟨c,dct,dt,sl⟩,hg,hc,n,hd⟩:=id hl
 replace hc:c= .type "tuple":=hc
 replace hd:dt= .seq xs n:=hd
 subst hc hd;have hsub:=sub_enumerate;have e1:wC true (Shared.heap ⟨hp,g,d,tk,os⟩) l xs:=hl
 wp_walk using aN6 hg
 refine wpAny_stack_any λst=>aL ?_
 split
 .rename_i c _ _ _ _ _
  cases (c==Value.type "enumerate")<;>(wp_walk using aN6 hg,aI9 e1;exact⟨_,rfl,h⟩)
 .wp_walk using aN6 hg,aI9 e1
  exact⟨_,rfl,h⟩
section
variable {prog:Program}{w:World}{A:Around}{E:Value->Shared->Prop}{s:Shared}
theorem d50 {T:Bool}{l:Addr}{xs:Array Value}{Q:Value->Shared->Prop}(hl:wC T s.heap l xs)
  (h: ∀h' e it,e≠it->s.heap.objs.size<=e->s.heap.objs.size<=it->ESt T e it l 0 h'->(∀c o,s.heap.get? c=some o->h'.get? c=some o)->Q (.ref e) {s with heap:=h'}) :
  wpAny (model prog w) A (call (.type "enumerate") [.ref l]) Q E s:=by
 cases T with
 | false=>exact call_enumerate_list hl λh' he hit hsz k=>h h' _ _ aa aa aa ⟨⟨_,he⟩,hit⟩ k
 | true=>
  refine callType_new PySem.F.called_enumerate ac (PySem.F.typeCall_enumerate_1 _) (PySem.F.newCall_enumerate_1 _) (λobj=>PySem.F.args_object_init_2 obj _) PySem.F.entry_enumerate_new (d49 l xs) ⟨hl,?_⟩
  have z1:(s.heap.push<|aC2 true l).objs.size=s.heap.objs.size+1:=jJ ..;have he:IsEnum ((s.heap.push<|aC2 true l).push {cls:= .type "enumerate",data:= .fields #[.none,.bool false,.ref s.heap.objs.size,rawInt 0,.none,.none]}) (s.heap.push<|aC2 true l).objs.size s.heap.objs.size 0 .none:=cC _ rfl
  have hi:wD true ((s.heap.push<|aC2 true l).push {cls:= .type "enumerate",data:= .fields #[.none,.bool false,.ref s.heap.objs.size,rawInt 0,.none,.none]}) s.heap.objs.size l 0:=(wD.new (T:=true) s.heap l).at λo e=>aV _ e
  exact⟨⟨_,he,rfl⟩,h _ _ _ (by rw[z1];omega) (by rw[z1];omega) (aH _) ⟨⟨_,he⟩,hi⟩ λc o e=>aV _ (aV _ e)⟩
end
section
variable {X:Cx}
def iEnum (K:PySem.W.Frag)(ta:TA):TI:=λσ H R=>ta σ H λvs H1=> ∃l T xs,vs=[.ref l]/\SqV K T H1 l xs/\R (Ite K T l) H1
theorem dV3 {a:Expr}{ta:TA}(hg:Gl X "enumerate")(hm:X.mg "enumerate"=none)(ha:PA X [a] ta)(hs:↥(starEach [a] X.env=[(false,eval a X.env)])) :
  PI X (.Tuple elts kt tp) (.Call (.Name "enumerate" p) [a] [] pos) (iEnum X.K ta):=by
 intro pins s σ H R I h;refine Call_ (sP I hg hm PyProof.Rows.boot_enumerate<|jC (thn (ha pos pins s σ H _ I h) λus s1 ⟨vs,H1,I1,r1,q1⟩=> ?_) hs rfl)
 obtain⟨l,T,xs,e,q1,q⟩:=q1;subst e;obtain⟨u,rfl,r⟩:=vals1 r1;cases r;obtain⟨is1,_,p1,_⟩:=I1.sq q1;refine d50 p1 λh' e it ne f1 f2 st k=> ?_
 obtain⟨⟨old,he⟩,_⟩:=id st;refine wpAny_pyIter_enum he ?_;have lt:=p1.lt;have fr: ∀b∈[e,it],s1.heap.objs.size<=b:=λb hb=>by
  simp only[aZ,eS,eU]at hb;rcases hb with rfl|rfl
  .exact f1
  .exact f2
 exact⟨e,[e,it],_,_,H1,rfl,I1.kept (t':=s1.toks) k,d48 ne λhb=>absurd (b9 lt<|fr l hb) (dJ _),st,λb hb=>I1.fpOk (fr b hb) (I1.hok.fresh<|fr b hb),q⟩
end
theorem bB7:isSubtype (.type "range_iterator") (.type "reversed")=pure false:=by rw[qM];kernel_rfl
theorem b45 {n:Int}(h1: -(2^31)<=n)(h2:n<2^31):Builtin.Range.rangeFitsLong n=true:=by
 simp[Builtin.Range.rangeFitsLong]
 lia
nonrec def aW8 (n:Int):Obj:={cls:= .type "range_iterator",data:= .fields #[rawInt<|(n.toNat:Int)-1,rawInt (n.toNat:Int),rawInt<|-1]}
theorem bR7 (r:Addr)(a b c:Int)(t u v:Tok)(hc0: ¬(!(Builtin.Range.rangeFitsLong a&&Builtin.Range.rangeFitsLong b&&Builtin.Range.rangeFitsLong c&&Builtin.Range.rangeFitsLong (-c)&&Builtin.Range.rangeFitsLong (a-c)&&Builtin.Range.rangeFitsLong (Builtin.Range.rangeSize a b c)))=true) :
  Meets (Builtin.«range.__reversed__» ⟨[.ref r],[]⟩) (λ_ R s=>s.heap.get? r=some {cls:= .type "range",dict:=none,data:= .fields #[.int a t,.int b u,.int c v],slots:= #[]}/\
  R (.ok<|.ret<|Value.ref s.heap.objs.size) {s with heap:=s.heap.push {cls:=Value.type (if(Builtin.Range.rangeFitsLong a&&Builtin.Range.rangeFitsLong b&&Builtin.Range.rangeFitsLong c&&Builtin.Range.rangeFitsLong (-c)&&Builtin.Range.rangeFitsLong (a-c)&&Builtin.Range.rangeFitsLong (Builtin.Range.rangeSize a b c))=true then "range_iterator" else "longrange_iterator"),data:=Data.fields #[rawInt<|a+(Builtin.Range.rangeSize a b c-1)*c,rawInt<|Builtin.Range.rangeSize a b c,rawInt<|-c]},toks:=s.toks}):= .of_wp λprog w A R s h=>by
 obtain⟨hp,g,d,tk,os⟩:=s;obtain⟨hl,h⟩:=h
 wp_walk
 exact⟨_,rfl,h⟩
theorem bB8 (r:Addr)(n:Int)(t u v:Tok)(h1: -(2^31)<=n)(h2:n<2^31):Meets (Builtin.«range.__reversed__» ⟨[.ref r],[]⟩) (λ_ R s=>IsRange s.heap r 0 n 1 t u v/\
  R (.ok<|.ret<|.ref s.heap.objs.size) {s with heap:=s.heap.push (aW8 n)}):=by
 have e0:Builtin.Range.rangeSize 0 n 1=(n.toNat:Int):=by rw[rangeSize_one];split<;>lia
 have sm:(Builtin.Range.rangeFitsLong 0&&Builtin.Range.rangeFitsLong n&&Builtin.Range.rangeFitsLong 1&&Builtin.Range.rangeFitsLong (-1)&&Builtin.Range.rangeFitsLong (0-1)&&Builtin.Range.rangeFitsLong (Builtin.Range.rangeSize 0 n 1))=true:=by
  rw[e0,b45 h1 h2,b45 (n:=0) ac ac,b45 (n:=1) ac ac,b45 (n:= -1) ac ac,b45 (n:=0-1) ac ac,b45 (n:=(n.toNat:Int)) ad ad]
  rfl
 have G:=bR7 r 0 n 1 t u v (by rw[sm];decide)
 intro prog w A R s h;refine G prog w A R s ⟨h.1,?_⟩;rw[sm,a9 rfl,e0];have e1:(0:Int)+((n.toNat:Int)-1)*1=(n.toNat:Int)-1:=ad
 rw[e1];exact h.2
section
variable {prog:Program}{w:World}{A:Around}{E:Value->Shared->Prop}{s:Shared}
theorem cD9 {r:Addr}{n:Int}{t u v:Tok}{Q₁:Value->Shared->Prop}(hr:IsRange s.heap r 0 n 1 t u v)(h1: -(2^31)<=n)(h2:n<2^31)
  (h:Q₁ (.ref s.heap.objs.size) {s with heap:=s.heap.push (aW8 n)}) :
  codeAny (model prog w) A (.call (.builtin "reversed.__new__") ⟨[.type "reversed",.ref r],[]⟩) (wants Q₁ E) s:=by
 have hT:s.TypeIs (.ref r) "range":=⟨_,hr,rfl⟩;refine aR6 ?_;show wpAny _ A.in1 (do checkBuiltinCall "reversed.__new__" ⟨[.type "reversed",.ref r],[]⟩;again (.builtin "reversed.__new__" ⟨[.type "reversed",.ref r],[]⟩)) _ _ s;refine aA (jM (PySem.F.newCall_reversed_1 _)<|aL ⟨plainId_quiet PySem.F.plain_reversed_new _,codeAny_builtin PySem.F.entry_reversed_new ?_⟩)
 rw[Around.under_plainId PySem.F.plain_reversed_new _];unfold Builtin.«reversed.__new__»;refine aA (jM (newClass_reversed _) ?_);try right
 refine aA (jM (a:=()) (by first|rfl|kernel_rfl) ?_);refine aA (jM (a:=()) (by first|rfl|kernel_rfl) ?_);try right
 refine aA (wpAny_specialOf hT PySem.F.slot_range_reversed.lookup ?_);try right
 refine aA (jM (PySem.F.slot_range_reversed.bind _) ?_);try right
 first
 | rw[a7<|show ¬((Value.builtin "range.__reversed__"==Value.none)=true)from bN]
 | (show wpAny _ _ (if(Value.builtin "range.__reversed__"==Value.none)=true then _ else _) _ _ _;rw[a7<|show ¬((Value.builtin "range.__reversed__"==Value.none)=true)from bN])
 refine aA (lW ?_)
 refine aA (m:=runValue (.call (.builtin "range.__reversed__") ⟨[.ref r],[]⟩)) (show wpAny _ _ (call (.builtin "range.__reversed__") [.ref r]) _ _ _ from kS PySem.F.slot_range_reversed hT PySem.F.entry_range_reversed (PySem.F.args_range_reversed_1 _) (bB8 r n t u v h1 h2) ⟨hr,?_⟩)
 first
 | exact aL h
 | exact aA (aL<|aL h)
theorem dV4 {r:Addr}{n:Int}{t u v:Tok}(hr:IsRange s.heap r 0 n 1 t u v)(h1: -(2^31)<=n)(h2:n<2^31)(h:Q (.ref s.heap.objs.size) {s with heap:=s.heap.push (aW8 n)}) :
  wpAny (model prog w) A (call (.type "reversed") [.ref r]) Q E s:=by
 refine callType_other (U:="range_iterator") (Q₁:=λobj s₁=>obj= .ref s.heap.objs.size/\s₁={s with heap:=s.heap.push (aW8 n)}) af PySem.F.create_reversed ⟨_,_,PySem.F.mro_reversed⟩ PySem.F.made_reversed bB7 (PySem.F.typeCall_reversed_1 _) (cD9 hr h1 h2 ⟨rfl,rfl⟩) ?_
 rintro obj s₁ ⟨rfl,rfl⟩;exact⟨⟨_,cC _ rfl,rfl⟩,h⟩
end
section
variable {X:Cx}{tg:Expr}
def iRevR (ta:TA):TI:=λσ H R=>ta σ H λvs H1=> ∃j:Int,vs=[.int j]/\ -(2^31)<=j/\j<2^31/\R (Itd ((j.toNat:Int)-1) j.toNat) H1
theorem cE0 {a:Expr}{ta:TA}{pos2:Pos}(hg:Gl X "reversed")(hm:X.mg "reversed"=none)(hg2:Gl X "range")(hm2:X.mg "range"=none)(ha:PA X [a] ta)(hs:↥(starEach [a] X.env=[(false,eval a X.env)]))
  (hs2:↥(starEach [.Call (.Name "range" p2) [a] [] pos2] X.env=[(false,eval (.Call (.Name "range" p2) [a] [] pos2) X.env)])) :
  PI X tg (.Call (.Name "reversed" p) [.Call (.Name "range" p2) [a] [] pos2] [] pos) (iRevR ta):=by
 intro pins s σ H R I h;refine Call_ (sP I hg hm PyProof.Rows.boot_reversed<|jC ?_ hs2 rfl);rw[hs2];show wpAny _ _ (spliced ((false,eval (.Call (.Name "range" p2) [a] [] pos2) X.env)::[])) _ _ s;refine Calls.spliced_cons (Call_<|sP I hg2 hm2 uP<|jC (thn (ha pos2 pins s σ H _ I h) λus s1 ⟨vs,H1,I1,r1,q1⟩=> ?_) hs rfl)
 obtain⟨j,e,q1,q2,q⟩:=q1;subst e;obtain⟨u,rfl,t,rfl⟩:=vals1 r1;refine call_range_1 (Calls.spliced_nil ?_);have I2:Inv X pins σ H1 {s1 with heap:=s1.heap.push {cls:= .type "range",data:= .fields #[.int 0 s1.toks,.int j t,.int 1<|s1.toks+1]},toks:=s1.toks+1+1}:=I1.kept λb o e=>aV _ e
 refine dV4 (uK ..) q1 q2 ?_
 have hi:IsRangeIter (((s1.heap.push {cls:= .type "range",data:= .fields #[.int 0 s1.toks,.int j t,.int 1<|s1.toks+1]})).push<|aW8 j) (s1.heap.push {cls:= .type "range",data:= .fields #[.int 0 s1.toks,.int j t,.int 1<|s1.toks+1]}).objs.size ((j.toNat:Int)-1) (j.toNat:Int) (-1):=cC _ rfl;refine aO2 hi ?_
 refine⟨_,[(s1.heap.push {cls:= .type "range",data:= .fields #[.int 0 s1.toks,.int j t,.int 1<|s1.toks+1]}).objs.size],_,_,H1,rfl,I2.kept (t':=s1.toks+1+1) λb o e=>aV _ e,bX2 _ ((j.toNat:Int)-1) j.toNat,?_,λb hb=> ?_,q⟩
 .show IsRangeIter _ _ (((j.toNat:Int)-1)+((0:Nat):Int)*(-1)) ((j.toNat:Int)-((0:Nat):Int)) (-1)
  have e1:((j.toNat:Int)-1)+((0:Nat):Int)*(-1)=(j.toNat:Int)-1:=ae
  have e2:(j.toNat:Int)-((0:Nat):Int)=(j.toNat:Int):=ae
  rw[e1,e2];exact hi
 .have e:b=(s1.heap.push {cls:= .type "range",data:= .fields #[.int 0 s1.toks,.int j t,.int 1<|s1.toks+1]}).objs.size:=by exists hb
  subst e;exact I2.fpOk (aH _) (I2.hok.fresh<|aH _)
theorem dF1:PGet X (rIxL X.K):=by
 intro pins s σ H o i ov iv Q I ro ri h;obtain⟨p,xs,k,z,rfl,rfl,hq,he,q⟩:=h;cases ro;obtain⟨t,rfl⟩:=ri;obtain⟨its,r,pl,hz⟩:=I.list hq;obtain⟨j,h1,h2,h3,h4,h5⟩:=bD7 he;obtain⟨w,ew,rw'⟩:=r.get h2;have hl:=r.length;have hn:=b31;have fin:EP X pins σ Q w s:=⟨z,H,I,rw',q⟩
 by_cases h0:0<=k
 .have hj:k.toNat=j:=by
   rw[a32 h0 h5]at h1;exact iD h1
  exact wpAny_getItem_list pl.isList h0 ad (by rw[hj];exists ew) fin
 .have hj:(k+(its.toArray.size:Int)).toNat=j:=by
   rw[a25 ad h4]at h1
   rw[bG,<-hl];exact iD h1
  exact wpAny_getItem_list_neg pl.isList ad (by rw[bG]<;>lia) ad (by rw[hj];exists ew) fin
end
end L2
namespace HT
open PySem PyProof.Rows
section
variable {prog:Program}{w:World}{A:Around}{E:Value->Shared->Prop}{s:Shared}
theorem getItem_tuple_whole {lo:Option Int}(ht:IsTup s.heap t items)(hs:s.heap.IsSliceOf sl vl vu .none)(pl:IsPart vl lo)(pu:IsPart vu hi)
  (hw:sIx items.size 0 lo=0/\sIx items.size items.size hi=items.size) (h:Q (.ref t) s):wpAny (model prog w) A (getItem (.ref t)<|.ref sl) Q E s:=by
 obtain⟨os,hos,hcs,hds⟩:=id hs;have hTs:s.TypeIs (.ref sl) "slice":=⟨os,hos,hcs⟩;unfold getItem;try with_reducible refine gG ?_
 first|refine aA (aL ?_)|skip
 refine aA (wpAny_sequenceKey ht.typeIs ac ?_)
 refine aA (lL (name:=Str.ofString "__getitem__") ht.typeIs zS<|jI zS ht.typeIs entry_tuple_getitem ?_<|args_tuple_getitem _ _)
 show wpAny _ _ (Builtin.Tuple.tupleItemsOf (.ref t) >>= _) _ _ s
 refine aA (tupleItemsOf_ ht ?_)
 refine aA (a24 hTs ?_)
 rw[a9 ac]
 refine aA (yK hs pl pu ?_)
 have hyes:(((sIx items.size 0 lo:Nat):Int)==0&&(1:Int)==1&&(sIx items.size items.size hi-sIx items.size 0 lo)==items.size)=true:=by
  rw[hw.1,hw.2];simp
 show wpAny _ _ (if(((sIx items.size 0 lo:Nat):Int)==0&&(1:Int)==1&&(sIx items.size items.size hi-sIx items.size 0 lo)==items.size)=true then _ else _) _ _ s
 rw[a9 hyes];show wpAny _ _ (Builtin.Tuple.tupleIsExact (.ref t) >>= _) _ _ s;unfold Builtin.Tuple.tupleIsExact;refine aA (aA<|a24 ht.typeIs<|aL ?_);show wpAny _ _ (if(Value.type "tuple"==Value.type "tuple")=true then _ else _) _ _ s;rw[a9 ac]
 refine aA (lW ?_)
 first
  | exact aL ⟨_,rfl,aL h⟩
  | exact aA (aL<|aL ⟨_,rfl,aL h⟩)
  | exact aA (aL ⟨_,rfl,aL h⟩)
end
end HT
namespace L2
section
variable {X:Cx}
def rSlW (K:PySem.W.Frag):V->Option Int->Option Int->Hp->VK->Prop:=λx lo hi H Q=> ∃a xs,x= .ref a/\SqT K H a xs/\(HT.sIx xs.length 0 lo=0/\HT.sIx xs.length xs.length hi=xs.length)/\Q (.ref a) H
theorem dF2:SlR X (rSlW X.K):=by
 intro pins s σ H x v vl vu lo hi sl Q I rx hs pl pu h;obtain⟨a,xs,rfl,hx,hw,q⟩:=h;cases rx;obtain⟨its,r,ht,hz⟩:=I.tuple hx;have hlen:its.toArray.size=xs.length:=by rw[bG];exact r.length.symm
 exact⟨"tuple",_,PyProof.Rows.slot_tuple_getitem.lookup,ht.typeIs,HT.getItem_tuple_whole ht hs pl pu (by rw[hlen];exact hw) ⟨.ref a,H,I,rfl,q⟩⟩
end
end L2
namespace M
section
variable {X:Cx}{K:PySem.W.Frag}{A:AS}{H:Hp}{e a b:Expr}{te ti:UE}{pos p2:Pos}{C:C0}{ρ ρ':Ev}{σ:L2.St}
def gSlT (d:D)(lo hi:Option Int)(Q:B->Prop):Prop:=match d with
 | .tup l=>Q (.pu<|.tup<|cutD l lo hi)
 | .lst l=>Q (.ow<|cutD l lo hi)
 | .rol l=>Q (.ow<|cutD l lo hi)
 | _=>False
def uSlT (t:UE)(tl th:UO):UE:=λρ Q=>t ρ λb0 ρ1=>tl ρ1 λlo ρ2=>th ρ2 λhi ρ3=>gSlT b0.d lo hi λb=>Q b ρ3
theorem d51 (l:List D)(lo hi:Option Int)(h:HT.sIx l.length 0 lo=0/\HT.sIx l.length l.length hi=l.length):cutD l lo hi=l:=by
 unfold cutD;rw[h.1,h.2];simp
theorem d52 {tl th:UO}{lo hi:Option Expr}(he:PU X e te)(hl:PUO X lo tl)(hu:PUO X hi th):PU X (.Subscript e (.Slice lo hi none p2) pos) (uSlT te tl th):=
 iZ (cC2 ((cY3.or dC4).or dF2) he hl hu) λσ H Q ⟨C,ρ,Q0,I,h,k⟩=>⟨C,ρ,_,I,h,λb0 ρ1 v H1 q f s r=>by
  have I1:=(I.frz f).same s;have rr:=r.rep λa z=>I.avF f z
  refine⟨C,ρ1,_,I1,q,λl2 ρ2 H2 q2 f2 s2=> ?_⟩
  have I2:=(I1.frz f2).same s2;refine⟨C,ρ2,_,I2,q2,λh3 ρ3 H3 q3 f3 s3=> ?_⟩
  have I3:=(I2.frz f3).same s3;have s13:=s2.trans s3;have sAll:=s.trans s13;have fAll:=f.trans (f2.trans f3);have r':Rep X.K (Av C ρ3 σ) H3 b0.d v:=rr.mono (.sub s13 λa z=>f2.av (f3.av z))
  generalize b0.d=d at r' q3;cases d with
  | tup l=>
   have r2:=r';simp only[Rep]at r';obtain⟨a,vs,rfl,c,rs⟩:=r';have hlen:=rs.length
   by_cases hw:HT.sIx l.length 0 l2=0/\HT.sIx l.length l.length h3=l.length
   .refine .inr ⟨a,vs,rfl,c.imp cV id,by rw[<-hlen];exact hw,k _ ρ3 _ _ q3 fAll sAll ?_⟩
    show Rep _ _ _ (.tup<|cutD l l2 h3) _
    rw[d51 l l2 h3 hw];exact r2
   .exact .inl (.inr ⟨a,vs,rfl,c.imp cV id,by rw[<-hlen];exact hw,λp n=>k _ ρ3 _ _ q3 fAll (sAll.trans<|fE n _) (j2 (λa z=>I3.avSome z) n<|rs.cut l2 h3)⟩)
  | lst l=>
   simp only[Rep]at r';obtain⟨a,vs,rfl,n0,c,rs⟩:=r';exact .inl (.inl ⟨a,vs,rfl,SqL.of c,λp n=>k _ ρ3 _ _ q3 fAll (sAll.trans<|fE n _) (hX sAll n<|rs.cut l2 h3)⟩)
  | rol l=>
   simp only[Rep]at r';obtain⟨a,vs,rfl,c,rs⟩:=r';exact .inl (.inl ⟨a,vs,rfl,c.imp cV id,λp n=>k _ ρ3 _ _ q3 fAll (sAll.trans<|fE n _) (hX sAll n<|rs.cut l2 h3)⟩)
  | _=>exact(show False from q3).elim⟩
def dF3 (i:Nat)(f:Int->Int->Int)(ti te:UE):US:=λD ρ=>lH ρ i λ_=>ti ρ λj ρ1=>lH ρ1 i λl1=> ∃k n x,j.d= .int k/\ixN l1.length k=some n/\l1[n]? =some (.int x)/\
 te ρ1 λb ρ2=>lH ρ2 i λl=> ∃y,b.d= .int y/\D.nx (ρ2.set i<|some<|.ow<|l.set n<|.int<|f x y)
theorem dV5 {ix:Expr}{op:Operator}{f:Int->Int->Int}(i:Nat)(hx:PE X (.Name x p) (aB0 i))(hi:PU X ix ti)(he:PU X e te)(hp:PIp X op (ipI f))
  (ha: ∀ov iv new,augStore ix ov iv new=(do holding [new,ov,iv] (setItem ov iv new);release [new,ov,iv] [];pure .next):=by intros;rfl):PUS X (.AugAssign (.Subscript (.Name x p) ix tpos) op e pos) (dF3 i f ti te):=
 rY (dS1 hx hi dF1 he hp cC4 ha) λD σ H ⟨C,ρ,D0,I,h,k⟩=>by
  obtain⟨l,hl,h⟩:=jV h;obtain⟨a,vs,h1,h2,h3,h4⟩:=I.ow i l hl;refine⟨.ref a,h1,C,ρ,_,I,h,λj ρ1 w H1 q f1 s1 r1=> ?_⟩
  obtain⟨l1,hl1,kk,n,x0,ej,en,ex,q⟩:=jV q;have e1:=f1.ow hl1;rw[hl]at e1;cases e1;have I1:=(I.frz f1).same s1;obtain⟨a1,vs1,g1,g2,g3,g4⟩:=I1.ow i l hl1;rw[h1]at g1;cases g1;have rj:=r1.rep λa z=>I.avF f1 z
  rw[ej]at rj;have:=bS rj;subst this;obtain⟨v0,ev0,rv0⟩:=g4.get ex;have:=bS rv0;subst this;have hat:L2.atI vs1 kk=some (.int x0):=by unfold L2.atI;rw[<-g4.length,en];exact ev0
  refine⟨a,vs1,kk,_,rfl,rfl,SqL.of g2,hat,C,ρ1,_,I1,q,λb ρ2 w2 H2 q2 f2 s2 r2=> ?_⟩
  obtain⟨l2,hl2,y,eb,q2⟩:=jV q2;have e2:=f2.ow hl2;rw[hl1]at e2;cases e2;have I2:=(I1.frz f2).same s2;obtain⟨a2,vs2,k1,k2,k3,k4⟩:=I2.ow i l hl2;rw[h1]at k1;cases k1;have rb:=r2.rep λa z=>I1.avF f2 z
  rw[eb]at rb;have:=bS rb;subst this;exact⟨x0,y,rfl,rfl,a,vs2,kk,n,rfl,rfl,k2,by rw[<-k4.length];exact en,k.nx _ _ _ q2<|I2.write hl2 h1<|k4.set n<|show Rep _ _ _ _ _ by simp only[Rep]⟩
mutual
noncomputable def pd:D->Option PyData
 | .non=>some .none
 | .bl b=>some (.bool b)
 | .int i=>some (.int i)
 | .tup l=>(pdL l).map .tuple
 | .lst l=>(pdL l).map .list
 | .rol l=>(pdL l).map .list
 | .str s=>if PyData.canLay0 (.str s)=true then some (.str s)else none
 | .ty _=>none
 | .obj _ _ _=>none
 | .adr _=>none
 | .xob _ _ _ _=>none
noncomputable def pdL:List D->Option (List PyData)
 | []=>some []
 | d::r=>(pd d).bind λx=>(pdL r).map (x::·)
end
theorem cE1 {d:D}{r:List D}{xs:List PyData}(h:pdL (d::r)=some xs): ∃x ys,xs=x::ys/\pd d=some x/\pdL r=some ys:=by
 simp only[pdL]at h;cases e:pd d with
 | none=>rw[e]at h;cases h
 | some x=>
  rw[e]at h;cases e2:pdL r with
  | none=>rw[e2]at h;cases h
  | some ys=>rw[e2]at h;cases h;exact⟨x,ys,rfl,rfl,rfl⟩
theorem tY {β:Type}{o:Option α}{f:α->β}{y:β}(h:o.map f=some y): ∃x,o=some x/\y=f x:=by
 cases o with
 | none=>cases h
 | some x=>cases h;exact⟨x,rfl,rfl⟩
mutual
theorem bH4: ∀(d:D) {x:PyData},pd d=some x->x.canLay0=true
 | .non,x,h=>by simp only[pd]at h;cases h;rfl
 | .bl b,x,h=>by simp only[pd]at h;cases h;rfl
 | .int i,x,h=>by simp only[pd]at h;cases h;rfl
 | .tup l,x,h=>by simp only[pd]at h;obtain⟨xs,e,rfl⟩:=tY h;simp only[PyData.canLay0];exact bE2 l e
 | .lst l,x,h=>by simp only[pd]at h;obtain⟨xs,e,rfl⟩:=tY h;simp only[PyData.canLay0];exact bE2 l e
 | .rol l,x,h=>by simp only[pd]at h;obtain⟨xs,e,rfl⟩:=tY h;simp only[PyData.canLay0];exact bE2 l e
 | .str s,x,h=>by simp only[pd]at h;split at h;(rename_i c;cases h;exact c);cases h
 | .ty _,x,h=>by simp only[pd]at h;cases h
 | .obj _ _ _,x,h=>by simp only[pd]at h;cases h
 | .adr _,x,h=>by simp only[pd]at h;cases h
 | .xob _ _ _ _,x,h=>by simp only[pd]at h;cases h
theorem bE2: ∀(l:List D) {xs:List PyData},pdL l=some xs->PyData.canLayAll0 xs=true
 | [],xs,h=>by simp only[pdL]at h;cases h;rfl
 | d::r,xs,h=>by
  obtain⟨x,ys,rfl,e1,e2⟩:=cE1 h;simp only[PyData.canLayAll0,eG];exact⟨bH4 d e1,bE2 r e2⟩
end
section
variable {pins:List (Addr×Obj)}{s:Shared}
mutual
theorem yP (I:Inv X pins σ H s): ∀(d:D) {x:PyData} {v:V} {u:Value},pd d=some x->Rep X.K A H d v->RelV v u-> ∃as,Reads s.heap u x as
 | .non,x,v,u,h,r,q=>by simp only[pd]at h;cases h;simp only[Rep]at r;subst r;cases q;exact⟨_,.none⟩
 | .bl b,x,v,u,h,r,q=>by simp only[pd]at h;cases h;simp only[Rep]at r;subst r;cases q;exact⟨_,.bool b⟩
 | .int i,x,v,u,h,r,q=>by simp only[pd]at h;cases h;simp only[Rep]at r;subst r;obtain⟨t,rfl⟩:=q;exact⟨_,.int i t⟩
 | .tup l,x,v,u,h,r,q=>by
  simp only[pd]at h;obtain⟨xs,e,rfl⟩:=tY h;simp only[Rep]at r;obtain⟨a,vs,rfl,c,rs⟩:=r;cases q;obtain⟨its,rv,⟨o,ho,hc,n,hd⟩,hz⟩:=I.tuple (c.imp cV id);obtain⟨as,ra⟩:=a38 I l e rs rv;exact⟨_,.tuple ho hc hd<|by exists ra⟩
 | .lst l,x,v,u,h,r,q=>by
  simp only[pd]at h;obtain⟨xs,e,rfl⟩:=tY h;simp only[Rep]at r;obtain⟨a,vs,rfl,n0,c,rs⟩:=r;cases q;obtain⟨its,rv,p,hz⟩:=I.list (SqL.of c);obtain⟨o,ho,hc,n,hd⟩:=p.isList;obtain⟨as,ra⟩:=a38 I l e rs rv;exact⟨_,.list ho hc hd<|by exists ra⟩
 | .rol l,x,v,u,h,r,q=>by
  simp only[pd]at h;obtain⟨xs,e,rfl⟩:=tY h;simp only[Rep]at r;obtain⟨a,vs,rfl,c,rs⟩:=r;cases q;obtain⟨its,rv,p,hz⟩:=I.list (c.imp cV id);obtain⟨o,ho,hc,n,hd⟩:=p.isList;obtain⟨as,ra⟩:=a38 I l e rs rv;exact⟨_,.list ho hc hd<|by exists ra⟩
 | .str i,x,v,u,h,r,q=>by simp only[pd]at h;split at h<;>cases h;simp only[Rep]at r;subst r;obtain⟨t,rfl⟩:=q;exact⟨_,.str i t⟩
 | .ty _,x,v,u,h,r,q=>by simp only[pd]at h;cases h
 | .obj _ _ _,x,v,u,h,r,q=>by simp only[pd]at h;cases h
 | .adr _,x,v,u,h,r,q=>by simp only[pd]at h;cases h
 | .xob _ _ _ _,x,v,u,h,r,q=>by simp only[pd]at h;cases h
theorem a38 (I:Inv X pins σ H s): ∀(l:List D) {xs:List PyData} {vs:List V} {us:List Value},pdL l=some xs->cE X.K A H l vs->Vals vs us-> ∃as,ReadsAll s.heap us xs as
 | [],xs,vs,us,h,r,q=>by simp only[pdL]at h;cases h;have:=r.unnil;subst this;cases q;exact⟨_,.nil⟩
 | d::l,xs,vs,us,h,r,q=>by
  obtain⟨x,ys,rfl,e1,e2⟩:=cE1 h;obtain⟨v,vr,rfl,r1,rs⟩:=r.uncons;cases q with
  | cons q1 q2=>
   obtain⟨as,h1⟩:=yP I d e1 r1 q1;obtain⟨bs,h2⟩:=a38 I l e2 rs q2;exact⟨_,.cons h1 h2⟩
end
end
def c56 (neg:Bool)(d e:D)(Q:B->Prop):Prop:= ∃p q,pd d=some p/\pd e=some q/\p.depth<=60/\Q (.pu<|.bl<|neg ^^ p.eqv q)
theorem cR1 (hu:X.A.units+64<cLine):OpU X (compareOp .Eq) (c56 false):=by
 intro A H d e v w Q0 Q hA r1 r2 g k;obtain⟨p,q,e1,e2,hd,g⟩:=g;refine⟨λx y H Q=> ∃(A:AS) (d e:D) (p q:PyData),Rep X.K A H d x/\Rep X.K A H e y/\pd d=some p/\pd e=some q/\p.depth<=60/\Q (.bl<|p.eqv q) H,?_,A,d,e,p,q,r1,r2,e1,e2,hd,k _ _ H g (.refl _) (by rw[nW];exact lX)⟩
 rintro pins s σ H x y v u Q I rx ry ⟨A,d,e,p,q,r1,r2,e1,e2,hd,h⟩;obtain⟨as,ra⟩:=yP I d e1 r1 rx;obtain⟨bs,rb⟩:=yP I e e2 r2 ry;exact SeqAt.compareEq_reads ra rb (bH4 d e1) (bH4 e e2) ad ⟨.bl _,H,I,rfl,h⟩
theorem ou_neD (hu:X.A.units+64<cLine):OpU X (compareOp .NotEq) (c56 true):=by
 intro A H d e v w Q0 Q hA r1 r2 g k;obtain⟨p,q,e1,e2,hd,g⟩:=g;refine⟨λx y H Q=> ∃(A:AS) (d e:D) (p q:PyData),Rep X.K A H d x/\Rep X.K A H e y/\pd d=some p/\pd e=some q/\p.depth<=60/\Q (.bl<|!(p.eqv q)) H,?_,A,d,e,p,q,r1,r2,e1,e2,hd,k _ _ H g (.refl _) (by rw[nX];exact lX)⟩
 rintro pins s σ H x y v u Q I rx ry ⟨A,d,e,p,q,r1,r2,e1,e2,hd,h⟩;obtain⟨as,ra⟩:=yP I d e1 r1 rx;obtain⟨bs,rb⟩:=yP I e e2 r2 ry;exact SeqAt.compareNe_reads ra rb (bH4 d e1) (bH4 e e2) ad ⟨.bl _,H,I,rfl,h⟩
def SqA (K:PySem.W.Frag)(A:AS)(H:Hp)(T:Bool)(a:Addr)(vs:List V):Prop:=match T with
 | false=>(¬A a/\Rd H a (.lst vs))\/KL K a vs
 | true=>(¬A a/\Rd H a (.tup vs))\/KT K a vs
theorem SqA.sqv {a':Addr}{vs:List V}{A':AS}{H':Hp}(c:SqA K A H T a' vs)(P:mY A H A' H'):SqV K T H' a' vs:=by
 cases T<;>(rcases c with⟨n,c⟩|c;exact .inl (Rd.pres P n c).2;exact .inr c)
theorem mY.self:mY A H A H:=λ_ _ n e=>⟨n,e⟩
theorem Rep.sq {d:D}{v:V}{l:List D}(r:Rep K A H d v)(h:pO d=some l): ∃T a vs,v= .ref a/\SqA K A H T a vs/\cE K A H l vs:=by
 cases d with
 | tup l'=>cases h;simp only[Rep]at r;obtain⟨a,vs,e,c,r⟩:=r;exact⟨true,a,vs,e,c,r⟩
 | lst l'=>cases h;simp only[Rep]at r;obtain⟨a,vs,e,n,c,r⟩:=r;exact⟨false,a,vs,e,.inl ⟨n,.inl c⟩,r⟩
 | rol l'=>cases h;simp only[Rep]at r;obtain⟨a,vs,e,c,r⟩:=r;exact⟨false,a,vs,e,c,r⟩
 | _=>cases h
theorem cE.at {l:List D}{vs:List V}(r:cE K A H l vs)(hi:i<l.length): ∃x,vs[i]? =some x/\Rep K A H (l.getD i .non) x:=r.get (by rw[aR,aU hi];rfl)
theorem dF4 {vs ws:List V}{l m:List D}(c1:SqA K A H T1 l1 vs)(c2:SqA K A H T2 l2 ws)(r1:cE K A H l vs)(r2:cE K A H m ws) :
  cD0 K A H (Itz K T1 T2 l1 l2) (min l.length m.length) (λi=> .tup [l.getD i .non,m.getD i .non]):=by
 have k1:=r1.length;have k2:=r2.length;refine⟨λA' H' i P hi=> ?_,λA' H' i x H'' P hA hi y=> ?_,λA' H' P=>⟨vs,ws,c1.sqv P,c2.sqv P,ad⟩⟩
 .obtain⟨x,e1,_⟩:=r1.at (i:=i) ad
  obtain⟨y,e2,_⟩:=r2.at (i:=i) ad
  exact⟨vs,ws,x,y,c1.sqv P,c2.sqv P,e1,e2⟩
 .obtain⟨x1,e1,q1⟩:=r1.at (i:=i) ad
  obtain⟨y1,e2,q2⟩:=r2.at (i:=i) ad
  obtain⟨T,a,b,rfl,hT,rfl,ha,hb⟩:=y;have ea:=ha vs (c1.sqv P);have eb:=hb ws (c2.sqv P);rw[e1]at ea;cases ea;rw[e2]at eb;cases eb;exact⟨fE hT _,j2 hA hT<|.cons (q1.mono P)<|.cons (q2.mono P) .nil⟩
theorem d53 {vs:List V}{l:List D}(c1:SqA K A H T l1 vs)(r1:cE K A H l vs):cD0 K A H (Ite K T l1) l.length (λi=> .tup [.int (i:Int),l.getD i .non]):=by
 have k1:=r1.length;refine⟨λA' H' i P hi=> ?_,λA' H' i x H'' P hA hi y=> ?_,λA' H' P=>⟨vs,c1.sqv P,k1.symm⟩⟩
 .obtain⟨x,e1,_⟩:=r1.at hi;exact⟨vs,x,c1.sqv P,e1⟩
 .obtain⟨x1,e1,q1⟩:=r1.at hi;obtain⟨T,a,rfl,hT,rfl,ha⟩:=y;have ea:=ha vs (c1.sqv P);rw[e1]at ea;cases ea;exact⟨fE hT _,j2 hA hT<|.cons (show Rep _ _ _ _ _ by simp only[Rep])<|.cons (q1.mono P) .nil⟩
def dF5 (ta:UA):UI:=λρ Q=>ta ρ λds ρ1=>match ds with
 | [d,e]=>(match pO d,pO e with
  | some l,some m=>Q (min l.length m.length) (λi=> .tup [l.getD i .non,m.getD i .non]) ρ1
  | _,_=>False)
 | _=>False
theorem cR2 {ta:UA}(hg:Gl X "zip")(hm:X.mg "zip"=none)(ha:PUA X [a,b] ta)(hs:↥(starEach [a,b] X.env=[(false,eval a X.env),(false,eval b X.env)]))(hs2:↥(starEach [b] X.env=[(false,eval b X.env)])) :
  PUI X (.Tuple elts kt tp) (.Call (.Name "zip" p) [a,b] [] pos) (dF5 ta):=
 aW4 (pi_zip hg hm ha hs hs2) λσ H R ⟨C,ρ,Q0,I,h,k⟩=>⟨C,ρ,_,I,h,λds ρ1 vs H1 q f s r=>by
  split at q
  .rename_i d e
   obtain⟨v,vr,rfl,rv,rr⟩:=r.uncons;obtain⟨w,wr,rfl,rw',rr'⟩:=rr.uncons;have:=rr'.unnil;subst this;split at q
   .rename_i l m e1 e2
    obtain⟨T1,a1,us,rfl,c1,s1⟩:=rv.sq e1;obtain⟨T2,a2,ws,rfl,c2,s2⟩:=rw'.sq e2;exact⟨a1,a2,T1,T2,us,ws,rfl,c1.sqv .self,c2.sqv .self,k _ _ ρ1 _ H1 q f s<|dF4 c1 c2 s1 s2⟩
   .exact q.elim
  .exact q.elim⟩
def dF6 (ta:UA):UI:=λρ Q=>ta ρ λds ρ1=>match ds with
 | [d]=>(match pO d with
  | some l=>Q l.length (λi=> .tup [.int (i:Int),l.getD i .non]) ρ1
  | none=>False)
 | _=>False
theorem dV6 {ta:UA}(hg:Gl X "enumerate")(hm:X.mg "enumerate"=none)(ha:PUA X [a] ta)(hs:↥(starEach [a] X.env=[(false,eval a X.env)])) :
  PUI X (.Tuple elts kt tp) (.Call (.Name "enumerate" p) [a] [] pos) (dF6 ta):=
 aW4 (dV3 hg hm ha hs) λσ H R ⟨C,ρ,Q0,I,h,k⟩=>⟨C,ρ,_,I,h,λds ρ1 vs H1 q f s r=>by
  split at q
  .rename_i d
   obtain⟨v,vr,rfl,rv,rr⟩:=r.uncons;have:=rr.unnil;subst this;split at q
   .rename_i l e1
    obtain⟨T1,a1,us,rfl,c1,s1⟩:=rv.sq e1;exact⟨a1,T1,us,rfl,c1.sqv .self,k _ _ ρ1 _ H1 q f s<|d53 c1 s1⟩
   .exact q.elim
  .exact q.elim⟩
def cY8 (ta:UA):UI:=λρ Q=>ta ρ λds ρ1=>match ds with
 | [.int j]=>(-(2^31)<=j/\j<2^31)/\Q j.toNat (λk=> .int ((j.toNat:Int)-1-k)) ρ1
 | _=>False
theorem cY9 {ta:UA}{q2 pos2:Pos}(hg:Gl X "reversed")(hm:X.mg "reversed"=none)(hg2:Gl X "range")(hm2:X.mg "range"=none)(ha:PUA X [a] ta)(hs:↥(starEach [a] X.env=[(false,eval a X.env)]))
  (hs2:↥(starEach [.Call (.Name "range" q2) [a] [] pos2] X.env=[(false,eval (.Call (.Name "range" q2) [a] [] pos2) X.env)])) :
  PUI X tg (.Call (.Name "reversed" p) [.Call (.Name "range" q2) [a] [] pos2] [] pos) (cY8 ta):=
 aW4 (cE0 hg hm hg2 hm2 ha hs hs2) λσ H R ⟨C,ρ,Q0,I,h,k⟩=>⟨C,ρ,_,I,h,λds ρ1 vs H1 q f s r=>by
  split at q
  .rename_i j
   obtain⟨v,vr,rfl,rv,rr⟩:=r.uncons;have:=rr.unnil;subst this;have:=bS rv;subst this;obtain⟨⟨h1,h2⟩,q⟩:=q;exact⟨j,rfl,h1,h2,k _ _ ρ1 _ H1 q f s bX4⟩
  .exact q.elim⟩
end
end M
end
section
namespace L2
theorem b46:fillsNumberSlot (.type "tuple") "mul"=pure false:=
 PySem.fillsNumberSlot_seq (id:="tuple.__mul__") (r:=some (.builtin "tuple.__rmul__")) PySem.F.slot_tuple_mul.lookup af PySem.F.slot_tuple_rmul.lookup af
theorem c57:seqRepeat? (.type "tuple")=pure (some<|.builtin "tuple.__mul__"):=by
 unfold seqRepeat?;rw[PySem.seqSlot_of (T:="tuple") (name:="__mul__") (id:="tuple.__mul__") PySem.F.slot_tuple_mul.lookup af,PySem.seqSlot_of (T:="tuple") (name:="__rmul__") (id:="tuple.__rmul__") PySem.F.slot_tuple_rmul.lookup af]
 rfl
theorem bH5 (a:Int)(t:Tok)(l:Addr)(items:Array Value)(n:Nat)(dd:Option Addr)(sl:Array (Option Value)) :
  Meets (Builtin.«int.__rmul__» ⟨[.int a t,.ref l],[]⟩) (λ_ R s=>s.heap.get? l=some {cls:= .type "tuple",dict:=dd,data:= .seq items n,slots:=sl}/\R (.ok<|.ret Value.notImplemented) s):=
 .of_wp λprog w A R s h=>by obtain⟨hp,g,d,tk,os⟩:=s;obtain⟨hl,h⟩:=h;wp_walk using kM hl;exact⟨_,rfl,h⟩
theorem dF7 (l:Addr)(items:Array Value)(n:Nat)(dd:Option Addr)(sl:Array (Option Value))(u:Tok) :
  Meets (Builtin.«tuple.__mul__» ⟨[.ref l,.int 1 u],[]⟩) (λ_ R s=>s.heap.get? l=some {cls:= .type "tuple",dict:=dd,data:= .seq items n,slots:=sl}/\R (.ok<|.ret<|.ref l) s):=
 .of_wp λprog w A R s h=>by
  obtain⟨hp,g,d,tk,os⟩:=s;obtain⟨hl,h⟩:=h;have f1:=aR2
  wp_walk using kM hl
  exact⟨_,rfl,h⟩
theorem dF8 (l:Addr)(items:Array Value)(n:Nat)(dd:Option Addr)(sl:Array (Option Value))(k:Int)(u:Tok)(h1: ¬(k< -(2^63)||k≥2^63)=true)(hne: ¬(items.isEmpty||k==1)=true)(h0:(k<=0||items.isEmpty)=true) :
  Meets (Builtin.«tuple.__mul__» ⟨[.ref l,.int k u],[]⟩) (λ_ R s=>s.heap.get? l=some {cls:= .type "tuple",dict:=dd,data:= .seq items n,slots:=sl}/\R (.ok<|.ret<|.ref s.heap.objs.size) {s with heap:=s.heap.push {cls:= .type "tuple",data:= .seq #[]}}):=
 .of_wp λprog w A R s h=>by
  obtain⟨hp,g,d,tk,os⟩:=s;obtain⟨hl,h⟩:=h;have f1:=aR2
  wp_walk using kM hl
  rw[a7 h1]
  wp_walk using kM hl
  exact⟨_,rfl,h⟩
theorem dF9 (l:Addr)(items:Array Value)(n:Nat)(dd:Option Addr)(sl:Array (Option Value))(k:Int)(u:Tok)(h1: ¬(k< -(2^63)||k≥2^63)=true)(hne: ¬(items.isEmpty||k==1)=true)(h0: ¬(k<=0||items.isEmpty)=true)
  (h2: ¬items.size*k>(2^63-1)/8) (h3: ¬Builtin.Tuple.tupleTooMany (items.size*k)=true) (hz:(foldl (λx1 x2=>x1++x2) #[] (replicate k.toNat items)).size<=sizeLine) :
  Meets (Builtin.«tuple.__mul__» ⟨[.ref l,.int k u],[]⟩) (λ_ R s=>s.heap.get? l=some {cls:= .type "tuple",dict:=dd,data:= .seq items n,slots:=sl}/\R (.ok<|.ret<|.ref s.heap.objs.size) {s with heap:=s.heap.push {cls:= .type "tuple",data:= .seq (foldl (λx1 x2=>x1++x2) #[] (replicate k.toNat items))}}):=
 .of_wp λprog w A R s h=>by
  obtain⟨hp,g,d,tk,os⟩:=s;obtain⟨hl,h⟩:=h;have f1:=aR2
  wp_walk using kM hl
  rw[a7 h1]
  wp_walk using kM hl
  rw[a7 h2]
  wp_walk using kM hl
  all_goals first
   | exact⟨_,rfl,h⟩
   | (refine wpAny_ite_false (gE<|Nat.not_lt.mpr hz) ?_
      wp_walk using kM hl
      exact⟨_,rfl,h⟩)
section
variable {X:Cx}
theorem dV7:OpR X (binaryOp .Mult) (λx y H Q=> ∃a k xs,x= .ref a/\y= .int k/\SqT X.K H a xs/\xs≠[]/\ -(2^63)<=k/\k<2^63/\xs.length*k.toNat<=sizeLine/\(k=1->Q (.ref a) H)/\(k≠1-> ∀p,H p=none->Q (.ref p) (upd H p<|.tup (replicate k.toNat xs).flatten))):=by
 intro pins s σ H x y v u Q I rx ry h;obtain⟨a,k,xs,rfl,rfl,ha,hn,h1,h2,hz,q1,q2⟩:=h;cases rx;obtain⟨t,rfl⟩:=ry;obtain⟨its,r,p1,_⟩:=I.tuple ha;have hl:=r.length;obtain⟨⟨cls,dd,data,sl⟩,ho,hc,n,hd⟩:=id p1;simp only at hc hd;subst hc hd;have ne:its≠[]:=λz=>hn (u7.mp (by rw[hl,z];rfl))
 have ne2:its.toArray.isEmpty=false:=by cases its with
  | nil=>exact absurd rfl ne
  | cons b r'=>rfl
 have hb: ¬(decide (k< -(2^63))||decide (k≥2^63))=true:=by simp;omega
 have f0: ∀m:Nat,foldl (λx1 x2=>x1++x2) #[] (replicate m its.toArray)=(replicate m its).flatten.toArray:=λm=>by
  have:=foldl_rep its m [];rw[a15]at this;exact this
 refine wpAny_binaryOp_repeat_ref (T:="tuple") (U:="int") ac ⟨_,ho,rfl⟩ (λs'=>qS s' k t) b46 PySem.F.fills_int_mul PySem.F.slot_int_rmul c57 PySem.F.slot_int_index.lookup
  (kS PySem.F.slot_int_rmul (qS s k t) PySem.F.entry_int_rmul (PySem.F.args_int_rmul_2 _ _) (bH5 k t a its.toArray n dd sl) ⟨ho,rfl,⟨_,ho,rfl⟩,?_⟩)
 by_cases k1:k=1
 .subst k1;exact kS aO6 ⟨_,ho,rfl⟩ aO0 (aN7 _ _) (dF7 a its.toArray n dd sl t) ⟨ho,.ref a,H,I,rfl,q1 rfl⟩
 have hne: ¬(its.toArray.isEmpty||k==1)=true:=by rw[ne2];exists k1
 by_cases k0:k<=0
 .have e0:k.toNat=0:=aa
  refine kS aO6 ⟨_,ho,rfl⟩ aO0 (aN7 _ _) (dF8 a its.toArray n dd sl k t hb hne<|by simp[k0]) ⟨ho,?_⟩
  have q:=q2 k1;rw[e0]at q;exact⟨.ref _,_,I.laid (t':=s.toks) (o:= .tup []) (λb ob q=>aV _ q) (aH _) ⟨dM _,_,.nil,qT _ _⟩,rfl,q _ I.fresh⟩
 .have ek:k=(k.toNat:Int):=aa
  have em:(its.toArray.size:Int)*k=((its.toArray.size*k.toNat:Nat):Int):=by rw[aR7,<-ek]
  have hs:its.toArray.size*k.toNat<=sizeLine:=by rw[bG,<-hl];exact hz
  have hcap:(sizeLine:Nat)<=(2^63-1)/8:=ac
  refine kS aO6 ⟨_,ho,rfl⟩ aO0 (aN7 _ _) (dF9 a its.toArray n dd sl k t hb hne (by rw[ne2];simp;omega) (by rw[em];omega) (by rw[em];unfold Builtin.Tuple.tupleTooMany;rw[gD];omega) (by rw[f0,bG,c45,mul_comm];exists hs)) ⟨ho,?_⟩
  rw[f0];exact⟨.ref _,_,I.laid (t':=s.toks) (o:= .tup (replicate k.toNat xs).flatten) (λb ob q=>aV _ q) (aH _) ⟨by rw[c45,mul_comm];exact hz,_,r.rep k.toNat,qT _ _⟩,rfl,q2 k1 _ I.fresh⟩
end
theorem dG0:typeLookup (.type "tuple") "__reversed__"=pure none:=by rw[a17,a00];kernel_rfl
theorem sub_tuple_dict:isSubtype (.type "tuple") (.type "dict")=pure false:=by rw[qM];kernel_rfl
theorem bX5:Manifest.owners.lookup (String.ofList ['d','e','s','r','e','v','e','r'].reverse)=some Manifest.sig_reversed:=by kernel_rfl
theorem nI:Slot "reversed" "__next__" "reversed.__next__":=
 .of (owner:="reversed") (n:="__next__") (by rw[a17,a00];kernel_rfl) af af af
  (by first|exact .inl af|exact .inr af) (by rw[qM];kernel_rfl)
theorem aC3:entryFor table "reversed.__next__"=some Builtin.«reversed.__next__» :=entryFor_of_tree (by kernel_rfl)
theorem a92 (a:Value):argsOk "reversed.__next__" ⟨[a],[]⟩:=by
 unfold argsOk;rw[signature?_of (id:="reversed.__next__") (n:=['_','_','t','x','e','n','_','_']) (o:=['d','e','s','r','e','v','e','r']) (by kernel_rfl) bX5];kernel_rfl
theorem aL8:Slot "reversed" "__iter__" "reversed.__iter__":=
 .of (owner:="reversed") (n:="__iter__") (by rw[a17,a00];kernel_rfl) af af af
  (by first|exact .inl af|exact .inr af) (by rw[qM];kernel_rfl)
theorem bB9 (a:Value):argsOk "reversed.__iter__" ⟨[a],[]⟩:=by
 unfold argsOk;rw[signature?_of (id:="reversed.__iter__") (n:=['_','_','r','e','t','i','_','_']) (o:=['d','e','s','r','e','v','e','r']) (by kernel_rfl) bX5];kernel_rfl
theorem bH6:entryFor table "reversed.__iter__"=some Builtin.«dict_keyiterator.__iter__» :=
 entryFor_alias (id':="dict_keyiterator.__iter__") (by kernel_rfl) (by first|rfl|decide +kernel| (unfold String.splitOn;simp +decide [String.splitOnAux])) af (by kernel_rfl)
theorem bR8:Slot "reversed" "__init__" "object.__init__":=
 .of (owner:="object") (n:="__init__") (by rw[a17,a00];kernel_rfl) af af af
  (by first|exact .inl af|exact .inr af) (by rw[qM];kernel_rfl)
theorem cR3:TypeCalled "reversed" "reversed.__new__" "object.__init__":=
 ⟨af,af,⟨_,_,PySem.F.mro_reversed⟩,PySem.F.made_reversed,af,by rw[qM];kernel_rfl,bR8⟩
theorem dV8 (l:Addr)(items:Array Value)(hfit:(items.size:Int)<2^63) :
  Meets (Builtin.«reversed.__new__» ⟨[.type "reversed",.ref l],[]⟩) (λ_ R s=>s.heap.IsTuple l items/\R (.ok<|.ret<|.ref s.heap.objs.size) {s with heap:=s.heap.push {cls:= .type "reversed",data:= .fields #[.ref l,rawInt<|(items.size:Int)-1]},toks:=s.toks+1+1}):=
 .of_wp λprog w A R s h=>by
  obtain⟨hp,g,d,tk,os⟩:=s;obtain⟨ht,h⟩:=h;obtain⟨⟨c,dct,dt,sl⟩,hl,hc,n,hd⟩:=id ht
  replace hc:c= .type "tuple":=hc
  replace hd:dt= .seq items n:=hd
  subst hc hd;have f1:=PySem.F.sub_reversed_self;have f2:=dG0;have f4:=PySem.F.slot_tuple_getitem.lookup;have f5:=sub_tuple_dict;have e1:IsTup (Shared.heap ⟨hp,g,d,tk,os⟩) l items:=ht
  wp_walk using kM hl,PyProof.Rows.len_tuple e1 hfit
  exact⟨_,rfl,h⟩
def uY (h:Heap)(a l:Addr)(i:Int):Prop:= ∃o,h.get? a=some o/\o.cls= .type "reversed"/\o.data= .fields #[.ref l,rawInt i]
theorem uY.at {i:Int}(x:uY h a l i)(e: ∀o,h.get? a=some o->h'.get? a=some o):uY h' a l i:=let ⟨o,ho,r⟩:=x;⟨o,e _ ho,r⟩
section
variable {prog:Program}{w:World}{A:Around}{E:Value->Shared->Prop}{s:Shared}
theorem uY.typeIs {i:Int}(x:uY s.heap a l i):s.TypeIs (.ref a) "reversed":=let ⟨o,ho,hc,_⟩:=x;⟨o,ho,hc⟩
theorem dG1 (hl:s.heap.IsTuple l items)(hfit:(items.size:Int)<2^63)
  (h:Q (.ref s.heap.objs.size) {s with heap:=s.heap.push {cls:= .type "reversed",data:= .fields #[.ref l,rawInt<|(items.size:Int)-1]},toks:=s.toks+1+1}) :
  wpAny (model prog w) A (call (.type "reversed") [.ref l]) Q E s:=
 callType_new cR3 ac (PySem.F.typeCall_reversed_1 _) (PySem.F.newCall_reversed_1 _) (λobj=>PySem.F.args_object_init_2 obj _) PySem.F.entry_reversed_new (dV8 l items hfit) ⟨hl,⟨_,cC _ rfl,rfl⟩,h⟩
theorem bH7 {i:Int}(hit:uY s.heap it l i)(h:Q (.ref it) s):wpAny (model prog w) A (pyIter<|.ref it) Q E s:=by
 refine wpAny_pyIter_slot hit.typeIs aL8 (jI aL8 hit.typeIs bH6 ?_<|bB9 _)
 show wpAny _ _ (ret<|.ref it) _ _ s
 exact aL ⟨_,rfl,"reversed",_,hit.typeIs,nI.lookup,h⟩
theorem dG2 {x:Value}{Q:Option Value->Shared->Prop}(hit:uY s.heap it l (i:Int))(hl:s.heap.IsTuple l items)(hx:items[i]? =some x)(hfit:(i:Int)<2^63)
  (hQ: ∀h' tk,uY h' it l ((i:Int)-1)->SameBut it s.heap h'->Q (some x) {s with heap:=h',toks:=tk}):wpAny (model prog w) A (pyNext<|.ref it) Q E s:=by
 obtain⟨o,ho,hc,hd⟩:=id hit;have hlt:i<items.size:=(Array.getElem?_eq_some_iff.mp hx).1;have hi:seqIndex? (i:Int) items.size=some i:=by
  unfold seqIndex?;simp
  lia
 have tl:s.TypeIs (.ref l) "tuple":=hl.typeIs;unfold pyNext;refine aA (nY (lL (name:=Str.ofString "__next__") hit.typeIs nI
  (jI nI hit.typeIs aC3 ?_<|a92 _)))
 unfold Builtin.«reversed.__next__»;refine aA (jM (a:=(Value.ref it,[])) rfl ?_);try right
 refine aA (d6 ho hd (x:= .ref l) rfl ?_)
 refine aA (d6 ho hd (x:=rawInt (i:Int)) rfl ?_)
 show wpAny _ _ (if(i:Int)<0 then _ else _) _ _ s
 rw[a7 ad]
 try right
 refine aA (wpAny_specialOf tl PySem.F.slot_tuple_getitem.lookup ?_)
 try right
 rw[a7 ae]
 refine aA (wpAny_mkInt ?_)
 have ht:IsTup s.heap l items:=hl;refine aA (nY<|PyProof.Rows.getItem_tuple (s:={s with toks:=s.toks+1}) ht ad hfit hi hx ?_)
 try right
 refine aA (d6 ho hd (x:=rawInt (i:Int)) rfl ?_)
 show wpAny _ _ (setField (.ref it) 1 (rawInt<|(i:Int)-1) >>= _) _ _ _
 refine aA (uG ho hd ae ?_)
 refine aL ⟨x,rfl,aL<|hQ _ _ ?_<|uA ..⟩
 exact⟨_,pW _ ho<|aO8<|qD hd _,(Obj.cls_mapFields ..).trans hc,by
  rw[qD hd];simp⟩
theorem dV9 {it l:Addr}{Q:Option Value->Shared->Prop}(hh:A.handled=none)(hit:uY s.heap it l (-1))
  (hQ: ∀h',ExtBut it s.heap h'->Q none {s with heap:=h'}):wpAny (model prog w) A (pyNext<|.ref it) Q E s:=by
 obtain⟨o,ho,hc,hd⟩:=id hit;unfold pyNext;refine aA (nY (lL (name:=Str.ofString "__next__") hit.typeIs nI
  (jI nI hit.typeIs aC3 ?_<|a92 _)))
 unfold Builtin.«reversed.__next__»;refine aA (jM (a:=(Value.ref it,[])) rfl ?_);try right
 refine aA (d6 ho hd (x:= .ref l) rfl ?_)
 refine aA (d6 ho hd (x:=rawInt (-1)) rfl ?_)
 show wpAny _ _ (if(-1:Int)<0 then _ else _) _ _ s
 rw[a9 ac]
 refine aA (lW ?_)
 refine aA ?_
 show wpAny _ _ (setField (.ref it) 1 (rawInt<|-1) >>= λ_=>setField (.ref it) 0 .none) _ _ s
 refine aA (uG ho hd ae ?_)
 refine uG (pW _ ho<|aO8<|qD hd _) (qD hd _) ae ?_
 first
 | show wpAny _ _ (newExc (.type "StopIteration") [] >>= _) _ _ _
 | (refine aA ?_;show wpAny _ _ (newExc (.type "StopIteration") [] >>= _) _ _ _)
 refine aA ?_
 simp only[newExc,newTuple];refine aA (jG ?_<|by size_fits)
 refine aA (m:=firstArgMember _ _) (jM (a:=Value.none) (by first|rfl| (simp only[firstArgMember];rfl)) ?_)
 refine jG ?_ (by size_fits)
 simp only[raiseNew];refine aA (wpAny_handled ?_)
 first|rw[show A.in1.handled=none from hh]|rw[hh]
 refine aA (aL<|wpAny_throw ?_)
 refine aA (wpAny_isInstance (T:="StopIteration") (b:=true) ⟨_,cC _ rfl,rfl⟩ isSubtype_stop ?_)
 refine aL (hQ _ ?_)
 exact((((uA ..).trans<|uA ..).extBut.push _).push _)
end
nonrec def Itv (K:PySem.W.Frag)(l:Addr)(n:Nat):It where
 go:=λi H=>i<n/\ ∃xs,SqT K H l xs/\xs.length=n
 yld:=λi H v H'=>H'=H/\ ∀xs,SqT K H l xs->xs[n-1-i]? =some v
 stop:=λi H=>i=n
theorem dG3 (n:Nat)(hz:n<=sizeLine):c37 P w K tg (Itv K l n) [it] it (λi h=>uY h it l ((n:Int)-1-(i:Int))) where
 mem:=ae
 obj:=λi h st b hb=>by
  have e:b=it:=by exists hb
  subst e;obtain⟨o,ho,_,hd⟩:=st;exact⟨o,ho,λv z=>by rw[hd]at z;cases z⟩
 keep:=λi h h' st k=>st.at λo e=>k it ae _ e
 item:=by
  intro X hP hw hK hc i pins s σ H E I hf st hg;subst hP hw hK;obtain⟨f0,f1,f2,f3,f4,f5⟩:=hf it ae
  obtain⟨hi,xs,hq,hl⟩:=hg;obtain⟨its,r,p,_⟩:=I.tuple hq;have hlen:=r.length;have hx:xs[n-1-i]? =some (xs[n-1-i]'ad):=aU ad
  obtain⟨u1,hu1,ru1⟩:=r.get hx;have e1:(n:Int)-1-(i:Int)=((n-1-i:Nat):Int):=ad
  have st':=st;rw[e1]at st';have big:(sizeLine:Int)<2^63:=ac
  refine dG2 (items:=its.toArray) (x:=u1) st' p (by exists hu1) ad λh' tk hr m=> ?_
  have I1:Inv X pins σ H {s with heap:=h',toks:=tk}:=I.turned (λb o hb e=>m.extBut _ _ (by exists hb) e) f0 f1 f3 f4 f5
  have e2:((n-1-i:Nat):Int)-1=(n:Int)-1-((i+1:Nat):Int):=ad
  rw[e2]at hr;obtain⟨o,ho,hoc,hod⟩:=id hr;exact⟨_,rfl,bV4 (s:={s with heap:=h',toks:=tk}) (n:="reversed") ho hoc hod ac ⟨xs[n-1-i]'ad,H,I1,ru1,⟨rfl,λys hy=>by rw[I.tuple_inj hy hq];exact hx⟩,hr,λb hb=>(hf b hb).1⟩⟩
 done:=by
  intro X hP hw hK hc i pins s σ H E I hf st hg;subst hP hw hK;obtain⟨f0,f1,f2,f3,f4,f5⟩:=hf it ae
  have hg':i=n:=hg;have st':=st;rw[hg',show(n:Int)-1-(n:Int)= -1 by lia]at st'
  exact dV9 (I.ok.hd hc) st' λh' eb=>⟨rfl,I.turned (t':=s.toks) (λb o hb e=>eb b o hb e) f0 f1 f3 f4 f5⟩
 self:=λ_ _ _ _ _ st h=>bH7 st h
section
variable {X:Cx}{tg:Expr}
def iRevT (K:PySem.W.Frag)(ta:TA):TI:=λσ H R=>ta σ H λvs H1=> ∃l xs,vs=[.ref l]/\SqT K H1 l xs/\R (Itv K l xs.length) H1
theorem dW0 {a:Expr}{ta:TA}(hg:Gl X "reversed")(hm:X.mg "reversed"=none)(ha:PA X [a] ta)(hs:↥(starEach [a] X.env=[(false,eval a X.env)])) :
  PI X tg (.Call (.Name "reversed" p) [a] [] pos) (iRevT X.K ta):=by
 intro pins s σ H R I h;refine Call_ (sP I hg hm PyProof.Rows.boot_reversed<|jC (thn (ha pos pins s σ H _ I h) λus s1 ⟨vs,H1,I1,r1,q1⟩=> ?_) hs rfl)
 obtain⟨l,xs,e,q1,q⟩:=q1;subst e;obtain⟨u,rfl,r⟩:=vals1 r1;cases r;obtain⟨its,rv,p1,hz⟩:=I1.tuple q1;have hl:=rv.length;have big:(sizeLine:Int)<2^63:=ac
 refine dG1 p1 (by rw[bG];lia) ?_
 have hi:uY (s1.heap.push {cls:= .type "reversed",data:= .fields #[.ref l,rawInt<|(its.toArray.size:Int)-1]}) s1.heap.objs.size l ((xs.length:Int)-1-((0:Nat):Int)):=⟨_,cC _ rfl,rfl,by
  rw[bG,hl];simp⟩
 refine bH7 (s:={s1 with heap:=s1.heap.push {cls:= .type "reversed",data:= .fields #[.ref l,rawInt<|(its.toArray.size:Int)-1]},toks:=s1.toks+1+1}) hi ?_
 refine⟨_,[s1.heap.objs.size],_,_,H1,rfl,I1.kept (t':=s1.toks+1+1) λb o e=>aV _ e,dG3 xs.length hz,hi,λb hb=> ?_,q⟩
 have e:b=s1.heap.objs.size:=by exists hb
 subst e;exact I1.fpOk (aH _) (I1.hok.fresh<|aH _)
end
end L2
namespace M
section
variable {X:Cx}{A:AS}{H:Hp}{K:PySem.W.Frag}{pos:Pos}{a:Expr}
theorem d54 {vs:List V}{l:List D}(c1:SqA K A H true l1 vs)(r1:cE K A H l vs):cD0 K A H (Itv K l1 vs.length) l.length (λi=>l.getD (l.length-1-i) .non):=by
 have k1:=r1.length;refine⟨λA' H' i P hi=>⟨aa,vs,c1.sqv P,rfl⟩,λA' H' i x H'' P hA hi y=> ?_,λA' H' P=>k1⟩
 obtain⟨x1,e1,q1⟩:=r1.at (i:=l.length-1-i) aa
 obtain⟨e,ha⟩:=y;subst e;have ea:=ha vs (c1.sqv P);rw[<-k1,e1]at ea;cases ea;exact⟨.refl _,q1.mono P⟩
def cZ0 (ta:UA):UI:=λρ Q=>ta ρ λds ρ1=>match ds with
 | [.tup l]=>Q l.length (λi=>l.getD (l.length-1-i) .non) ρ1
 | _=>False
theorem cZ1 {ta:UA}(hg:Gl X "reversed")(hm:X.mg "reversed"=none)(ha:PUA X [a] ta)(hs:↥(starEach [a] X.env=[(false,eval a X.env)])) :
  PUI X tg (.Call (.Name "reversed" p) [a] [] pos) (cZ0 ta):=
 aW4 (dW0 hg hm ha hs) λσ H R ⟨C,ρ,Q0,I,h,k⟩=>⟨C,ρ,_,I,h,λds ρ1 vs H1 q f s r=>by
  split at q
  .rename_i l
   obtain⟨v,vr,rfl,rv,rr⟩:=r.uncons;have:=rr.unnil;subst this;simp only[Rep]at rv;obtain⟨a1,us,rfl,c1,s1⟩:=rv;have c2:SqA _ _ _ true a1 us:=c1;exact⟨a1,us,rfl,c2.sqv .self,k _ _ ρ1 _ H1 q f s<|d54 c2 s1⟩
  .exact q.elim⟩
def bX6 (d e:D)(Q:B->Prop):Prop:=match d,e with
 | .tup l,.int k=>(l≠[]/\ -(2^63)<=k/\k<2^63/\l.length*k.toNat<=sizeLine)/\Q (.pu<|.tup (replicate k.toNat l).flatten)
 | _,_=>False
theorem c58:OpU X (binaryOp .Mult) bX6:=by
 intro A H d e v w Q0 Q hA r1 r2 g k;unfold bX6 at g;split at g
 .rename_i l kk
  have:=bS r2;subst this;simp only[Rep]at r1;obtain⟨a,vs,rfl,c1,rs1⟩:=r1;obtain⟨⟨h0,h1,h2,h3⟩,g⟩:=g;refine⟨_,dV7,a,kk,vs,rfl,rfl,c1.imp cV id,λz=>h0 ?_,h1,h2,by rw[<-rs1.length];exact h3,λz=> ?_,λz p n=>k _ _ _ g (fE n _) (j2 hA n<|rs1.rep _)⟩
  .have:=rs1.length;rw[z]at this;exact u7.mp this
  .subst z;refine k _ _ H g (.refl _) ?_;show Rep X.K A H (.tup _) (.ref a);simp only[Rep];exact⟨a,vs,rfl,c1,by exists rs1⟩
 .exact g.elim
end
section
variable {X:Cx}
theorem bH8 {K:PySem.W.Frag}{A:AS}{H:Hp}: ∀r:List Int,cE K A H (r.map D.int) (r.map V.int)
 | []=> .nil
 | a::r=> .cons (by simp only[Rep]) (bH8 r)
theorem dW1 {r:List Int}(hg:Gl X x)(hm:X.mg x=some (.ref a))(hk:KT X.K a (r.map V.int))(hd:⇑(x∪0)):PU X (.Name x p) (uC<|.tup<|r.map .int):=
 bD8 (bD3 (v:= .ref a) hg hm rfl hd) λA H=>by
  simp only[Rep];exact⟨a,r.map V.int,rfl,.inr hk,bH8 r⟩
theorem kt_of {its:Array Value}{sl:Array (Option Value)}{vs:List V}(hl:K.lookup a=some ⟨.type "tuple",od,.seq its n,sl⟩)(hz:its.size<=sizeLine)(hv:Vals vs its.toList):KT K a vs:=
 ⟨_,its,n,hl,rfl,rfl,hz,hv⟩
end
end M
end
section
namespace L2
end L2
namespace M
section
variable {X:Cx}
theorem bt_any:bootBuiltins "any"=some (.builtin "any"):=af
end
end M
end
section
namespace L2
end L2
namespace M
section
variable {X:Cx}{a:Expr}{pos:Pos}{ta:UE}
nonrec def D.isN:D->Bool
 | .non=>true
 | _=>false
theorem cZ2 {K:PySem.W.Frag}{A:AS}{H:Hp}: ∀{d:D} {v:V},Rep K A H d v->decide (v= .non)=d.isN
 | .non,v,h=>by simp only[Rep]at h;subst h;rfl
 | .bl _,v,h=>by simp only[Rep]at h;subst h;rfl
 | .int _,v,h=>by simp only[Rep]at h;subst h;rfl
 | .str _,v,h=>by simp only[Rep]at h;subst h;rfl
 | .ty _,v,h=>by simp only[Rep]at h;subst h;rfl
 | .tup _,v,h=>by simp only[Rep]at h;obtain⟨a,vs,rfl,_⟩:=h;rfl
 | .lst _,v,h=>by simp only[Rep]at h;obtain⟨a,vs,rfl,_⟩:=h;rfl
 | .rol _,v,h=>by simp only[Rep]at h;obtain⟨a,vs,rfl,_⟩:=h;rfl
 | .obj _ _ _,v,h=>by simp only[Rep]at h;obtain⟨a,dx,vs,rfl,_⟩:=h;rfl
 | .adr _,v,h=>by simp only[Rep]at h;subst h;rfl
 | .xob _ _ _ _,v,h=>by simp only[Rep]at h;obtain⟨vs,rfl,_⟩:=h;rfl
def bR9 (neg:Bool)(t:UE):UE:=λρ Q=>t ρ λb ρ1=>Q (.pu<|.bl<|neg ^^ b.d.isN) ρ1
theorem lIsN (σ:L2.St)(H:Hp)(Q:VK)(h:lE X.K (bR9 false ta) σ H Q):tIsN (lE X.K ta) σ H Q:=by
 obtain⟨C,ρ,Q0,I,h,k⟩:=h;refine⟨C,ρ,_,I,h,λb ρ' v H' q f s r=> ?_⟩
 have e:=cZ2 (r.rep λa z=>I.avF f z)
 refine k _ ρ' _ H' q f s ?_
 show Rep _ _ _ _ _
 simp only[Rep,nW];rw[e]
theorem lNotN (σ:L2.St)(H:Hp)(Q:VK)(h:lE X.K (bR9 true ta) σ H Q):e39 (lE X.K ta) σ H Q:=by
 obtain⟨C,ρ,Q0,I,h,k⟩:=h;refine⟨C,ρ,_,I,h,λb ρ' v H' q f s r=> ?_⟩
 have e:=cZ2 (r.rep λa z=>I.avF f z)
 refine k _ ρ' _ H' q f s ?_
 show Rep _ _ _ _ _
 simp only[Rep,nX];rw[e]
theorem c59 {j pos'}(ha:PU X a ta):PUT X (.Compare a [.Is] [.Constant .none j pos'] pos) (cQ<|bR9 false ta):=bW3 (dA6<|pc_isN ha) λσ H Q h=>lIsN σ H _ (dT8 σ H Q h)
theorem cE2 {j pos'}(ha:PU X a ta):PUT X (.Compare a [.IsNot] [.Constant .none j pos'] pos) (cQ<|bR9 true ta):=bW3 (dA6<|dR6 ha) λσ H Q h=>lNotN σ H _ (dT8 σ H Q h)
end
section
variable {X:Cx}{st:Stmt}{sts:List Stmt}{e o:Expr}{pos:Pos}{t u:US}{te to:UE}{K:PySem.W.Frag}{C:C0}{ρ ρ':Ev}{σ:L2.St}{H H':Hp}
def aL9 (t:UT):UT:=λρ Q=>t ρ λb _=>Q b ρ
theorem aW9 {t:UT}(h:PUT X e t):PUT X e (aL9 t):=bW3 h λσ H Q ⟨C,ρ,Q0,I,h,k⟩=>⟨C,ρ,_,I,h,λb ρ' H' q f s=>k b ρ H' q (.refl _) s⟩
end
nonrec def ltL:List Int->List Int->Bool
 | [],[]=>false
 | [],_::_=>true
 | _::_,[]=>false
 | a::x,b::y=>if a=b then ltL x y else decide (a<b)
section
variable {prog:Program}{w:World}{A:Around}{E:Value->Shared->Prop}{s:Shared}
theorem dG4 {lt:Bool}{P:PySem.Fin->Shared->Prop}(ho:s.heap.get? a=some (seqObj "list" [u,v].toArray n))
  (hy: ∀h':Heap,(∀b o,b≠a->s.heap.get? b=some o->h'.get? b=some o)-> ∃κ:SortKind,
   (∀Q:SortKind->Shared->Prop,Q κ {s with heap:=h'}->wpAny (model prog w) A (keyKind' [u,v].toArray) Q (λ_ _=>False) {s with heap:=h'})/\
   (∀Q:Bool->Shared->Prop,Q lt {s with heap:=h'}->wpAny (model prog w) A (keyLt' κ v u) Q (λ_ _=>False) {s with heap:=h'}))
  (fi:P (.done<|.ret .none) {s with heap:=sortedHeap s.heap a [u,v] (if lt=true then [v,u].toArray else [u,v].toArray)}) :
  wpAny (model prog w) A (Builtin.«list.sort» ⟨[.ref a],[]⟩) P E s:=by
 rw[list_sort_plain];have la:a<s.heap.objs.size:=aW ho;refine aA (listItems_at ho rfl ?_);refine aA (listUpdate_at ho rfl ?_ (show 2<=sizeLine by decide) (dM _))
 obtain⟨c1,h1⟩: ∃c1,(s.heap.update a<|Obj.mapSeq λ_=> #[]).get? a=some (seqObj "list" #[] c1):=⟨_,get?_update_seq ho λ_=> #[]⟩
 refine aA (seqEpoch_at h1 rfl ?_)
 refine aA (wpAny_newTuple ?_<|show 2<=sizeLine by decide)
 refine aA (wpAny_newList ?_<|dM _)
 refine gG ?_
 have h6:(((s.heap.update a<|Obj.mapSeq λ_=> #[]).push<|seqObj "tuple" [u,v].toArray 0).push<|seqObj "list" #[] 0).get? a=some (seqObj "list" #[] c1):=by
  rw[qI _ _ _ (by rw[size_push',uF];exact bK (lN la))]
  rw[qI _ _ _ (by rw[uF];exact bK la)]
  exact h1
 have kp: ∀b o,b≠a->s.heap.get? b=some o->(((s.heap.update a<|Obj.mapSeq λ_=> #[]).push<|seqObj "tuple" [u,v].toArray 0).push<|seqObj "list" #[] 0).get? b=some o:=λb o ne q=>by
  have lb:b<s.heap.objs.size:=aW q;rw[qI _ _ _ (by rw[size_push',uF];exact bK (lN lb))]
  rw[qI _ _ _ (by rw[uF];exact bK lb),a04 _ _ _ _ ne]
  exact q
 obtain⟨κ,y1,y2⟩:=hy _ kp;show wpAny (model prog w) A _ P E {s with heap:=((s.heap.update a<|Obj.mapSeq λ_=> #[]).push<|seqObj "tuple" [u,v].toArray 0).push (seqObj "list" #[] 0)}
 right;have n2: ¬[u,v].toArray.size<2:=show ¬2<2 by decide
 rw[a7 n2,a7 n2];refine aA (bD (y1 (λk s'=>k=κ/\s'={s with heap:=((s.heap.update a<|Obj.mapSeq λ_=> #[]).push<|seqObj "tuple" [u,v].toArray 0).push (seqObj "list" #[] 0)}) ⟨rfl,rfl⟩) ?_ λ_ _ z=>z.elim)
 rintro k s' ⟨rfl,rfl⟩;refine aA (bD (PySem.W.kat_run (ks:=[u,v]) (vs:=[u,v]) (Q:=λst' s'=>s'={s with heap:=((s.heap.update a<|Obj.mapSeq λ_=> #[]).push<|seqObj "tuple" [u,v].toArray 0).push (seqObj "list" #[] 0)}/\failedOf st'=none/\(arrOf st').map (·.2)=(if lt=true then [v,u].toArray else [u,v].toArray))
  (G:=λp s'=>s'={s with heap:=((s.heap.update a<|Obj.mapSeq λ_=> #[]).push<|seqObj "tuple" [u,v].toArray 0).push (seqObj "list" #[] 0)}/\p=(if lt=true then #[1,0]else #[0,1]))
  rfl (show 2<=2 by decide) (show 2<64 by decide) (λp st' s' _ e2 e3 ⟨e4,e5⟩=>⟨e4,e3,?_⟩) ?_) ?_ λ_ _ z=>z)
 .rw[PySem.W.kat_snds rfl e2,e5];cases lt<;>rfl
 .show wpAny (model prog w) A (keyLt' k v u) _ (λ_ _=>False) _
  refine y2 _ ?_
  cases lt
  .exact⟨rfl,rfl⟩
  .refine⟨rfl,?_⟩
   rw[a9 rfl];dsimp only[List.length_cons,List.length_nil]
   decide +kernel
 .rintro⟨⟨⟩,st'⟩ s' ⟨rfl,e3,e4⟩;right;rw[e4];refine aA (seqEpoch_at h6 rfl ?_);refine aA (listUpdate_at h6 rfl ?_ (dM _) (by cases lt<;>exact(show 2<=sizeLine+1 by decide)))
  rw[e3];simp only[bne_self_eq_false,Bool.false_eq_true,fW];exact aL fi
theorem cR4 {lt:Bool}(hl:s.heap.IsList l [u,v].toArray)
  (hy: ∀(h':Heap) (A:Around),(∀b o,s.heap.get? b=some o->h'.get? b=some o)-> ∃κ:SortKind,
   (∀Q:SortKind->Shared->Prop,Q κ {s with heap:=h'}->wpAny (model prog w) A (keyKind' [u,v].toArray) Q (λ_ _=>False) {s with heap:=h'})/\
   (∀Q:Bool->Shared->Prop,Q lt {s with heap:=h'}->wpAny (model prog w) A (keyLt' κ v u) Q (λ_ _=>False) {s with heap:=h'}))
  (fi:Q (.ref<|s.heap.objs.size+1) {s with heap:=sortedAll s.heap [u,v] (if lt=true then [v,u].toArray else [u,v].toArray)}) :
  wpAny (model prog w) A (call (.builtin "sorted") [.ref l]) Q E s:=by
 refine Calls.call_function_entry kind_sorted plain_sorted entry_sorted (args_sorted1 _) ?_
 unfold Builtin.«sorted»;refine aA (m:=checkCount "sorted" 1 1 _) (aL ?_);refine aA (collect_list hl ?_<|show 2<=sizeLine by decide)
 refine aA (wpAny_newList ?_<|show 2<=sizeLine by decide)
 have hz:((s.heap.push<|seqObj "list" #[] 0).update s.heap.objs.size (Obj.mapSeq (· ++[u,v].toArray))).objs.size=s.heap.objs.size+1:=by rw[uF,size_push']
 have hL:(((s.heap.push<|seqObj "list" #[] 0).update s.heap.objs.size (Obj.mapSeq (· ++[u,v].toArray))).push<|seqObj "list" [u,v].toArray 0).get? (s.heap.objs.size+1)=some (seqObj "list" [u,v].toArray 0):=by
  rw[<-hz];exact cC _ rfl
 have kp: ∀b o,s.heap.get? b=some o->(((s.heap.push<|seqObj "list" #[] 0).update s.heap.objs.size (Obj.mapSeq (· ++[u,v].toArray))).push<|seqObj "list" [u,v].toArray 0).get? b=some o:=λb o q=>by
  have lb:b<s.heap.objs.size:=aW q;rw[qI _ _ _ (by rw[hz];exact bK (lN lb))]
  rw[a04 _ _ _ _<|bK lb,qI _ _ _<|bK lb];exact q
 show wpAny _ _ _ _ _ {s with heap:=((s.heap.push<|seqObj "list" #[] 0).update s.heap.objs.size (Obj.mapSeq (· ++[u,v].toArray))).push (seqObj "list" [u,v].toArray 0)}
 rw[hz];refine aA (gG<|jI slot_list_sort ⟨_,hL,rfl⟩ entry_list_sort (dG4 (lt:=lt) hL (λh' k=> ?_) ⟨_,rfl,?_⟩)<|args_list_sort _)
 .exact hy h' _ λb o q=>k b o (bK<|lN<|aW q) (kp b o q)
 .exact aL ⟨_,rfl,fi⟩
theorem cE3 {Q:Bool->Shared->Prop}{fin:Bool}: ∀(us ws:List Int) (x y:List Value) (i:Nat),Vals (us.map V.int) x->Vals (ws.map V.int) y->fin=decide (us.length<ws.length)->Q (ltL us ws) s->PySem.W.KatLex prog w A true fin Q (x.zip y) i s
 | [],[],x,y,i,hx,hy,hf,q=>by
  cases hx;cases hy;rw[hf];exact q
 | [],b::ws,x,y,i,hx,hy,hf,q=>by
  cases hx;rw[hf];exact q
 | a::us,[],x,y,i,hx,hy,hf,q=>by
  cases hx;cases hy;rw[hf];exact q
 | a::us,b::ws,x,y,i,hx,hy,hf,q=>by
  rw[bY]at hx hy;cases hx with
  | cons r1 hx=>
   cases hy with
   | cons r2 hy=>
    obtain⟨t1,rfl⟩:=r1;obtain⟨t2,rfl⟩:=r2;rw[aQ3];refine PySem.W.kat_cons (wpAny_eqBool_int ?_)
    by_cases c:a=b
    .subst c;rw[aR3];refine PySem.W.kat_yes (cE3 us ws _ _ (i+1) hx hy (by rw[hf];simp) ?_)
     unfold ltL at q;rw[a9 rfl]at q;exact q
    .rw[show(a==b)=false by simpa using c]
     refine PySem.W.kat_no ?_
     unfold ltL at q;rw[a7 c]at q;cases e:(true&&i==0)
     .exact PySem.W.kat_one _ _ (lt_int q)
     .exact oneLt_int q
end
section
variable {X:Cx}
theorem cR5:pN X (.builtin "sorted") (λxs H Q=> ∃(p a1 a2:Addr) (i j:Int) (us ws:List Int),xs=[.ref p]/\SqL X.K H p [.ref a1,.ref a2]/\SqT X.K H a1 ((i::us).map V.int)/\SqT X.K H a2 ((j::ws).map V.int)/\
  ∀l,H l=none->Q (.ref l) (upd H l<|.lst<|if ltL (j::ws) (i::us)=true then [.ref a2,.ref a1]else [.ref a1,.ref a2])):=by
 intro pins s σ H xs us' Q I r h;obtain⟨p,a1,a2,i,j,us,ws,rfl,hq,t1,t2,q⟩:=h;obtain⟨u,rfl,rx⟩:=vals1 r;cases rx;obtain⟨its,rv,pl,hz⟩:=I.list hq;obtain⟨x1,r1,k1,z1⟩:=I.tuple t1;obtain⟨x2,r2,k2,z2⟩:=I.tuple t2;cases rv with
 | cons g1 rv=>
 cases rv with
 | cons g2 rv=>
 cases rv;cases g1;cases g2;refine cR4 (lt:=ltL (j::ws) (i::us)) pl.isList (λh' A kp=> ?_) ?_
 .obtain⟨o1,ho1,hc1,n1,hd1⟩:=k1;obtain⟨o2,ho2,hc2,n2,hd2⟩:=k2;rw[bY]at r1 r2;cases r1 with
  | cons f1 r1=>
  cases r2 with
  | cons f2 r2=>
  have v1:Vals ((i::us).map V.int) _:= .cons f1 r1;have v2:Vals ((j::ws).map V.int) _:= .cons f2 r2;obtain⟨t1,rfl⟩:=f1;obtain⟨t2,rfl⟩:=f2;refine⟨tuples'<|Value.type "int" != Value.type "tuple",λQ' q'=> ?_,λQ' q'=> ?_⟩
  .refine PySem.W.kat_kind (fs:=[.int i t1,.int j t2]) (T:= .type "int") (.cons (kp _ _ ho1) hc1 hd1 rfl (.cons (kp _ _ ho2) hc2 hd2 rfl .nil)) (bW _) (λv hv=> ?_) ac q'
   rcases aZ.mp hv with rfl|hv
   .exact .now
   .rw[cR.mp hv];exact .now
  .have e:(Value.type "int" != Value.type "tuple")=true:=ac
   rw[e];refine PySem.W.kat_lt (kp _ _ ho2) hd2 (kp _ _ ho1) hd1 (cE3 _ _ _ _ 0 (by exists v2) (by exists v1) ?_ q')
   have l1:=v1.length;have l2:=v2.length;simp only[aG]at l1 l2;simp only[bG];rw[<-l1,<-l2]
 .refine⟨.ref<|s.heap.objs.size+1,_,?_,rfl,q (s.heap.objs.size+1)<|I.hok.fresh<|uL _⟩
  obtain⟨c,hc⟩:=sortedAll_at s.heap [Value.ref a1,Value.ref a2] (if ltL (j::ws) (i::us)=true then [Value.ref a2,Value.ref a1].toArray else [Value.ref a1,Value.ref a2].toArray);refine I.laid (t':=s.toks) (λb o e=>sortedAll_old e) (uL _) ?_
  by_cases e:ltL (j::ws) (i::us)=true
  .rw[a9 e]at hc⊢;exact⟨show 2<=sizeLine by decide,[.ref a2,.ref a1],c,.cons rfl (.cons rfl .nil),by rw[a9 e];exact hc⟩
  .rw[a7 e]at hc⊢;exact⟨show 2<=sizeLine by decide,[.ref a1,.ref a2],c,.cons rfl (.cons rfl .nil),by rw[a7 e];exact hc⟩
nonrec def cR6:List D->(B->Prop)->Prop:=g1 λd Q=> ∃(i j:Int) (us ws:List Int),d= .lst [.tup<|(i::us).map D.int,.tup<|(j::ws).map D.int]/\
 Q (.ow<|if ltL (j::ws) (i::us)=true then [.tup<|(j::ws).map D.int,.tup<|(i::us).map D.int]else [.tup<|(i::us).map D.int,.tup<|(j::ws).map D.int])
theorem dG5:uT X (.builtin "sorted") cR6:=by
 intro A H ds vs Q0 Q hA r g k;obtain⟨d,v,rfl,rfl,rv,i,j,us,ws,rfl,g'⟩:=aB7 g r;simp only[Rep]at rv;obtain⟨p,xs,rfl,np,hp,rl⟩:=rv;obtain⟨y1,yr,rfl,s1,rl⟩:=rl.uncons;obtain⟨y2,yr,rfl,s2,rl⟩:=rl.uncons;have:=rl.unnil;subst this;have s1':=s1;have s2':=s2;simp only[Rep]at s1 s2;obtain⟨a1,w1,rfl,c1,q1⟩:=s1;obtain⟨a2,w2,rfl,c2,q2⟩:=s2;have e1:=cE.unints q1;have e2:=cE.unints q2;subst e1 e2
 refine⟨_,cR5,p,a1,a2,i,j,us,ws,rfl,.inl<|.inl hp,c1.imp cV id,c2.imp cV id,λl hl=>k _ _ _ g' (fE hl _) ?_⟩
 cases ltL (j::ws) (i::us)
 .exact hX (.refl _) hl (.cons s1'<|.cons s2' .nil)
 .exact hX (.refl _) hl (.cons s2'<|.cons s1' .nil)
end
end M
end
section
namespace L2
end L2
namespace M
end M
end
section
namespace L2
end L2
namespace M
end M
end
section
namespace L2
end L2
namespace M
section
variable {X:Cx}{e:Expr}{es:List Expr}{pos:Pos}{te:UE}
theorem ilB (h:Nat.ble (i+1) X.N.length=true): ∀pins σ H s,Inv X pins σ H s->i<σ.length:=il rfl (Nat.le_of_ble_eq_true h)
theorem aP (i:Nat){pos:Pos}(h:PE X (.Name x pos) (aB0 i):=by exact pv _):PU X (.Name x pos) (aC i):=d3 i h
theorem bM (i:Nat){pos:Pos}(h:PE X (.Name x pos) (aB0 i):=by exact pv _):PUV X (.Name x pos) (aT i):=mZ i h
theorem sS (i:Nat)(hN:X.N.Nodup)(he:PU X e te)(hi:↥(X.N[i]? =some x))(hx:Loc X.env.scope x:=by walk_at "z")(hs:↥(swapsWith e (some<|.Name x pos') pos.line X.env=pure false))(hf:X.fn x=true\/X.env.scope.names.lookup x=some .local:=by walk_at "z")
  (hl: ∀pins σ H s,Inv X pins σ H s->i<σ.length:=by exact ilB rfl):PUS X (.Assign [.Name x pos'] e pos) (bF i te):=xA i hN hi hx he hs hf hl
theorem us_g {op:Operator}{g:D->D->(B->Prop)->Prop}(i:Nat)(hN:X.N.Nodup)(he:PU X e te)(ho:IpU X op g)(hi:↥(X.N[i]? =some x))(hx:Loc X.env.scope x:=by walk_at "z")(hf:X.fn x=true\/X.env.scope.names.lookup x=some .local:=by walk_at "z")
  (hl: ∀pins σ H s,Inv X pins σ H s->i<σ.length:=by exact ilB rfl):PUS X (.AugAssign (.Name x pos') op e pos) (cC9 i g te):=dD6 i hN hi hx he ho hf hl
theorem bU {a b:Expr}{ti:UE}{t:UV}(ha:PUV X a t)(hb:PU X b ti)(hs:aW2 b:=by exact λ_ _=>rfl):PU X (.Subscript a b pos) (uIx t ti):=aB4 ha hb hs
theorem cP {ps:List Str}{t:UA}(F:Fn X.prog X.w X.K X.mg X.base x ps k φ)(hr:gX k' X.A)(ha:PUA X (e::es) t)(hk:⇑(k<=k'))(hg:↥(Gl X x))(hdb:⇑(x∪0))
  (he:↥(starEach (e::es) X.env=(false,eval e X.env)::starEach es X.env)) (hpl:↥((backTo pos<|starEach es X.env).any (·.1)=false)):PU X (.Call (.Name x p) (e::es) [] pos) (aQ φ t):=yM F hr hk hg ha hdb he hpl
end
section
variable {X:Cx}{es:List Expr}{t:UA}
theorem b7 {i:Int}{j}(h:PUA X es t):PUA X (.Constant (.int i) j p::es) (a8 (uC<|.int i) t):=aE aD h rfl
theorem pQ {fs:List Expr}{j}{ta:UE}(a:PU X (.Tuple fs j p) ta)(h:PUA X es t):PUA X (.Tuple fs j p::es) (a8 ta t):=aE a h rfl
theorem sA {o:UnaryOp}{ta:UE}(a:PU X (.UnaryOp o e p) ta)(h:PUA X es t):PUA X (.UnaryOp o e p::es) (a8 ta t):=aE a h rfl
theorem aO (i:Nat)(h:PUA X es t)(a:PE X (.Name x p) (aB0 i):=by exact pv _):PUA X (.Name x p::es) (a8 (aC i) t):=aE (d3 i a) h rfl
structure WA (X:Cx)(es:List Expr)(t:UA):Prop where
 out:PUA X es t
theorem aC4:WA X [] aN:=⟨aB⟩
theorem aA4 {i:Int}{j}(h:WA X es t):WA X (.Constant (.int i) j p::es) (a8 (uC<|.int i) t):=⟨b7 h.out⟩
theorem d55 {i:Int}{j}{q:Pos}(h:WA X es t):WA X (.UnaryOp .USub (.Constant (.int i) j p) q::es) (a8 (lZ<|uC<|.int i) t):=⟨sA (gK aD) h.out⟩
theorem cR7 {fs:List Expr}{j}{tf:UA}(a:WA X fs tf)(h:WA X es t):WA X (.Tuple fs j p::es) (a8 (iR tf) t):=⟨pQ (eB a.out) h.out⟩
structure WS (X:Cx)(sts:List Stmt)(t:US):Prop where
 out:sR X sts t
theorem ws_of {sts:List Stmt}{u:US}(h:sR X sts u):WS X sts u:=⟨h⟩
theorem ws_lw {sts:List Stmt}{u:US}(h:WA X es t)(r:WS X sts u)(hN:X.N.Nodup)(hi:↥(X.N[i]? =some x))(hx:Loc X.env.scope x:=by walk_at "z")(hf:X.fn x=true\/X.env.scope.names.lookup x=some .local:=by walk_at "z")
  (hl: ∀pins σ H s,Inv X pins σ H s->i<σ.length:=by exact ilB rfl):WS X (.Assign [.Name x pos'] (.List es p) pos::sts) (aS (bF i<|gA t) u):=⟨bC (xA i hN hi hx (cH h.out) rfl hf hl) r.out⟩
end
abbrev GL:=List (Addr×List Int)
section
variable {X:Cx}{K:PySem.W.Frag}{C C':C0}{ρ ρ':Ev}{σ σ':L2.St}{H H' H0:Hp}{g g':GL}{r:Nat}{st:Stmt}{sts:List Stmt}{e:Expr}{pos:Pos}{t u:US}{te ti tj:UE}{tc:UT}
theorem cZ3 {m:Nat}(h:n<m):ixN m (n:Int)=some n:=by
 unfold ixN;rw[a9 aa,a9 aa]
 simp
end
end M
end
section
namespace L2
end L2
namespace M
end M
end
section
namespace L2
end L2
namespace M
section
variable {X:Cx}{e a b:Expr}{te ta tb:UE}{t u:US}{sts:List Stmt}{pos:Pos}
theorem fQ {g:D->D->(B->Prop)->Prop}(ho:OpU X (compareOp op) g)(ha:PU X a ta)(hb:PU X b tb)(hm:behindInMarks op b=false:=by exact aS0 _):PUT X (.Compare a [op] [b] pos) (cQ<|uOp g ta tb):=a35 ho ha hb hm
theorem cR8 {g:D->D->(B->Prop)->Prop}(ho:OpU X (compareOp op) g)(ha:PU X a ta)(hb:PU X b tb)(hm:behindInMarks op b=false:=by exact aS0 _):PU X (.Compare a [op] [b] pos) (uOp g ta tb):=pu_cmp ho ha hb hm
theorem bH (i:Nat)(hN:X.N.Nodup)(he:PU X e te)(r:sR X sts u)(hi:↥(X.N[i]? =some x))(hx:Loc X.env.scope x:=by walk_at "z")(hs:↥(swapsWith e (some<|.Name x pos') pos.line X.env=pure false))(hf:X.fn x=true\/X.env.scope.names.lookup x=some .local:=by walk_at "z")
  (hl: ∀pins σ H s,Inv X pins σ H s->i<σ.length:=by exact ilB rfl):sR X (.Assign [.Name x pos'] e pos::sts) (aS (bF i te) u):=bC (sS i hN he hi hx hs hf hl) r
theorem eM (h:PU X e te):sR X [.Return (some e) pos] (cW te):=aY (c48 h)
theorem c60 {tc:UT}(hc:PUT X c tc)(ha:sR X sts t):PUS X (.If c sts [] pos) (fS tc t dD):=cC8 hc ha c47
theorem gR {tc:UT}{r:List Stmt}(hc:PUT X c tc)(ha:sR X sts t)(hr:sR X r u):sR X (.If c sts [] pos::r) (aS (fS tc t dD) u):=bC (c60 hc ha) hr
theorem kU {ui:UI}(i:Nat)(hN:X.N.Nodup)(hi:PUI X (.Name x p) iter ui)(hb:sR X sts t)(hp:PassesOwn (model X.prog X.w) X.A X.env X.xe:=by exact iE)(hc:↥(X.calm=true))(hx:↥(X.N[i]? =some x))(hl:Loc X.env.scope x:=by walk_at "z")
  (hs: ∀x,foldedSetIterable iter X.env x=pure x:=by intro _;rfl) (hf:X.fn x=true\/X.env.scope.names.lookup x=some .local:=by walk_at "z"):PUS X (.For (.Name x p) iter sts [] pos) (gP ui (bO i) t):=b36 hp hc hi (mL i<|cG hN hx hl hf) hb hs
theorem mC (N:List Str)(esc:List (Str×NameKind))(XN:List Str){ui:UI}{tt:UT}(hi:PUI X (.Name x p) iter ui)(ht: ∀cl C s H fp pins,PTs (bT X N scope cl C s H fp pins) ifs<|lT X.K tt)(he: ∀cl C s H fp pins,PU (bT X N scope cl C s H fp pins) elt te)
  (he0:↥(X.env.scope.names=esc)) (hx0:↥(X.N=XN)) (lk:tX esc XN N cap scope last=true:=by decide +kernel) (hl:⇑(last<cap.length)) (hT:⇑(last ∉ [i])) (hc:↥(X.calm=true)) (hN:N.Nodup:=by decide +kernel) (hx:↥(N[i]? =some x)) (hy: ∀cl C s H fp pins,Loc (bT X N scope cl C s H fp pins).env.scope x:=by intro _ _ _ _ _ _;first|exact Or.inl rfl|exact Or.inr rfl)
  (hs: ∀x,foldedSetIterable iter X.env x=pure x:=by intro _;rfl) (hf: ∀cl C s H fp pins,(bT X N scope cl C s H fp pins).fn x=true\/(bT X N scope cl C s H fp pins).env.scope.names.lookup x=some .local:=by intro _ _ _ _ _ _;first|exact .inl rfl|exact .inr rfl|assumption):PU X (.ListComp elt [⟨.Name x p,iter,ifs,0⟩] scope pos) (dF js cap last ui (bO i) tt te):=
 yN he0 hx0 lk hl hT hc hi (λ_ _ _ _ _ _=>mL i (cG hN hx (hy ..)<|hf ..)) ht he hs
end
section
variable {X:Cx}{K:PySem.W.Frag}{ρ ρ':Ev}{σ σ':L2.St}{H H':Hp}
variable {o e e2:Expr}{te te2:UE}{x y:Str}{px py py2 apos cpos bpos fpos apos2 cpos2 epos:Pos}
end
end M
end
section
namespace L2
section
variable {X:Cx}{elt tg2 iter2:Expr}{c1:Comprehension}{ifs2:List Expr}{scope:Scope}{pos:Pos}
def dG6 (e i2:Expr)(acc:Value)(env:Env):Sem Unit:=do
 let x<-eval i2 env
 standAt i2.pos
 let x<-foldedSetIterable i2 env x
 let _<-runOwn (.compStart e 1 (<-holding [x] (pyIter x)) acc env) env
theorem dG7 {R:Result->Shared->Prop}{it acc:Value}
  (h0:codeAny (model P w) A (.compLoop (.ListComp elt [c1,⟨tg2,iter2,ifs2,0⟩] scope pos) 1 it acc env) R s)
  (h:wpAny (model P w) A (pyIter it) (λi' s'=>codeAny (model P w) A (.compLoop (.ListComp elt [c1,⟨tg2,iter2,ifs2,0⟩] scope pos) 1 i' acc env) R s') (notedBy (model P w) A env λx s'=>R (.error x) s') s) :
  codeAny (model P w) A (.compStart (.ListComp elt [c1,⟨tg2,iter2,ifs2,0⟩] scope pos) 1 it acc env) R s:=by
 refine aR6 ?_
 show wpAny _ _ ((compStart (.ListComp elt [c1,⟨tg2,iter2,ifs2,0⟩] scope pos) 1 it acc env).onRaise _) _ _ s
 refine wpAny_notedAt ?_
 unfold compStart;show wpAny _ _ (ask >>= _) _ _ s;refine aA (wpAny_askSetting<|wpAny_ite ?_);split
 .first
   | exact aA (aL<|aL ⟨rfl,h0⟩)
   | exact aL ⟨rfl,h0⟩
 .refine aA (lW ?_)
  show wpAny _ _ (standAt iter2.pos >>= _) _ _ s
  exact aA (kP<|aA<|bD h (λi' s' h'=>aL ⟨rfl,h'⟩) λ_ _ x=>x)
theorem dG8 {it acc:Value}:compTurn (.ListComp elt [⟨tg,iter,ifs,0⟩,⟨tg2,iter2,ifs2,0⟩] scope pos) 0 it acc env=a37 (.ListComp elt [⟨tg,iter,ifs,0⟩,⟨tg2,iter2,ifs2,0⟩] scope pos) 0 tg iter.pos ifs (dG6 (.ListComp elt [⟨tg,iter,ifs,0⟩,⟨tg2,iter2,ifs2,0⟩] scope pos) iter2 acc env) it acc env:=by
 unfold a37 dG6;simp only[bind_assoc,pure_bind];rfl
def tInn (wi2:TI)(g2:TG)(tt2:TT)(te:TE)(D:Addr)(σ:St)(H:Hp)(Nx:St->Hp->Prop):Prop:=wi2 σ H λJ H1=> ∃W:Nat->Nat->St->Hp->Prop,(∃m,W 0 m σ H1)/\ ∀i m σ' H',W i m σ' H'->
 (J.stop i H'/\Nx σ' H')\/(J.go i H'/\ ∃N:St->Hp->Prop,(∀σ2 H2,N σ2 H2-> ∃m',m'<m/\W (i+1) m' σ2 H2)/\ ∀x H2,J.yld i H' x H2->g2 x σ' H2 λσ3 H3=>tt2 σ3 H3 λc H4=>if c=true then tPut te D σ3 H4 N else N σ3 H4)
theorem dW2 {wi2:TI}{g2:TG}{tt2:TT}{te:TE}(hc:X.calm=true)(hx: ∀e s,¬X.xe e s)(hi:PI X tg2 iter2 wi2)(hg:PG X tg2 g2)(ht:PTs X ifs2 tt2)(he:PE X elt te)(hs: ∀x,foldedSetIterable iter2 X.env x=pure x:=by intro _;rfl) :
  PEm X (dG6 (.ListComp elt [c1,⟨tg2,iter2,ifs2,0⟩] scope pos) iter2) (tInn wi2 g2 tt2 te):=by
 intro D pins s σ H Nx I h;refine aA (thn (hi pins s σ H _ I h) λv s1 h1=>aA (kP<|aA<|jM (hs v)<|aA<|gG<|thn h1 λitv s2 h2=> ?_))
 obtain⟨ita,fp,tn,J,H2,rfl,I2,T,st2,f2,W,⟨m0,w0⟩,turn⟩:=h2;have stat: ∀{H':Hp},(∀b∈fp,H' b=none)-> ∀b∈fp,aR9 X pins H' b:=λhn b hb=>⟨hn b hb,(f2 b hb).2⟩
 have loop:codeAny (model X.prog X.w) X.A (.compLoop (.ListComp elt [c1,⟨tg2,iter2,ifs2,0⟩] scope pos) 1 (.ref ita) (.ref D) X.env) (λr s'=>r= .ok .next/\ ∃σ' H',Inv X pins σ' H' s'/\Nx σ' H') s2:=by
  refine rZ (target:=tg2) (p0:=iter2.pos) (ifs:=ifs2) (em:=e47 elt (.ref D) X.env) (λn s'=> ∃i σ' H',Inv X pins σ' H' s'/\tn i s'.heap/\(∀b∈fp,H' b=none)/\W i n σ' H') rfl ?_ m0 ⟨0,σ,H2,I2,st2,λb hb=>(f2 b hb).1,w0⟩
  rintro n s3 ⟨i,σ3,H3,I3,st3,fr3,w3⟩;rcases turn i n σ3 H3 w3 with⟨stop,qn⟩| ⟨go,N,hN,step⟩
  .refine bD (T.done X rfl rfl rfl hc i pins s3 σ3 H3 X.xe I3 (stat fr3) st3 stop) (λr s4 hr=> ?_) λe s z=>absurd z (hx e s)
   obtain⟨rfl,I4⟩:=hr;exact⟨rfl,σ3,H3,I4,qn⟩
  .refine bD (T.item X rfl rfl rfl hc i pins s3 σ3 H3 X.xe I3 (stat fr3) st3 go) (λr s4 hr=> ?_) λe s z=>absurd z (hx e s)
   obtain⟨u,rfl,h4⟩:=hr;refine bD h4 (λ_ s5 h5=> ?_) λe s z=>absurd z (hx e s)
   obtain⟨x,H5,I5,r5,y5,st5,fr5⟩:=h5;have I5':=I5.pinned (stat fr5) (T.obj _ _ st5);refine bD (hg _ s5 σ3 H5 x u _ I5' r5<|step x H5 y5) (λ_ s6 h6=> ?_) λe s z=>absurd z (hx e s)
   obtain⟨σ6,H6,I6,q6⟩:=h6;have again: ∀{σ7:St} {H7:Hp} {s7:Shared},Inv X (pins++b30 fp s5.heap) σ7 H7 s7->N σ7 H7-> ∃m,m<n/\ ∃i σ' H',Inv X pins σ' H' s7/\tn i s7.heap/\(∀b∈fp,H' b=none)/\W i m σ' H':=λ{σ7 H7 s7} I7 n7=>by
    obtain⟨m',hm,w7⟩:=hN σ7 H7 n7;refine⟨m',hm,i+1,σ7,H7,I7.unpinned,T.keep _ _ _ st5 λb hb o e=>(I7.pin (b,o)<|dX _<|dX _<|qU hb e).1,λb hb=> ?_,w7⟩
    obtain⟨o,e,d⟩:=T.obj _ _ st5 b hb;exact(I7.pin (b,o)<|dX _<|dX _<|qU hb e).2.1
   refine bD (ht _ s6 σ6 H6 _ I6 q6) (λc s7 h7=> ?_) λe s z=>absurd z (hx e s)
   obtain⟨H7,I7,q7⟩:=h7;cases c with
   | false=>exact again I7 q7
   | true=>
    rw[a9 rfl]at q7⊢;refine bD (c54 he D _ s7 σ6 H7 _ I7 q7) (λ_ s8 h8=> ?_) λe s z=>absurd z (hx e s)
    obtain⟨σ8,H8,I8,q8⟩:=h8;exact again I8 q8
 refine aA (wpAny_runOwn<|nZ (dG7 loop<|T.self _ 0 _ _ _ st2 loop) λr s' hr=> ?_)
 obtain⟨rfl,q⟩:=hr;exact aL q
end
end L2
namespace M
section
variable {X:Cx}{K:PySem.W.Frag}{last:Nat}{ui ui2:UI}{g g2:UG}{T T2:List Nat}{tt tt2:UT}{te:UE}
def dW3 (last:Nat)(ui2:UI)(g2:UG)(tt2:UT)(te:UE)(Nx:Ev->Prop)(ρ:Ev):Prop:=ui2 ρ λn it ρ1=> ∃Pv:Nat->Ev->Prop,Pv 0 ρ1/\
 (∀i ρ',i<n->Pv i ρ'->g2 (.pu<|it i) ρ' λρ2=>tt2 ρ2 λc ρ3=>if c=true then uPut last te (Pv<|i+1) ρ3 else Pv (i+1) ρ3)/\ ∀ρ',Pv n ρ'->Nx ρ'
theorem em_inn (hT:last ∉ T2):dE3 K last (dW3 last ui2 g2 tt2 te) (tInn (lI K ui2) (lG K T2 g2) (lT K tt2)<|lE K te):=by
 intro C ρ σ H Dn Nx NX J l3 q nx;refine⟨C,ρ,_,J,q,λn it ρ1 Jt H1 q1 f s ok=> ?_⟩
 obtain⟨Pv,p0,turn,fin⟩:=q1;have J1:=(J.frz f).same s;obtain⟨Jr,sub⟩:=J1.rz;refine⟨λi m σ' H'=>m=n-i/\i<=n/\σ'[last]? =some (some<|.ref Dn)/\ ∃ρ',EOk K (C.rz ρ1 σ H1) ρ' σ' H'/\Pv i ρ',⟨n,rfl,dM _,l3,ρ1,Jr,p0⟩,?_⟩
 rintro i m σ' H' ⟨rfl,hi,hlast,ρ',J',p'⟩;have P:=cY5 J'
 by_cases hlt:i<n
 .refine .inr ⟨ok.go _ _ i P hlt,λσ2 H2=>σ2[last]? =some (some<|.ref Dn)/\ ∃ρ3,EOk K (C.rz ρ1 σ H1) ρ3 σ2 H2/\Pv (i+1) ρ3,λσ2 H2 z=>⟨n-(i+1),aa,rfl,hlt,z⟩,λx H2 y=> ?_⟩
  obtain⟨s2,r2⟩:=ok.yld _ _ i x H2 P (λa z=>J'.avSome z) hlt y
  refine⟨_,ρ',.pu<|it i,H',_,J',s2,r2,turn i ρ' hlt p',λρ3 σ3 H3 q3 J3 same3=> ?_⟩
  have l4:=(same3 last hT).trans hlast;refine⟨_,ρ3,_,J3,q3,λc ρ4 H4 q4 f4 s4=> ?_⟩
  have J4:=(J3.frz f4).same s4;cases c with
  | false=>
   dsimp only at q4⊢;rw[a7 bN]at q4⊢;exact⟨l4,ρ4,J4,q4⟩
  | true=>
   dsimp only at q4⊢;rw[a9 rfl]at q4⊢;exact cQ6 _ ρ4 _ _ Dn _ _ J4 l4 q4 λρ5 σ5 H5 J5 l5 q5=>⟨l5,ρ5,J5,q5⟩
 .have e:i=n:=aa
  subst e;exact .inl ⟨ok.stop _ _ P,nx _ _ _ (J'.lower sub rfl J.a0) hlast<|fin ρ' p'⟩
variable {elt iter tg iter2 tg2:Expr}{ifs ifs2:List Expr}{scope:Scope}{pos spos py:Pos}{y:Str}{esc:List (Str×NameKind)}{N XN:List Str}{js:List Nat}{cap:List (Option Nat)}
theorem cE4 (i:Nat)(he0:X.env.scope.names=esc)(hx0:X.N=XN)(lk:tX esc XN N cap scope last=true)(hl:last<cap.length)(hT:last ∉ T)(hT2:last ∉ T2)(hc:X.calm=true)(hi:PUI X tg iter ui)
  (hg: ∀cl C s H fp pins,PUG (bT X N scope cl C s H fp pins) tg T g) (ht: ∀cl C s H fp pins,PTs (bT X N scope cl C s H fp pins) ifs<|lT X.K tt) (hi2: ∀cl C s H fp pins,PUI (bT X N scope cl C s H fp pins) tg2 iter2 ui2)
  (hg2: ∀cl C s H fp pins,PUG (bT X N scope cl C s H fp pins) tg2 T2 g2) (ht2: ∀cl C s H fp pins,PTs (bT X N scope cl C s H fp pins) ifs2<|lT X.K tt2) (he: ∀cl C s H fp pins,PU (bT X N scope cl C s H fp pins) elt te)
  (hy:PG X (.Name y py) (a91 i)) (hi': ∀pins σ H s,Inv X pins σ H s->i<σ.length) (hsw:↥(swapsWith (.ListComp elt [⟨tg,iter,ifs,0⟩,⟨tg2,iter2,ifs2,0⟩] scope pos) (some<|.Name y py) spos.line X.env=pure true))
  (hs: ∀x,foldedSetIterable iter X.env x=pure x:=by intro _;rfl) (hs2: ∀cl C s H fp pins x,foldedSetIterable iter2 (bT X N scope cl C s H fp pins).env x=pure x:=by intro _ _ _ _ _ _ _;rfl) :
  PUS X (.Assign [.Name y py] (.ListComp elt [⟨tg,iter,ifs,0⟩,⟨tg2,iter2,ifs2,0⟩] scope pos) spos) (bF i<|b42 js cap last ui g tt<|dW3 last ui2 g2 tt2 te):=
 b96 (js:=js) i (em_inn (T2:=T2) hT2) (λ_ _ _=>dG8) hc hi (eK.of he0<|hx0▸lk).1 (eK.of he0<|hx0▸lk).2 hl hT hg ht (λcl C s H fp pins=>dW2 hc (λ_ _ z=>z) (hi2 cl C s H fp pins) (hg2 cl C s H fp pins) (ht2 cl C s H fp pins) (he cl C s H fp pins) (hs2 cl C s H fp pins)) hy hi' hsw hs
end
abbrev GP:=List (Addr×List V)
end M
end
section
namespace L2
end L2
namespace M
end M
namespace L2
end L2
namespace M
end M
end
section
namespace L2
section
variable {X:Cx}
theorem cR9 (hc:X.calm=true):pN X (.builtin "any") (λxs H Q=> ∃(p:Addr) (ns:List Int),xs=[.ref p]/\SqT X.K H p (ns.map V.int)/\Q (.bl (ns.any (· != 0))) H):=by
 intro pins s σ H xs us Q I r h;obtain⟨p,ns,rfl,hq,q⟩:=h;obtain⟨u,rfl,rx⟩:=vals1 r;cases rx;obtain⟨its,rv,tp,hz⟩:=I.tuple hq;have tp':s.heap.IsTuple p its.toArray:=tp;refine call_any_walk (aQ2 tp' ?_);have hne:p≠s.heap.objs.size:=by
  obtain⟨o,e,_⟩:=tp;exact bK (aW e)
 have hl:=rv.length;rw[aG]at hl;refine⟨s.heap.objs.size,_,_,_,_,_,λi=>((ns.map (· != 0))[i]?).getD false,rfl,Walks.tuple (A:=X.A.in1) (I.ok.hd hc) s.heap.objs.size p (λz=>hne z) its.toArray,⟨⟨_,cC _ rfl,rfl,rfl⟩,tp'.push _⟩,?_,λh' tk hk=> ?_⟩
 .intro i v s' Q' E' hP hQ;have hP:its[i]? =some v:=by exists hP
  have hi:i<ns.length:=by
   rw[hl];exact(jD.mp hP).1
  obtain⟨w,ew,rw'⟩:=rv.get (i:=i) (x:= .int ns[i]) (by rw[bJ,aU hi];rfl)
  rw[hP]at ew;cases ew;obtain⟨t,rfl⟩:=rw';refine truthy_int ?_;dsimp only at hQ;rw[bJ,aU hi]at hQ;exact hQ
 .have e:=LSm.range_any (ns.map (· != 0));rw[aG]at e;have e2:its.toArray.size=ns.length:=by rw[bG,hl]
  rw[e2,e];refine⟨.bl (ns.any (· != 0)),H,I.kept λb o e=>hk b o (by simpa using bK (aW e)) (aV _ e),?_,q⟩
  show Value.bool _=Value.bool _
  rw[List.any_map];rfl
nonrec def dW4:V->List V->Hp->VK->Prop:=λx vs H Q=> ∃l xs y,x= .ref l/\vs=[.int 0,y]/\H l=some (.lst xs)/\xs.length<sizeLine/\Q .non (upd H l<|.lst (y::xs))
theorem d56:MtM X "list.insert" dW4:=by
 intro pins s σ H x vs v us Q I rx rv h;obtain⟨l,xs,y,rfl,rfl,hH,hz,q⟩:=h;cases rx;obtain⟨u0,u,rfl,ru0,ru⟩:=rv.two;obtain⟨t,rfl⟩:=ru0;obtain⟨z,its,n,r,hl,e⟩:=I.lstM hH;refine kS F.slot_list_insert ⟨_,e,rfl⟩ F.entry_list_insert (F.args_list_insert_3 _ _ _) (AutoSeq1.list_insert_list_int_val_1 l its.toArray n 0 t u ac (by rw[bG];omega)) ⟨e,?_⟩
 refine⟨.non,_,I.lset (its':=u::its) hH e ae (.cons ru r) ?_,rfl,q⟩
 rw[cY];omega
def dG9:List DictEntry->List (Int×Int)->Prop
 | [],[]=>True
 | e::es,(k,v)::kvs=>(∃t,e.key= .int k t)/\(∃t,e.val= .int v t)/\e.hash=hashInt k/\dG9 es kvs
 | _,_=>False
def KD (K:PySem.W.Frag)(a:Addr)(kvs:List (Int×Int)):Prop:=(a==sysModules)=false/\(kvs.map (·.1)).Nodup/\ ∃o es ep,K.lookup a=some o/\o.ExactDict/\o.data= .dict es ep/\dG9 es.toList kvs
theorem cZ4 {prog:Program}{w:World}: ∀{es:List DictEntry} {kvs:List (Int×Int)},dG9 es kvs-> ∀e∈es,∃k,(intKind prog w).is k e.key=true/\e.hash=(intKind prog w).hash k
 | [],_,_,e,he=>absurd he ae
 | d::es,[],h,_,_=>h.elim
 | d::es,(k,v)::kvs,h,e,he=>by
  obtain⟨⟨t,h1⟩,h2,h3,h4⟩:=h;rcases aZ.mp he with rfl|he
  .refine⟨k,?_,h3⟩
   rw[h1];show(k==k)=true;simp
  .exact cZ4 h4 e he
theorem cE5 {prog:Program}{w:World}: ∀{es:List DictEntry} {kvs:List (Int×Int)},dG9 es kvs-> ∃ps:List (Int×Value),Pairs (intKind prog w) es ps/\ps.map (·.1)=kvs.map (·.1)/\PyProof.V.FlatPairs PyData.int ps (kvs.map λx=>(.int x.1,.int x.2))
 | [],[],_=>⟨[],.nil,rfl,.nil⟩
 | [],_::_,h=>h.elim
 | _::_,[],h=>h.elim
 | e::es,(k,v)::kvs,h=>by
  obtain⟨⟨t,h1⟩,⟨t2,h2⟩,h3,h4⟩:=h;obtain⟨ps,p1,p2,p3⟩:=cE5 h4;refine⟨(k,.int v t2)::ps,.cons ?_ h2 p1,by rw[bY,bY,p2],.cons (λh=> ?_) p3⟩
  .rw[h1];show(k==k)=true;simp
  .constructor
theorem cE6: ∀{kvs:List (Int×Int)} {i v:Int},kvs.lookup i=some v->lookup (PyData.int i) (kvs.map λx=>(PyData.int x.1,PyData.int x.2))=some (.int v)
 | [],_,_,h=>nomatch h
 | (k,u)::kvs,i,v,h=>by
  rw[cZ]at h;rw[bY]
  by_cases c:i=k
  .subst c;rw[show(i==i)=true by simp]at h
   cases h;simp[lookup,same]
  .rw[show(i==k)=false by simpa using c]at h
   have:=cE6 h;simp[lookup,same,c]at this⊢
   first
    | exact this
    | (rw[a7 λz=>c z.symm];exact this)
def rIxD (a:Addr)(kvs:List (Int×Int)):R2:=λx y H Q=> ∃i v,x= .ref a/\y= .int i/\kvs.lookup i=some v/\Q (.int v) H
theorem pe_ixD {kvs:List (Int×Int)}{b:Expr}{ta tb:TE}(hk:KD X.K a kvs)(ha:PE X (.Name x p) ta)(hb:PE X b tb)(hs:aW2 b):PE X (.Subscript (.Name x p) b pos) (tOp (rIxD a kvs) ta tb):=by
 intro pins s σ H Q I h;refine Subscript_ (dS2 ha hb I h λv u s2 x y H2 I2 rx ry q=> ?_)
 obtain⟨i,n,rfl,rfl,hl,q⟩:=q;cases rx;obtain⟨t,rfl⟩:=ry;obtain⟨k1,k2,o,es,ep,k3,k4,k5,k6⟩:=hk;obtain⟨ps,p1,p2,p3⟩:=cE5 (prog:=X.prog) (w:=X.w) k6;have tab:IntTab X.prog X.w s2.heap a (kvs.map λx=>(.int x.1,.int x.2)):=⟨k1,ps,⟨o,es,ep,I2.kIn a o k3,k4,k5,λe he=>cZ4 k6 e (by exists he),p1,p2▸k2⟩,p3⟩
 refine item_intTab tab (cE6 hl) (λv fv=> ?_) (hs _ _)
 have fl:=fv default;cases fl;exact⟨.int n,H2,I2.tok _,⟨_,rfl⟩,q⟩
theorem d57 (a:Addr)(lo:Int)(m:Nat):c37 P w K tg (Itr lo m) [a] a (λk g=>k<=m/\IsLongIter g a (lo+(k:Nat)*1) ((m:Int)-(k:Nat)) 1) where
 mem:=cR.mpr rfl
 obj:=λ_ _ z b hb=>by
  obtain rfl:=cR.mp hb;exact⟨_,z.2,λc y=>nomatch (show Data.fields _=Data.cell c from y)⟩
 keep:=λ_ _ _ z kp=>⟨z.1,kp a (cR.mpr rfl) _ z.2⟩
 item:=by
  rintro X rfl rfl rfl cm k pins s σ H E I fp ⟨_,z⟩ lt;have p:=fp a (cR.mpr rfl);refine(Walks.longrange (I.ok.hd cm) a lo 1 m).item k s _ _ lt z λu g tk hu z2 kp=> ?_
  obtain⟨y,rfl⟩:=hu;refine⟨_,rfl,bV4 (s:={s with heap:=g,toks:=tk}) (n:="longrange_iterator") z2 rfl rfl ac ⟨.int<|lo+k,H,I.turned (λb o hb e=>kp b o (λq=>hb (cR.mp q)) e) p.1 p.2.1 p.2.2.2.1 p.2.2.2.2.1 p.2.2.2.2.2,⟨y,by rw[o8]⟩,⟨rfl,rfl⟩,⟨lt,z2⟩,λb hb=>(fp b hb).1⟩⟩
 done:=by
  rintro X rfl rfl rfl cm k pins s σ H E I fp ⟨z1,z⟩ le;have p:=fp a (cR.mpr rfl);obtain rfl:k=m:=Nat.le_antisymm z1 le;exact(Walks.longrange (I.ok.hd cm) a lo 1 k).done s _ _ z λg tk kp=>⟨rfl,I.turned (λb o hb e=>kp b o (λq=>hb (cR.mp q)) e) p.1 p.2.1 p.2.2.2.1 p.2.2.2.2.1 p.2.2.2.2.2⟩
 self:=λ_ _ _ _ _ z q=>wpAny_pyIter_longiter z.2 q
theorem range_any {tg:Expr}{pins:List (Addr×Obj)}{σ:St}{H:Hp}{s:Shared}{R:It->Hp->Prop}{E:Value->Shared->Prop}{lo up:Int}{t u v:Tok}{tk:Nat}(I:Inv X pins σ H s)(q:R (Itr lo (up-lo).toNat) H) :
  X∩(pyIter<|.ref s.heap.objs.size) (PIE X pins σ tg R) E {s with heap:=s.heap.push {cls:= .type "range",data:= .fields #[.int lo t,.int up u,.int 1 v]},toks:=tk}:=by
 obtain⟨g,eg⟩: ∃g,g=s.heap.push {cls:= .type "range",data:= .fields #[.int lo t,.int up u,.int 1 v]}:=⟨_,rfl⟩;have J:Inv X pins σ H {s with heap:=g,toks:=tk}:=I.kept λb o e=>by rw[eg];exact aV _ e
 have ne:=λb (hb:b∈[g.objs.size])=>(show aR9 X pins H b by rw[cR.mp hb];exact J.fpOk (aH _) (J.hok.fresh<|aH _))
 have sz:((up-lo).toNat:Int)=Builtin.Range.rangeSize lo up 1:=by rw[rangeSize_one];split<;>omega
 have z0:lo+((0:Nat):Int)*1=lo:=aa
 have z1:((up-lo).toNat:Int)-((0:Nat):Int)=Builtin.Range.rangeSize lo up 1:=by rw[<-sz];omega
 cases c:Builtin.Range.small lo up 1 with
 | false=>
  refine wpAny_pyIter_longrange (uK ..) c ?_
  rw[<-eg];exact⟨g.objs.size,[g.objs.size],_,_,H,rfl,J.kept (t':=tk) λb o e=>aV _ e,d57 _ lo (up-lo).toNat,⟨dM _,by rw[z0,z1];exact cC _ rfl⟩,ne,q⟩
 | true=>
  refine aQ0 (uK ..) c ?_
  rw[<-eg];exact⟨g.objs.size,[g.objs.size],_,_,H,rfl,J.kept (t':=tk) λb o e=>aV _ e,bG2 _ lo (up-lo).toNat,by rw[z0,z1];exact cC _ rfl,ne,q⟩
def iRngB (ta:TA):TI:=λσ H R=>ta σ H λvs H1=> ∃i j:Int,vs=[.int i,.int j]/\R (Itr i (j-i).toNat) H1
theorem d58 {a b:Expr}{ta:TA}(hg:Gl X "range")(hm:X.mg "range"=none)(ha:PA X [a,b] ta)(h1:↥(starEach [a,b] X.env=[(false,eval a X.env),(false,eval b X.env)]))(h2:↥(starEach [b] X.env=[(false,eval b X.env)])):PI X tg (.Call (.Name "range" p) [a,b] [] pos) (iRngB ta):=λpins s σ H R I h=>by
 refine Call_ (sP I hg hm uP<|jC (thn (ha pos pins s σ H _ I h) λus g ⟨vs,H1,J,r,i,j,e,q⟩=> ?_) (by rw[h1,h2]) (by rw[h2];rfl))
 subst e;obtain⟨u,v,rfl,⟨t,rfl⟩,⟨y,rfl⟩⟩:=r.two;exact call_range_2 (range_any J q)
end
end L2
namespace M
section
variable {X:Cx}{e a b:Expr}{pos:Pos}{te ti:UE}
nonrec def dH0:List D->(B->Prop)->Prop:=g1 λd Q=>match d with
 | .tup l=>(match aL7 l with
  | some ns=>Q (.pu (.bl (ns.any (· != 0))))
  | none=>False)
 | _=>False
theorem dW5 (hc:X.calm=true):uT X (.builtin "any") dH0:=by
 intro A H ds vs Q0 Q hA r g k;obtain⟨d,v,rfl,rfl,rv,g⟩:=aB7 g r;cases d with
 | tup l=>
  dsimp only at g;cases e:aL7 l with
  | none=>rw[e]at g;exact g.elim
  | some ns=>
   rw[e]at g;simp only[Rep]at rv;obtain⟨a,vs,rfl,c,rs⟩:=rv;rw[b43 e rs]at c;exact⟨_,cR9 hc,a,ns,rfl,c.imp cV id,k _ _ H g (.refl _) lX⟩
 | _=>exact(show False from g).elim
def uIns (i:Nat)(te:UE):US:=λD ρ=>lH ρ i λ_=>te ρ λb ρ1=>lH ρ1 i λl=>l.length<sizeLine/\D.nx (ρ1.set i<|some<|.ow (b.d::l))
def dW6 (kvs:List (Int×Int))(ti:UE):UE:=λρ Q=>ti ρ λb ρ1=>match b.d with
 | .int i=>(match kvs.lookup i with
  | some v=>Q (.pu<|.int v) ρ1
  | none=>False)
 | _=>False
theorem cE7 {g:Addr}{kvs:List (Int×Int)}(hg:Gl X x)(hm:X.mg x=some (.ref g))(hk:KD X.K g kvs)(hb:PU X b ti)(hs:aW2 b:=by exact λ_ _=>rfl)(hd:⇑(x∪0)):PU X (.Subscript (.Name x p) b pos) (dW6 kvs ti):=
 iZ (pe_ixD hk (bD3 (v:= .ref g) hg hm rfl hd) hb hs) λσ H Q ⟨C,ρ,Q0,I,h,k⟩=>⟨C,ρ,_,I,h,λd ρ1 v H1 q f s r=>by
  cases hd:d.d with
  | int i=>
   rw[hd]at q;dsimp only at q;cases hl:kvs.lookup i with
   | none=>rw[hl]at q;exact q.elim
   | some n=>
    rw[hl]at q;have ri:=r.rep λa z=>I.avF f z
    rw[hd]at ri;have:=bS ri;subst this;exact⟨i,n,rfl,rfl,hl,k _ _ _ _ q f s aB5⟩
  | _=>rw[hd]at q;exact q.elim⟩
def cZ5 (ta:UA):UI:=λρ Q=>ta ρ λds ρ1=>match ds with
 | [.int i,.int j]=>Q (j-i).toNat (λk=> .int (i+k)) ρ1
 | _=>False
theorem bX7 {a b:Expr}{ta:UA}(hg:Gl X "range")(hm:X.mg "range"=none)(ha:PUA X [a,b] ta)(h1:↥(starEach [a,b] X.env=[(false,eval a X.env),(false,eval b X.env)]))(h2:↥(starEach [b] X.env=[(false,eval b X.env)])) :
  PUI X tg (.Call (.Name "range" p) [a,b] [] pos) (cZ5 ta):=
 aW4 (d58 hg hm ha h1 h2) λσ H R ⟨C,ρ,Q0,I,h,k⟩=>⟨C,ρ,_,I,h,λds ρ1 vs H1 q f s r=>by
  split at q
  .rename_i i j
   obtain⟨v,vr,rfl,rv,rr⟩:=r.uncons;obtain⟨w,wr,rfl,rw',rr'⟩:=rr.uncons;have:=rr'.unnil;subst this;have:=bS rv;subst this;have:=bS rw';subst this;exact⟨i,j,rfl,k _ _ ρ1 _ H1 q f s aS2⟩
  .exact q.elim⟩
theorem d59 {j pz}(i:Nat)(hx:PE X (.Name x p) (aB0 i))(he:PU X e te)
  (hbase:↥(attributeBase (.Name x p) "insert" X.env (eval (.Name x p) X.env)=eval (.Name x p) X.env))
  (hfew:↥(((backTo cpos<|starEach [.Constant (.int 0) j pz,e] X.env).all (λx=> !x.1)&&(backToKw cpos<|keywordEach [] X.env).all (λx=>x.1.isSome)
   &&decide ([Expr.Constant (.int 0) j pz,e].length+([]:List Keyword).length+(if([]:List Keyword).isEmpty then 0 else 1)<30))=true))
  (hline:↥((apos.endLine==cpos.line)=true)) (hs:↥(starEach [.Constant (.int 0) j pz,e] X.env=(false,eval (.Constant (.int 0) j pz) X.env)::starEach [e] X.env)) (hs2:↥(starEach [e] X.env=(false,eval e X.env)::starEach [] X.env)) (hplain:↥((backTo cpos<|starEach [e] X.env).any (·.1)=false))
  (hw:↥(swapsWith (.Call (.Attribute (.Name x p) "insert" apos) [.Constant (.int 0) j pz,e] [] cpos) none pos.line X.env=pure false)) :
  PUS X (.Expr (.Call (.Attribute (.Name x p) "insert" apos) [.Constant (.int 0) j pz,e] [] cpos) pos) (uIns i te):=
 rY (bD4 (e41 PySem.F.plainAttrs_list PySem.F.slot_list_insert PySem.F.type_list_insert d56 hx (aW1 dA4 (aW1 he c39 hs2) hs) hbase hfew hline hs hplain) hw) λD σ H ⟨C,ρ,D0,I,h,k⟩=>by
  obtain⟨l,hl,h⟩:=jV h;obtain⟨a,vs,h1,h2,h3,h4⟩:=I.ow i l hl;refine⟨.ref a,h1,.inl ⟨rfl,vs,SqL.of h2⟩,C,ρ,_,I,h,λb ρ1 v H1 q f s r=> ?_⟩
  obtain⟨l',hl',hz,q⟩:=jV q;have e:=f.ow hl';rw[hl]at e;cases e;have I1:=(I.frz f).same s;obtain⟨a',vs',g1,g2,g3,g4⟩:=I1.ow i l hl';rw[h1]at g1;cases g1;refine⟨a,vs',v,rfl,rfl,g2,by rw[<-g4.length];exact hz,k.nx _ _ _ q ?_⟩
  exact I1.write hl' h1 (.cons (r.rep λa z=>I.avF f z) g4)
end
end M
end
namespace L2
def Calm (f:Obj->Obj):Prop:= ∀o,(f o).dict=o.dict/\(o.isFreed=false->(f o).isFreed=false)
def pM {α:Type}:Sem α->Prop
 | .pure _=>True
 | .raise _=>True
 | .unsupported _=>True
 | .finish _=>True
 | .rule _ k=>pM (k ())
 | .at _ k=>pM (k ())
 | .load _ _ k=> ∀o,pM (k o)
 | .update _ _ f k=>Calm f/\pM (k ())
 | .alloc _ k=> ∀a,pM (k a)
 | .loadIfAlive _ k=> ∀o,pM (k o)
 | .point _ k=>pM (k ())
 | .register _ _=>True
 | .stack k=> ∀l,pM (k l)
 | _=>False
def DK (h h':Heap):Prop:= ∀b o,h.get? b=some o-> ∃o',h'.get? b=some o'/\o'.dict=o.dict
theorem DK.refl (h:Heap):DK h h:=λb o q=>⟨o,q,rfl⟩
theorem DK.trans {h'':Heap}(a:DK h h')(b:DK h' h''):DK h h'':=λc o q=>by
 obtain⟨o',q',e⟩:=a c o q;obtain⟨o'',q'',e'⟩:=b c o' q';exact⟨o'',q'',e'.trans e⟩
theorem DK.update {f:Obj->Obj}(c:Calm f):DK h (h.update a f):=λb o q=>by
 by_cases e:a=b
 .subst e;exact⟨f o,pW f q<|(c o).2 (Heap.get?_some_iff.mp q).2,(c o).1⟩
 .exact⟨o,(aO5 _ _ e).trans q,rfl⟩
theorem dW7 {M:Model}{Γ:PySem.Ctx}: ∀{t:Sem α} {Q:α->Pos->Shared->Prop} {E:Value->Pos->Shared->Prop} {p:Pos} {s:Shared},pM t->Sem.wp M Γ t Q E p s->Sem.wp M Γ t (λa p' s'=>Q a p' s'/\DK s.heap s'.heap) (λe p' s'=>E e p' s'/\DK s.heap s'.heap) p s:=by
 intro t
 induction t with
 | pure a=>intro Q E p s _ h;exact⟨h,.refl _⟩
 | raise e=>intro Q E p s _ h;exact⟨h,.refl _⟩
 | rule _ k ih=>intro Q E p s t h;exact ih () t h
 | «at» _ k ih=>intro Q E p s t h;exact ih () t h
 | load a _ k ih=>intro Q E p s t ⟨o,q,h⟩;exact⟨o,q,ih o (t o) h⟩
 | update a _ f k ih=>
  intro Q E p s t ⟨q,h⟩;refine⟨q,?_⟩;have:=ih () t.2 h;exact Sem.wp_mono _ _ _ (λa p' s' z=>⟨z.1,(DK.update t.1).trans z.2⟩) (λa p' s' z=>⟨z.1,(DK.update t.1).trans z.2⟩) _ _ this
 | alloc o k ih=>
  intro Q E p s t h;have:=ih _ (t _) h;have pu:DK s.heap (s.heap.push o):=λb o' q=>⟨o',aV _ q,rfl⟩
  exact Sem.wp_mono _ _ _ (λa p' s' z=>⟨z.1,pu.trans z.2⟩) (λa p' s' z=>⟨z.1,pu.trans z.2⟩) _ _ this
 | loadIfAlive a k ih=>intro Q E p s t h;exact ih _ (t _) h
 | point _ k ih=>intro Q E p s t h;exact ih () t h
 | stack k ih=>intro Q E p s t h;exact ih _ (t _) h
 | unsupported _=>intro Q E p s _ h;exact h.elim
 | finish _=>intro Q E p s _ h;exact h.elim
 | register _ _=>intro Q E p s _ h;exact h.elim
 | _=>intro Q E p s t h;exact False.elim t
theorem cO {β:Type}{f:α->Sem β}: ∀{t:Sem α},pM t->(∀a,pM<|f a)->pM (t.bind f):=by
 intro t
 induction t with
 | pure a=>intro _ h;exact h a
 | raise e=>intro _ _;exact trivial
 | unsupported _=>intro _ _;exact trivial
 | finish _=>intro _ _;exact trivial
 | rule _ k ih=>intro t h;exact ih () t h
 | «at» _ k ih=>intro t h;exact ih () t h
 | load a _ k ih=>intro t h o;exact ih o (t o) h
 | update a _ f k ih=>intro t h;exact⟨t.1,ih () t.2 h⟩
 | alloc o k ih=>intro t h a;exact ih a (t a) h
 | loadIfAlive a k ih=>intro t h o;exact ih o (t o) h
 | point _ k ih=>intro t h;exact ih () t h
 | register _ _=>intro _ _;exact trivial
 | stack k ih=>intro t h l;exact ih l (t l) h
 | _=>intro t _;exact False.elim t
theorem a39 {M:Model}{t:Sem α}{Q:α->Shared->Prop}(c:pM t)(h:wpAny M A t Q E s):wpAny M A t (λa s'=>Q a s'/\DK s.heap s'.heap) (λe s'=>E e s'/\DK s.heap s'.heap) s:=λΓ p hin=>dW7 c (h Γ p hin)
theorem bX8 {part:Option Value}:pM (loadPart a part):=λ_=>trivial
theorem cE8 (v:Value):pM (fieldsOf v):=by
 unfold fieldsOf;split
 .refine cO bX8 λo=> ?_
  split<;>exact trivial
 .exact trivial
theorem a40 (v:Value)(i:Nat):pM (PySem.field v i):=cO (cE8 v) λvs=>by
 split<;>exact trivial
theorem cE9 (f:Array Value->Array Value):Calm (Obj.mapFields f):=λo=>by
 obtain⟨c,d,dt,sl⟩:=o;cases dt<;>exact⟨rfl,λh=>h⟩
theorem xD (v:Value)(i:Nat)(x:Value):pM (setField v i x):=by
 unfold setField;split
 .unfold updateField;refine cO bX8 λo=> ?_
  split
  .split
   .exact⟨cE9 _,trivial⟩
   .exact trivial
  .exact trivial
 .exact trivial
theorem aC5 (e:Value)(f:Option Addr):pM (setFlight e f):=cO (a40 _ _) λtb=>by
 split
 .exact xD _ _ _
 .exact trivial
theorem aS4:pM stack:=λ_=>trivial
theorem cS0 (f:Addr)(b:Bool):pM (entryPlaceOf f b):=cO aS4 λl=>by
 split<;>exact trivial
theorem dH1 (cls:Value)(data:Data)(d:Option Addr):pM (newObj cls data d):=by
 have as:pM (newObjAsIs cls data d):=by
  unfold newObjAsIs;refine cO (λ_=>trivial) λa=> ?_
  split
  .refine cO ?_ λb=> ?_
   .unfold classHasDel;refine cO (λ_=>trivial) λo=> ?_
    split<;>exact trivial
   .split<;>exact trivial
  .exact trivial
 unfold newObj;split<;>first|exact as| (split<;>first|exact as|exact trivial| (refine cO trivial λ_=>as))
theorem cS1 (a b c d e:Value)(pl:List Value):pM (EntryCells.newEntry a b c d e pl):=by
 unfold EntryCells.newEntry newFields;exact dH1 _ _ _
theorem bH9: ∀l:List Env,pM (readyFrames l)
 | []=>trivial
 | env::outer=>by
  unfold readyFrames;split
  .refine cO (λ_=>trivial) λo=> ?_
   split
   .exact trivial
   .refine cO ?_ λb=> ?_
    .unfold behindIsImport;split
     .exact trivial
     .split
      .exact trivial
      .exact cO (a40 _ _) λ_=>trivial
    .refine cO ?_ λv=> ?_
     .unfold keptBack;split
      .split
       .exact trivial
       .exact cO (cO aS4 λ_=>trivial) λ_=>trivial
      .exact trivial
     .exact⟨λo=>⟨rfl,λh=>by obtain⟨c,d,dt,sl⟩:=o;cases dt<;>exact h⟩,bH9 outer⟩
  .exact trivial
theorem cS2 (env:Env):pM (PySem.frameOf env):=by
 unfold PySem.frameOf;refine cO (cO aS4 λ_=>trivial) λl=>cO ?_ λo=> ?_
 .unfold frameObject;split
  .exact trivial
  .exact cO (bH9 _) λ_=>trivial
 .split<;>exact trivial
theorem bX9 (e:Value)(env:Env):pM (noteFrame e env):=by
 have last: ∀h f,pM (do setField e 1 (<-EntryCells.newEntry h (<-PySem.frameOf env) .none (rawInt f) .none (<-entryPlaceOf f (h != .none)))):=λh f=>
  cO (cS2 env) λa=>cO (cS0 _ _) λb=>cO (cS1 _ _ _ _ _ _) λc=>xD _ _ _
 unfold noteFrame;split
 .refine cO (a40 _ _) λh=> ?_
  split
  .refine cO (a40 _ _) λx=> ?_
   split
   .exact trivial
   .exact cO (xD _ _ _) λ_=>last _ _
  .exact last _ _
 .exact trivial
theorem aX0 (env:Env)(e:Value):pM (leaving env e):=cO (bX9 e env) λ_=>aC5 e none
def Tr (h:Heap)(e T:Addr):Prop:= ∃oe vs,h.get? e=some oe/\oe.data= .fields vs/\vs[1]? =some (.ref T)
theorem Tr.one {e T T':Addr}(a:Tr h e T)(b:Tr h e T'):T=T':=by
 obtain⟨o,vs,h1,h2,h3⟩:=a;obtain⟨o',vs',g1,g2,g3⟩:=b;rw[h1]at g1;cases g1;rw[h2]at g2;cases g2;rw[h3]at g3;cases g3;rfl
structure aM0 (fs:List Addr)(e:Addr)(h h':Heap):Prop where
 keep: ∀b o,h.get? b=some o->b ∉ fs->b≠e-> ¬Tr h e b->h'.get? b=some o
 slot:h.UpToSlots h'
 tr: ∀T,Tr h' e T->T∈fs\/T=e\/Tr h e T\/h.get? T=none
 rcd: ∀T,Tr h' e T-> ∃o vs,h'.get? T=some o/\o.data= .fields vs
structure bS0 (fs:List Addr)(e:Addr)(h h':Heap):Prop extends aM0 fs e h h' where
 dk:DK h h'
theorem c61 {e:Addr}{cls a0:Value}(t:h.TracedAtW base e cls a0 fl): ∃T,Tr h e T/\base.get? T=none/\T≠e/\ ∃o vs,h.get? T=some o/\o.data= .fields vs:=by
 obtain⟨oe,vs,T,oT,ts,he,_,hd,h1,hb,hne,hT,hdT,_⟩:=t;exact⟨T,⟨oe,vs,he,hd,h1⟩,hb,hne,oT,ts,hT,hdT⟩
theorem qW {B:Heap}{e T:Addr}{cls a0:Value}(t:h.TracedAtW base e cls a0 fl)(x:Tr h e T)(hn:B.get? T=none):h.TracedAtW B e cls a0 fl:=by
 obtain⟨oe,vs,T',oT,ts,he,hc,hd,h1,hb,hne,hT,hdT,h3⟩:=t;obtain rfl:=x.one ⟨oe,vs,he,hd,h1⟩;exact⟨oe,vs,T,oT,ts,he,hc,hd,h1,hn,hne,hT,hdT,h3⟩
section
variable {base h:Heap}{l:List Env}{e T:Addr}{cls a0 fl:Value}
nonrec def hid (h:Heap)(l:List Env)(e T:Addr):Heap:=PySem.W.hideAll h (frs l++[e,T])
theorem yQ (hb:b∈frs l\/b=e\/b=T):(hid h l e T).get? b=none:=PySem.W.hideAll_none _ (by
 rcases hb with z|z|z
 .exact dI.mpr (.inl z)
 .exact dI.mpr (.inr<|by simp[z])
 .exact dI.mpr (.inr<|by simp[z]))
theorem aX1 (q:h.get? b=some o)(h1:b ∉ frs l)(h2:b≠e)(h3:b≠T):(hid h l e T).get? b=some o:=PySem.W.hideAll_get _ q (by
 intro z;rcases dI.mp z with z|z
 .exact h1 z
 .simp at z
  exact z.elim h2 h3)
theorem a41 (f:h.FunFrames base l):h.FunFrames (hid h l e T) l:=PySem.W.funFrames_hide f λenv he b hb=>dI.mpr (.inl<|aQ1.mpr ⟨env,he,hb⟩)
theorem aJ0 (st:base.StaysIn h)(f:h.FunFrames base l)(he:base.get? e=none)(hT:base.get? T=none):base.StaysIn (hid h l e T):=λb o q=>aX1 (st b o q) (λz=>by rw[(f.mem z).1]at q;cases q) (λz=>by rw[z,he]at q;cases q) λz=>by rw[z,hT]at q;cases q
theorem yR {B h':Heap}(st:base.StaysIn B): ∀{l:List Env},h'.FunFrames B l->h'.FunFrames base l
 | [],_=>trivial
 | env::_,⟨hk,⟨L,o,hf,hn,ho,hd⟩,hr⟩=>⟨hk,⟨L,o,hf,(by
   cases q:base.get? L with
   | none=>rfl
   | some u=>have:=st L u q;rw[hn]at this;cases this),ho,hd⟩,yR st hr⟩
theorem bE3 {B:Heap}(st:base.StaysIn B)(q:B.get? b=none):base.get? b=none:=by
 cases z:base.get? b with
 | none=>rfl
 | some u=>have:=st b u z;rw[q]at this;cases this
theorem c62 {l':List Env}(x:Tr h e T)(st:(hid h l e T).StaysIn h')(t:h'.TracedAtW (hid h l e T) e cls a0 fl)(up:h.UpToSlots h'):aM0 (frs l) e h h':=by
 refine⟨λb o q h1 h2 h3=>st b o (aX1 q h1 h2 λz=>h3 (by rw[z];exact x)),up,λT' x'=> ?_,λT' x'=> ?_⟩
 .obtain⟨T2,y,hn,_,_⟩:=c61 t;obtain rfl:=x'.one y
  by_cases c1:T'∈frs l
  .exact .inl c1
  by_cases c2:T'=e
  .exact .inr (.inl c2)
  by_cases c3:T'=T
  .exact .inr (.inr<|.inl (by rw[c3];exact x))
  refine .inr (.inr<|.inr ?_)
  cases q:h.get? T' with
  | none=>rfl
  | some o=>rw[aX1 q c1 c2 c3]at hn;cases hn
 .obtain⟨T2,y,_,_,z⟩:=c61 t;obtain rfl:=x'.one y;exact z
end
section
variable {M:Model}{A:Around}{E:Value->Shared->Prop}{s:Shared}{base:Heap}{env:Env}{outer:List Env}{L e:Addr}{cls a0:Value}{Q:Unit->Shared->Prop}
theorem cS3 (hfr:A.frames=some (env::outer))(hf:env.frame=some L)(F:FlyingW base (env::outer) e cls a0 s.heap)
  (hQ: ∀h',FlyingW base outer e cls a0 h'->aM0 (frs (env::outer)) e s.heap h'->Q () {s with heap:=h'}):wpAny M A (leaving env<|.ref e) Q E s:=by
 obtain⟨f1,f2,f3,f4⟩:=F;obtain⟨T,x,hT,_,_⟩:=c61 (fl:= .none) f4;have stB:=aJ0 (T:=T) f1 f3 f2 hT;refine wpAny_leaves_onW (base:=hid s.heap (env::outer) e T) hfr hf ⟨λb o q=>uD _ q,yQ<|.inr<|.inl rfl,a41 f3,qW (fl:= .none) f4 x<|yQ<|.inr<|.inr rfl⟩ λh' F' up=> ?_
 obtain⟨g1,g2,g3,g4⟩:=F';obtain⟨T',x',hT',_,_⟩:=c61 (fl:= .none) g4;exact hQ h' ⟨λb o q=>g1 b o (stB b o q),f2,yR stB g3,qW (fl:= .none) g4 x'<|bE3 stB hT'⟩ (c62 (l':=outer) x g1 g4 up)
theorem d60 (hfr:A.frames=some (env::outer))(hf:env.frame=some L)(F:FlyingW base (env::outer) e cls a0 s.heap)
  (hQ: ∀h',HeldW base (env::outer) e cls a0 L h'->aM0 (frs (env::outer)) e s.heap h'->Q () {s with heap:=h'}):wpAny M A (noteFrame (.ref e) env) Q E s:=by
 obtain⟨f1,f2,f3,f4⟩:=F;obtain⟨T,x,hT,_,_⟩:=c61 (fl:= .none) f4;have stB:=aJ0 (T:=T) f1 f3 f2 hT;refine wpAny_looks_onW (base:=hid s.heap (env::outer) e T) hfr hf ⟨λb o q=>uD _ q,yQ<|.inr<|.inl rfl,a41 f3,qW (fl:= .none) f4 x<|yQ<|.inr<|.inr rfl⟩ λh' F' up=> ?_
 obtain⟨g1,g2,g3,g4⟩:=F';obtain⟨T',x',hT',_,_⟩:=c61 g4;exact hQ h' ⟨λb o q=>g1 b o (stB b o q),f2,yR stB g3,qW g4 x'<|bE3 stB hT'⟩ (c62 (l':=outer) x g1 g4 up)
theorem d61 {l:List Env}(F:base.StaysIn s.heap/\base.get? e=none/\s.heap.FunFrames base l/\s.heap.TracedAtW base e cls a0 fl)
  (hQ: ∀h',FlyingW base l e cls a0 h'->aM0 (frs l) e s.heap h'->Q () {s with heap:=h'}):wpAny M A (setFlight (.ref e) none) Q E s:=by
 obtain⟨f1,f2,f3,f4⟩:=F;obtain⟨T,x,hT,_,_⟩:=c61 f4;have stB:=aJ0 (T:=T) f1 f3 f2 hT;refine wpAny_setFlight_noneW (base:=hid s.heap l e T) (λb o q=>uD _ q) (a41 f3) (qW f4 x<|yQ<|.inr<|.inr rfl) λh' g1 g3 g4 up=> ?_
 obtain⟨T',x',hT',_,_⟩:=c61 (fl:= .none) g4;exact hQ h' ⟨λb o q=>g1 b o (stB b o q),f2,yR stB g3,qW (fl:= .none) g4 x'<|bE3 stB hT'⟩ (c62 (l':=l) (fl:= .none) x g1 g4 λb o q n=>⟨o.slots,up b o q n⟩)
theorem c63 (hfr:A.frames=some (env::outer))(hl:s.heap.FunFrames base (env::outer))(hf:env.frame=some L)(he:s.heap.get? e=some oe)(hkb:base.StaysIn s.heap)(hen:base.get? e=none)(hd:oe.data= .fields vs)(h1:vs[1]? =some .none)(h0:vs[0]? =some a0)
  (hQ: ∀h',FlyingW base outer e oe.cls a0 h'->aM0 (frs (env::outer)) e s.heap h'->Q () {s with heap:=h'}):wpAny M A (leaving env<|.ref e) Q E s:=by
 have stB:=aJ0 (e:=e) (T:=e) hkb hl hen hen;have nt: ∀T,¬Tr s.heap e T:=by
  rintro T ⟨o,ws,k1,k2,k3⟩;rw[he]at k1;cases k1;rw[hd]at k2;cases k2;rw[h1]at k3;cases k3
 refine wpAny_leaving_firstW (base:=hid s.heap (env::outer) e e) hfr (a41 hl) hf he (λb o q=>uD _ q) (yQ<|.inr<|.inl rfl) hd h1 h0 λh' F'=> ?_
 obtain⟨g1,⟨_,_,g3⟩,g4,up⟩:=F';obtain⟨T',x',hT',hne,hrec⟩:=c61 (fl:= .none) g4;refine hQ h' ⟨λb o q=>g1 b o (stB b o q),hen,yR stB g3,qW (fl:= .none) g4 x'<|bE3 stB hT'⟩ ⟨λb o q k1 k2 _=>g1 b o (aX1 q k1 k2 k2),up,λT x2=> ?_,λT x2=> ?_⟩
 .obtain rfl:=x2.one x'
  by_cases c1:T∈frs (env::outer)
  .exact .inl c1
  refine .inr (.inr<|.inr ?_)
  cases q:s.heap.get? T with
  | none=>rfl
  | some o=>rw[aX1 q c1 hne hne]at hT';cases hT'
 .obtain rfl:=x2.one x';exact hrec
theorem d62 (hfr:A.frames=some (env::outer))(hf:env.frame=some L)(F:FlyingW base (env::outer) e cls a0 s.heap)
  (hQ: ∀h',FlyingW base outer e cls a0 h'->bS0 (frs (env::outer)) e s.heap h'->Q () {s with heap:=h'}):wpAny M A (leaving env<|.ref e) Q E s:=
 bD (a39 (aX0 env<|.ref e)<|cS3 (Q:=λ_ s'=> ∃h',s'={s with heap:=h'}/\FlyingW base outer e cls a0 h'/\aM0 (frs (env::outer)) e s.heap h') hfr hf F λh' a b=>⟨h',rfl,a,b⟩) (λ_ s' ⟨⟨h',q,a,b⟩,dk⟩=>by subst q;exact hQ h' a ⟨b,dk⟩) λ_ _ z=>z.1
theorem cF0 (hfr:A.frames=some (env::outer))(hf:env.frame=some L)(F:FlyingW base (env::outer) e cls a0 s.heap)
  (hQ: ∀h',HeldW base (env::outer) e cls a0 L h'->bS0 (frs (env::outer)) e s.heap h'->Q () {s with heap:=h'}):wpAny M A (noteFrame (.ref e) env) Q E s:=
 bD (a39 (bX9 (.ref e) env)<|d60 (Q:=λ_ s'=> ∃h',s'={s with heap:=h'}/\HeldW base (env::outer) e cls a0 L h'/\aM0 (frs (env::outer)) e s.heap h') hfr hf F λh' a b=>⟨h',rfl,a,b⟩) (λ_ s' ⟨⟨h',q,a,b⟩,dk⟩=>by subst q;exact hQ h' a ⟨b,dk⟩) λ_ _ z=>z.1
theorem aX2 {l:List Env}(F:base.StaysIn s.heap/\base.get? e=none/\s.heap.FunFrames base l/\s.heap.TracedAtW base e cls a0 fl)
  (hQ: ∀h',FlyingW base l e cls a0 h'->bS0 (frs l) e s.heap h'->Q () {s with heap:=h'}):wpAny M A (setFlight (.ref e) none) Q E s:=
 bD (a39 (aC5 (.ref e) none)<|d61 (Q:=λ_ s'=> ∃h',s'={s with heap:=h'}/\FlyingW base l e cls a0 h'/\aM0 (frs l) e s.heap h') F λh' a b=>⟨h',rfl,a,b⟩) (λ_ s' ⟨⟨h',q,a,b⟩,dk⟩=>by subst q;exact hQ h' a ⟨b,dk⟩) λ_ _ z=>z.1
theorem cF1 (hfr:A.frames=some (env::outer))(hl:s.heap.FunFrames base (env::outer))(hf:env.frame=some L)(he:s.heap.get? e=some oe)(hkb:base.StaysIn s.heap)(hen:base.get? e=none)(hd:oe.data= .fields vs)(h1:vs[1]? =some .none)(h0:vs[0]? =some a0)
  (hQ: ∀h',FlyingW base outer e oe.cls a0 h'->bS0 (frs (env::outer)) e s.heap h'->Q () {s with heap:=h'}):wpAny M A (leaving env<|.ref e) Q E s:=
 bD (a39 (aX0 env<|.ref e)<|c63 (Q:=λ_ s'=> ∃h',s'={s with heap:=h'}/\FlyingW base outer e oe.cls a0 h'/\aM0 (frs (env::outer)) e s.heap h') hfr hl hf he hkb hen hd h1 h0 λh' a b=>⟨h',rfl,a,b⟩) (λ_ s' ⟨⟨h',q,a,b⟩,dk⟩=>by subst q;exact hQ h' a ⟨b,dk⟩) λ_ _ z=>z.1
end
structure Fly (base:Heap)(l:List Env)(e C:Addr)(H:Hp)(h:Heap):Prop where
 fl: ∃a0,FlyingW base l e (.ref C) a0 h
 he:H e=none
 ht: ∀T,Tr h e T->H T=none
structure bY0 (g:Heap)(e:Addr)(h:Heap):Prop where
 he:g.get? e=none
 ht: ∀T,Tr h e T->g.get? T=none
def XAt (h:Heap)(a:Addr)(o:Option Addr):Prop:= ∀d,o=some d-> ∃oe,h.get? a=some oe/\oe.dict=some d
theorem XAt.dk {o:Option Addr}(x:XAt h a o)(k:DK h h'):XAt h' a o:=λd q=>by
 obtain⟨oe,e1,e2⟩:=x d q;obtain⟨o',e3,e4⟩:=k a oe e1;exact⟨o',e3,e4.trans e2⟩
nonrec def CXr (P:Program)(w:World)(base:Heap):CXT:=λouter H s E e s'=> ∃a C o H',e= .ref a/\s'.os=s.os/\AllBare s'.gens/\Un (frs outer) [] H H' s.heap s'.heap/\HOk P w H' s'.heap/\Fly base outer a C H' s'.heap/\bY0 s.heap a s'.heap/\XAt s'.heap a o/\E (.ref C) o H'
section
variable {P:Program}{w:World}{H H0:Hp}{h h':Heap}{fs:List Addr}{e:Addr}
theorem HOk.past (x:HOk P w H h)(p:bS0 fs e h h')(hf: ∀b∈fs,H b=none)(he:H e=none)(ht: ∀T,Tr h e T->H T=none):HOk P w H h':=λa o q=>
 (x a o q).stay (λb u hb r=>by
  have tracked:H b≠none:=by
   rcases hb with rfl|hb
   .rw[q];simp
   .rw[hb];simp
  exact p.keep b u r (λz=>tracked (hf b z)) (λz=>tracked (by rw[z];exact he)) λz=>tracked (ht b z)) (λ_ q=>q) λ_ _ q=>q
theorem HOk.there (x:HOk P w H h)(n:h.get? b=none):H b=none:=by
 cases q:H b with
 | none=>rfl
 | some o=>
  exfalso
  have hh: ∃ob,h.get? b=some ob:=by
   have y:=x b o q;cases o with
   | lst xs=>obtain⟨_,_,_,_,e⟩:=y;exact⟨_,e⟩
   | tup xs=>obtain⟨_,_,_,ob,e,_⟩:=y;exact⟨_,e⟩
   | dK kvs=>obtain⟨_,_,_,_,o,_,_,e,_⟩:=y;exact⟨_,e⟩
   | dT kvs=>obtain⟨_,_,_,_,o,_,_,e,_⟩:=y;exact⟨_,e⟩
   | set S n=>obtain⟨o,_,_,_,e,_⟩:=y;exact⟨_,e⟩
   | ins C dx fs=>obtain⟨_,_,_,e,_⟩:=y;exact⟨_,e⟩
   | own y'=>exact y
   | xd fs=>obtain⟨_,⟨_,_,_,e,_⟩,_⟩:=y;exact⟨_,e⟩
   | rng lo hi=>obtain⟨_,_,_,e⟩:=y;exact⟨_,e⟩
   | frz ob u=>obtain⟨e,_⟩:=y;exact⟨_,e⟩
   | tbl ps=>exact⟨_,(show h.get? b=some _ from y)⟩
   | met f y'=>exact⟨_,(show h.get? b=some _ from y)⟩
   | ext φ=>obtain⟨_,e,_⟩:=y;exact e
  obtain⟨ob,e⟩:=hh;rw[n]at e;cases e
theorem aJ1 (x:HOk P w H h)(p:bS0 fs e h h')(hf: ∀b∈fs,H b=none)(he:H e=none)(ht: ∀T,Tr h e T->H T=none): ∀T,Tr h' e T->H T=none:=λT q=>by
 rcases p.tr T q with z|z|z|z
 .exact hf T z
 .rw[z];exact he
 .exact ht T z
 .exact x.there z
end
section
variable {X:Cx}{pins:List (Addr×Obj)}{σ:St}{H:Hp}{s:Shared}{h':Heap}{e:Addr}
theorem Un.past {fs fs':List Addr}{H0:Hp}{L:Addr}(u:Un fs [] H0 H g s.heap)(p:bS0 fs' e s.heap h')(hfs: ∀b∈fs',b=L\/b∈fs)(hL:g.get? L=none)(ne:g.get? e=none)(nt: ∀T,Tr s.heap e T->g.get? T=none)(hd: ∀b∈fs,∀o,s.heap.get? b=some o-> ∀vs,o.data≠ .fields vs):Un fs [] H0 H g h' where
 keep:=λb o q n hb hx=>p.keep b o (u.keep b o q n hb hx) (λz=>by
  rcases hfs b z with z|z
  .rw[z,hL]at q;cases q
  .exact hb z) (λz=>by rw[z,ne]at q;cases q) λz=>by rw[nt b z]at q;cases q
 slot:=λb o q n hb hx=>by
  obtain⟨sl,e1⟩:=u.slot b o q n hb hx;obtain⟨sl',e2⟩:=p.slot b _ e1 (hd b hb _ e1);exact⟨sl',e2⟩
 free:=u.free
 there:=λb o q hx=>by
  obtain⟨o',e1⟩:=u.there b o q hx
  by_cases c:b∈fs
  .obtain⟨sl,e2⟩:=p.slot b _ e1 (hd b c _ e1);exact⟨_,e2⟩
  .exact⟨o',p.keep b o' e1 (λz=>by
    rcases hfs b z with z|z
    .rw[z,hL]at q;cases q
    .exact c z) (λz=>by rw[z,ne]at q;cases q) λz=>by rw[nt b z]at q;cases q⟩
 tups:=u.tups
 frzs:=u.frzs
 tbls:=u.tbls
end
section
variable {P:Program}{w:World}{K:PySem.W.Frag}{mg:Str->Option Value}{base:Heap}{N:List Str}{qual:Str}{scope:Scope}{f:Addr}{cd:Value}{A:Around}{outer:List Env}{s0:Shared}{H0:Hp}{E:XK}{CX:CXT}
theorem dH2 {σ:St}{H:Hp}{o:Option Addr}(I:Inv (uS (CXr P w base) P w K mg base N qual scope f cd A outer s0 H0 E) pins σ H s')(F:Fly base (envOfC qual scope s0.heap.objs.size f cd::outer) a C H s'.heap)(nw:bY0 s0.heap a s'.heap)(xa:XAt s'.heap a o)(hE:E (.ref C) o H) :
  (uS (CXr P w base) P w K mg base N qual scope f cd A outer s0 H0 E).xe (.ref a) s':=by
 obtain⟨⟨a0,fl⟩,he,ht⟩:=F;have fr:(A.deeper<|envOfC qual scope s0.heap.objs.size f cd).frames=some (envOfC qual scope s0.heap.objs.size f cd::outer):=I.ok.frames;have sf: ∀b∈frs (envOfC qual scope s0.heap.objs.size f cd::outer),H b=none:=I.stkFree;have fm: ∀b∈frs (envOfC qual scope s0.heap.objs.size f cd::outer),b=s0.heap.objs.size\/b∈frs outer:=λb hb=>by
  unfold frs at hb⊢;rw[jE]at hb;have e:(envOfC qual scope s0.heap.objs.size f cd).frame=some s0.heap.objs.size:=rfl;rw[e]at hb;exact aZ.mp hb
 show wpAny _ _ (leaving _<|.ref a) _ _ s'
 refine d62 fr (L:=s0.heap.objs.size) rfl fl λh' fl' p=> ?_
 have hd: ∀b∈frs outer,∀o,s'.heap.get? b=some o-> ∀vs,o.data≠ .fields vs:=λb hb o q=>by
  obtain⟨_,o',q',n⟩:=fl.2.2.1.mem (b:=b) (by
   unfold frs at hb;rw[jE];have e:(envOfC qual scope s0.heap.objs.size f cd).frame=some s0.heap.objs.size:=rfl;rw[e];exact aZ.mpr (.inr hb))
  rw[q]at q';cases q';exact n
 have un:Un (frs outer) [] H0 H s0.heap h':=I.base.past p fm (lM<|aH _) nw.he nw.ht hd;refine⟨a,C,o,H,rfl,I.os,I.bare,un,I.hok.past p sf he ht,⟨⟨a0,fl'⟩,he,aJ1 I.hok p sf he ht⟩,⟨nw.he,λT q=> ?_⟩,xa.dk p.dk,hE⟩
 rcases p.tr T q with z|z|z|z
 .rcases fm T z with z|z
  .rw[z];exact lM (aH _)
  .exfalso
   obtain⟨o,vs,q1,q2⟩:=p.rcd T q;obtain⟨_,o',q',n⟩:=fl'.2.2.1.mem (b:=T) z;rw[q1]at q';cases q';exact n vs q2
 .rw[z];exact nw.he
 .exact nw.ht T z
 .cases r:s0.heap.get? T with
  | none=>rfl
  | some o=>
   obtain⟨o',q'⟩:=I.base.there T o r (show T ∉ ([]:List Addr)by simp)
   rw[z]at q';cases q'
theorem e49:wX (CXr P w base) (uS (CXr P w base) P w K mg base N qual scope f cd A outer s0 H0 E) E:=by
 rintro pins σ H s e s' I ⟨a,C,o,H',rfl,ho,hb,un,hok,F,nw,xa,hE⟩;have I':=I.call' (s':=s') ho un hok hb (λb z=>absurd z ae)
 refine dH2 I' F ⟨?_,λT q=> ?_⟩ xa hE
 .cases r:s0.heap.get? a with
  | none=>rfl
  | some o=>
   obtain⟨o',q'⟩:=I.base.there a o r (show a ∉ ([]:List Addr)by simp)
   rw[nw.he]at q';cases q'
 .have:=nw.ht T q;cases r:s0.heap.get? T with
  | none=>rfl
  | some o=>
   obtain⟨o',q'⟩:=I.base.there T o r (show T ∉ ([]:List Addr)by simp)
   rw[this]at q';cases q'
end
inductive XO (h:Heap) (C N:Addr) (bm:List Value) (newId:String):Prop
 | mk (nm q:Str) (bs:List Value) (hd:Bool) (sn:List Str) (sub:List Value) (ab:Bool) (col:Option Bool) (dd:Option Addr) (k0 k1 k2 k3 k5:Option Value) (o:h.get? C=some (excClassObj nm q C N bs bm hd sn sub ab col dd k0 k1 k2 k3 k5 newId)):XO h C N bm newId
inductive XCls (h:Heap) (C:Addr) (bmB bm:List Value) (newId:String):Prop
 | mk (N:Addr) (mN:Str->Option Value) (o:XO h C N bm newId) (n:h.Ns N mN) (i:mN "__init__"=none) (t:OwnTail h bmB bm):XCls h C bmB bm newId
theorem bE4 (X:K.In h)(q:excIn K C bmB newId=true): ∃bm,XCls h C bmB bm newId:=by
 unfold excIn at q;split at q
 .rename_i od ck slots look
  split at q
  .rename_i C2 tail a0 a1 a2 a3 nid a5 em es
   simp only[eG,fV,aQ7]at q;obtain⟨⟨⟨⟨⟨rfl,rfl⟩,nodel⟩,tk⟩,nk⟩,ni⟩:=q;obtain⟨c1,c2,c3,c4,c5,c6,c7,c8,c9,c10,c11⟩:=ck;dsimp only at em nodel nk ni;subst em nodel;obtain⟨sll⟩:=slots;simp only at es;subst es;exact⟨tail,_,_,⟨_,_,_,_,_,_,_,_,_,_,_,_,_,_,X _ _ look⟩,.of_isNs<|PySem.W.isNs_of_in X nk,PySem.W.nsMap_none_of_in X nk ni,PySem.W.tail_of_in X tk⟩
  .cases q
 .cases q
section
variable {X:Cx}{E:XK}{C:Addr}
def bI0 (X:Cx)(E:XK)(C:Addr):Prop:= ∀(pins:List (Addr×Obj)) (σ:St) (H:Hp) (s:Shared) (a:Addr) (oe:Obj) (vs:Array Value) (a0:Value) (o:Option Addr),Inv X pins σ H s->s.heap.get? a=some oe->oe.cls= .ref C->oe.data= .fields vs->vs[0]? =some a0->vs[1]? =some .none->H a=none->X.s₀.heap.get? a=none->XAt s.heap a o->E (.ref C) o H->X.xe (.ref a) s
theorem c64 {cd:Value}{s0:Shared}{H0:Hp} :
  bI0 (uS (CXr P w base) P w K mg base N qual scope f cd A outer s0 H0 E) E C:=by
 intro pins σ H s a oe vs a0 o I he hc hd h0 h1 nH n0 xa hE;have fr:(A.deeper<|envOfC qual scope s0.heap.objs.size f cd).frames=some (envOfC qual scope s0.heap.objs.size f cd::outer):=I.ok.frames;have sf: ∀b∈frs (envOfC qual scope s0.heap.objs.size f cd::outer),H b=none:=I.stkFree;have fl0:s.heap.FunFrames base (envOfC qual scope s0.heap.objs.size f cd::outer):=I.stack
 have fe:(envOfC qual scope s0.heap.objs.size f cd).frame=some s0.heap.objs.size:=rfl;have fm: ∀b∈frs (envOfC qual scope s0.heap.objs.size f cd::outer),b=s0.heap.objs.size\/b∈frs outer:=λb hb=>by
  unfold frs at hb⊢;rw[jE,fe]at hb;exact aZ.mp hb
 have nt: ∀T,¬Tr s.heap a T:=by
  rintro T ⟨o,ws,k1,k2,k3⟩;rw[he]at k1;cases k1;rw[hd]at k2;cases k2;rw[h1]at k3;cases k3
 have nb:base.get? a=none:=by
  cases q:base.get? a with
  | none=>rfl
  | some o=>rw[(I.ok.bs a o q).1]at n0;cases n0
 have st:base.StaysIn s.heap:=I.bk;show wpAny _ _ (leaving _<|.ref a) _ _ s;refine cF1 fr fl0 (L:=s0.heap.objs.size) rfl he st nb hd h1 h0 λh' fl' p=> ?_
 rw[hc]at fl';have hdf: ∀b∈frs outer,∀o,s.heap.get? b=some o-> ∀vs,o.data≠ .fields vs:=λb hb o q=>by
  obtain⟨_,o',q',n⟩:=fl0.mem (b:=b) (by
   unfold frs at hb;rw[jE,fe];exact aZ.mpr (.inr hb))
  rw[q]at q';cases q';exact n
 have un:Un (frs outer) [] H0 H s0.heap h':=I.base.past p fm (lM<|aH _) n0 (λT q=>absurd q (nt T)) hdf
 have ht: ∀T,Tr s.heap a T->H T=none:=λT q=>absurd q (nt T)
 refine⟨a,C,o,H,rfl,I.os,I.bare,un,I.hok.past p sf nH ht,⟨⟨a0,fl'⟩,nH,aJ1 I.hok p sf nH ht⟩,⟨n0,λT q=> ?_⟩,xa.dk p.dk,hE⟩
 rcases p.tr T q with z|z|z|z
 .rcases fm T z with z|z
  .rw[z];exact lM (aH _)
  .exfalso
   obtain⟨o,ws,q1,q2⟩:=p.rcd T q;obtain⟨_,o',q',n⟩:=fl'.2.2.1.mem (b:=T) z;rw[q1]at q';cases q';exact n ws q2
 .rw[z];exact n0
 .exact absurd z (nt T)
 .cases r:s0.heap.get? T with
  | none=>rfl
  | some o=>
   obtain⟨o',q'⟩:=I.base.there T o r (show T ∉ ([]:List Addr)by simp)
   rw[z]at q';cases q'
def dH3 (C:Addr)(E:XK)(ta:TA):TS:=λ_ σ H=>ta σ H λvs H1=>vs.length<=sizeLine/\E (.ref C) none H1
theorem dH4 {ta:TA}{B:String}(FB:ExcBaseFacts B newId initId bmB)(q:excIn X.K C bmB newId=true)(hg:Gl X x)(hm:X.mg x=some (.ref C))(hc:X.calm=true)(ha:PA X (e::es) ta)(th:bI0 X E C)
  (he:↥(starEach (e::es) X.env=(false,eval e X.env)::starEach es X.env)) (hpl:↥((backTo cpos<|starEach es X.env).any (·.1)=false)) (hd:⇑(x∪0)) (hex:↥(X.ex=[])) :
  PS X (.Raise (some<|.Call (.Name x np) (e::es) [] cpos) none pos) (dH3 C E ta):=by
 intro pins s σ H D I h;obtain⟨bm,N,mN,⟨nm,qn,bs,hdd,sn,sub,ab,col,dd,k0,k1,k2,k3,k5,hC⟩,hN,hni,tl⟩:=bE4 I.mod.kin q;have keepS: ∀{pins:List (Addr×Obj)} {σ:St} {H:Hp} {s2:Shared},Inv X pins σ H s2-> ∀b o,X.base.get? b=some o->s2.heap.get? b=some o:=λJ=>J.bk
 refine wpAny_Raise_call_subT (C:=C) (nm:=nm) (q:=qn) (N:=N) (bs:=bs) (bm:=bm) (hdct:=hdd) (sn:=sn) (sub:=sub) (ab:=ab) (col:=col) (dd:=dd) (k0:=k0) (k1:=k1) (k2:=k2) (k3:=k3) (k5:=k5) FB (mN:=mN) (tl.hasType FB.hasBase) (I.ok.hd hc) ?_ hni (rQ I hg hm ⟨rfl,?_⟩ hd)
 .rw[he];show(false||(backTo cpos<|starEach es X.env).any (·.1))=false;rw[hpl];rfl
 .have hh:=ha cpos pins s σ H _ I h;rw[he]at hh⊢;refine aP0 (bD hh (λus s2 ⟨vs,H1,I1,r1,q1⟩=>⟨rfl,by rw[<-r1.length];exact q1.1,keepS I1 _ _ hC,hN.keeps<|keepS I1,tl.keeps<|keepS I1,λh' a mk=> ?_⟩) λ_ _ y=>y)
  obtain⟨t,m1,m2,m3⟩:=mk.there;have I2:Inv X pins σ H1 {s2 with heap:=h'}:=I1.kept mk.keeps;refine th pins σ H1 _ a _ _ (.ref t) none I2 m1 rfl rfl rfl rfl (I1.hok.there mk.new) ?_ (λd z=>by cases z) q1.2
  cases r:X.s₀.heap.get? a with
  | none=>rfl
  | some o=>
   obtain⟨o',q'⟩:=I1.base.there a o r (by rw[hex];simp)
   rw[mk.new]at q';cases q'
end
section
variable {prog:Program}{w:World}{A:Around}{E:Value->Shared->Prop}{hp:Heap}{gn:Array GenState}{dr:Drawn}{tn:Nat}{os:OsState}
variable {nm qn:Str}{C N:Addr}{bs bm bmB:List Value}{hdd:Bool}{sn:List Str}{sub:List Value}{ab:Bool}{col:Option Bool}{dd:Option Addr}{k0 k1 k2 k3 k5:Option Value}{B newId initId:String}
theorem cS4 (F:ExcBaseFacts B newId initId bmB)(T:OwnTail hp bmB bm){mN:Str->Option Value}{oI:Obj}{Q:Fin->Shared->Prop}
  (hC:hp.get? C=some (excClassObj nm qn C N bs bm hdd sn sub ab col dd k0 k1 k2 k3 k5 newId)) (hN:hp.Ns N mN) (hini:mN "__init__"=some (.ref fI)) (hfun:hp.get? fI=some oI) (hcls:oI.cls= .type "function")
  (hgo: ∀h' e,MadeExcOf hp h' e (.ref C) us->wpAny (model prog w) A (call (.ref fI) (.ref e::us)) (λr s'=>r= .none/\Q (.done<|.ret<|.ref e) s') E ⟨h',gn,dr,tn,os⟩) (hus:us.length<=sizeLine) :
  wpAny (model prog w) A (Builtin.«type.__call__» ⟨.ref C::us,[]⟩) Q E ⟨hp,gn,dr,tn,os⟩:=by
 repeat (first
  | with_reducible refine kL hC ?_
  | with_reducible refine wpAny_madeBy_exc hC ?_
  | wp_step)
 refine codeAny_call_builtin_code (aQ4 _ F.quiet) (wpAny_check_new_subT F T hC ?_)
 refine codeAny_exc_new_subT F T hC ?_ hus
 show wpAny _ _ _ _ _ _
 generalize ea:({cls:= .type "tuple",data:= .seq us.toArray}:Obj)=oa;generalize eb:({cls:= .ref C,data:= .fields #[.ref hp.objs.size,.none,.none,.none,.bool false,.none]}:Obj)=ob;have up: ∀b o,hp.get? b=some o->((hp.push oa).push ob).get? b=some o:=λb o q=>aV _ (aV _ q)
 have g1:=up _ _ hC;have g2:=up _ _ hfun;have g3:=hN.keeps up;have g4:((hp.push oa).push ob).get? (hp.objs.size+1)=some ob:=by
  subst ea eb
  heap_get
 have g5:((hp.push oa).push ob).get? hp.objs.size=some oa:=by
  subst ea;exact aV _ (Heap.get?_push_at rfl rfl)
 have g6:=T.keeps up;have me:(Value.ref C::bm).contains (.ref C)=true:=ae
 have ec:ob.cls= .ref C:=by rw[<-eb]
 unfold isInstance
 repeat (first
  | (with_reducible refine kL g4 ?_;rw[ec])
  | (with_reducible refine qC g1 ?_;rw[me])
  | wp_step)
 show wpAny _ _ (typeLookup (.ref C) _) _ _ _
 refine wpAny_typeLookup_tail g1 g3 g6 F.mroIs F.init.lookup ?_
 rw[hini];refine gG (aA ?_);unfold bindSpecial;refine aA (a24 (T:="function") ⟨_,g2,hcls⟩ ?_);rw[a9 ac]
 have mk:MadeExcOf hp ((hp.push oa).push ob) (hp.objs.size+1) (.ref C) us:=⟨up,lM<|uL _,hp.objs.size,by rw[g4,<-eb],lM<|aH _,by rw[g5,<-ea]⟩
 refine aL (aA<|bD (hgo _ _ mk) (λr s' z=> ?_) λ_ _ z=>z)
 obtain⟨rfl,z⟩:=z
 wp_walk
 exact z
theorem xcall (F:ExcBaseFacts B newId initId bmB)(T:OwnTail hp bmB bm){mN:Str->Option Value}{oI:Obj}
  (hC:hp.get? C=some (excClassObj nm qn C N bs bm hdd sn sub ab col dd k0 k1 k2 k3 k5 newId)) (hN:hp.Ns N mN) (hini:mN "__init__"=some (.ref fI)) (hfun:hp.get? fI=some oI) (hcls:oI.cls= .type "function")
  (hgo: ∀h' e,MadeExcOf hp h' e (.ref C) us->wpAny (model prog w) (A.under<|.builtin "type.__call__" ⟨.ref C::us,[]⟩) (call (.ref fI) (.ref e::us)) (λr s'=>r= .none/\Q (.ref e) s') E ⟨h',gn,dr,tn,os⟩) (hus:us.length<=sizeLine) :
  wpAny (model prog w) A (call (.ref C) us) Q E ⟨hp,gn,dr,tn,os⟩:=by
 have t1:=tc_lookup;have t2:=tc_bind (.ref C);have t3:(⟨hp,gn,dr,tn,os⟩:Shared).TypeIs (.ref C) "type":=⟨_,hC,rfl⟩;refine oA (aR6 ?_);show wpAny _ _ (callAny (.ref C) _) _ _ _
 repeat (any_goals (first
  | assumption
  | with_reducible refine kL hC ?_
  | wp_step))
 refine⟨rfl,?_⟩
 exact codeAny_call_builtin_at (aQ4 _ af) entry_typeCall (wpAny_check_type_call_sub hC<|cS4 F T hC hN hini hfun hcls (λh' e mk=>hgo h' e mk) hus)
end
open Builtin Builtin.ObjectAttr
nonrec def veMro:List Value:=[.type "ValueError",.type "Exception",.type "BaseException",.type "object"]
nonrec def uZ:List Value->Bool
 | []=>false
 | v::r=>(v::r)==veMro||match v with
  | .ref _=>uZ r
  | _=>false
theorem b98 (self:Value): ∀{l:List Value},uZ l=true->refuseLoop self "__setattr__" l=pure ()
 | v::r,e=>by
  unfold uZ at e;rcases Bool.or_eq_true_iff.mp e with q|q
  .rw[fV.mp q];exact PySem.F.store_ValueError.passes self
  .split at q
   .rw[refuseLoop_ref];exact b98 self q
   .cases q
theorem bI1: ∀{l:List Value},uZ l=true->l.contains (.type "object")=true/\l.isEmpty=false
 | v::r,e=>by
  refine⟨?_,rfl⟩
  unfold uZ at e;rcases Bool.or_eq_true_iff.mp e with q|q
  .rw[fV.mp q];decide
  .split at q
   .rw[a08,(bI1 q).1,a26]
   .cases q
section
variable {K:PySem.W.Frag}{prog:Program}{w:World}{A:Around}{E:Value->Shared->Prop}{s:Shared}{x C:Addr}{mA:Str->Option Value}{ns:List Str}{name:Str}{v:Value}{cd:ClassData}
theorem xosa {R:Result->Shared->Prop}{tk:Tok}(X:K.In s.heap)(hc:PySem.W.clsIn K C=some cd)(hm:uZ cd.mro=true)(hdct:cd.hasDict=true)(ht:PySem.W.findIn K (.ref C) name=some none)
  (I:s.heap.Inst x C mA) (hw:Within mA ns) (hsz:ns.length<=100) {od:Option Obj} {o:Obj} (hx:s.heap.get? x=some o) (J:InstAt s.heap x o C od)
  (hq: ∀h' tk,h'.Inst x C (λy=>if y=name then some v else mA y)->(∀b o,b≠x->(∀o0 dx,s.heap.get? x=some o0->o0.dict=some dx->b≠dx)->s.heap.get? b=some o->h'.get? b=some o)->
   (∀o0,s.heap.get? x=some o0-> ∃o1,h'.get? x=some o1/\o1.cls=o0.cls/\o1.data=o0.data/\ ∀dx,o1.dict=some dx->o0.dict=some dx\/(s.heap.objs.size<=dx))->R (.ok<|.ret .none) {s with heap:=h',toks:=tk}) :
  codeAny (model prog w) A (.call (.builtin "object.__setattr__") ⟨[.ref x,.str name tk,v],[]⟩) R s:=by
 have SF:=PySem.F.store_ValueError;have sub:PySem.W.Looks (model prog w) s.heap (isInstance (.ref x)<|.type "object") true:=J.type.andThen (PySem.W.looks_mroIn X (by unfold PySem.W.mroIn;rw[hc,bind_some,a7 (by rw[(bI1 hm).2];decide),(bI1 hm).1]))
 refine aP3 SF.slot.plain SF.entry (@PySem.W.check_slot (model prog w) _ _ s "object.__setattr__" "object" "__setattr__" (.ref x) [.str name tk,v] [] _ SF.kind SF.split sub (SF.args (.ref x) (.str name tk) v) ?_)
 have hmr:PySem.W.Looks (model prog w) s.heap (mroOf<|.ref C) cd.mro:=(aP7 X hc).andThen .now;rw[PySem.W.osa_eq,refuse_eq];refine aA (aA<|J.type.here<|aA<|hmr.here ?_);rw[b98 _ hm];refine aL (aA<|J.type.here<|aA<|(PySem.W.looks_findIn X ht).here<|aA<|aL ?_);have lc:=aP7 (M:=model prog w) X hc;obtain⟨o',hx',hcl,hnc,hdd⟩:=I;rw[hx]at hx';cases hx';refine aA (aL ?_);refine aA ?_
 show wpAny _ _ (instanceDict x true) _ _ s
 unfold instanceDict;refine aA (wpAny_loadPart hx ?_);rw[hcl];right;refine aA (lc.here ?_);rw[hdct];rw[a7 ac]
 clear sub hmr lc;obtain⟨hp,gn,dr,tn,os⟩:=s;dsimp only at *;have put: ∀(h1:Heap) (dx:Addr) (o1:Obj),h1.get? x=some o1->o1.cls= .ref C->(∀c,o1.data≠ .cls c)->o1.dict=some dx->dx≠x->h1.Ns1 dx mA->o1.data=o.data->(∀b ob,b≠x->hp.get? b=some ob->h1.get? b=some ob)->(o.dict=some dx\/hp.objs.size<=dx)->
   wpAny (model prog w) A.in1 (storeInDict dx (.str name tk) name v) (λfin s'=>match fin with| .done f=>R (.ok f) s'| .again c'=>c'.quiet=true/\codeAny (model prog w) A c' R s') (λe s'=>R (.error e) s') ⟨h1,gn,dr,tn,os⟩:=by
  intro h1 dx o1 g1 g2 g3 g4 g5 g6 g7 g8 g9;unfold storeInDict newKeyGuard;refine aA (aL<|aA<|wpAny_nsSet1 g6 λh' n' sb=> ?_)
  obtain⟨oD,eD,pD,q1,q2,q3⟩:=n'.count (Within.cons name v hw);have few:eD.size<=sizeLine:=by
   refine aJ q3 ?_
   rw[cY,sizeLine_eq]
   lia
  refine aA (wpAny_lookBehind q1 (by rw[q2];exact pastItsLine_dict (aQ8 few)) ?_)
  have gx:h'.get? x=some o1:=(sb.2 x<|Ne.symm g5).trans g1;refine aL (hq h' _ ⟨o1,gx,g2,g3,.inr ⟨dx,g4,g5,n'⟩⟩ (λb ob k1 k2 k3=> ?_) λo0 k1=> ?_)
  .have nb:b≠dx:=by
    rcases g9 with z|z
    .exact k2 o dx hx z
    .intro q;have:=aW k3;rw[q]at this;exact absurd (b9 this z) (dJ _)
   exact(sb.2 b nb).trans (g8 b ob k1 k3)
  .rw[hx]at k1;cases k1;exact⟨o1,gx,by rw[g2,hcl],g7,λdx' z=>by rw[g4]at z;cases z;exact g9⟩
 rcases hdd with⟨hn,hmA⟩| ⟨dx,hdx,hne,hns⟩
 .rw[hn];right;rw[a7<|by simp[typeHasDict]]
  have ex: ∀d':Data,d'=o.data->wpAny (model prog w) A.in1 (match d' with
     | .cls c=>pure none
     | _=>do
      let d<-alloc {cls:=Value.type "dict",data:=Data.dict #[]}
      update x λo=>{cls:=o.cls,dict:=some d,data:=o.data,slots:=o.slots}
      dictMade (Value.ref C) x d) (λa s'=>wpAny (model prog w) A.in1 (match a with|some d=>storeInDict d (.str name tk) name v|none=>noDictFor (.ref x) (.ref C) name (none:Option Value).isSome) (λfin s'=>match fin with| .done f=>R (.ok f) s'| .again c'=>c'.quiet=true/\codeAny (model prog w) A c' R s') (λe s'=>R (.error e) s') s') (λe s'=>R (.error e) s') ⟨hp,gn,dr,tn,os⟩:=by
   intro d' ed;split
   .rename_i c
    exact absurd ed.symm (hnc c)
   .have x1:(hp.push {cls:= .type "dict",data:= .dict #[]}).get? x=some o:=aV _ hx;have xs:x≠hp.objs.size:=bK (aW hx);refine aA (wpAny_alloc'<|aA<|wpAny_update' x1<|aL ?_);have alive:Obj.isFreed {cls:=o.cls,dict:=some hp.objs.size,data:=o.data,slots:=o.slots}=false:=by
     have:=(Heap.get?_some_iff.mp hx).2;obtain⟨c1,c2,c3,c4⟩:=o;cases c3<;>first|rfl|exact this
    have gd:((hp.push {cls:= .type "dict",data:= .dict #[]}).update x λo=>{cls:=o.cls,dict:=some hp.objs.size,data:=o.data,slots:=o.slots}).get? hp.objs.size=some {cls:= .type "dict",data:= .dict #[]}:=
     (a04 _ _ _ _<|Ne.symm xs).trans (Heap.get?_push_at rfl rfl)
    refine put _ hp.objs.size {cls:=o.cls,dict:=some hp.objs.size,data:=o.data,slots:=o.slots} (pW _ x1 alive) hcl hnc rfl (Ne.symm xs) ?_ rfl (λb ob k1 k2=>(a04 _ _ _ _ k1).trans (aV _ k2)) (.inr<|aH _)
    have e0:mA=λ_=>none:=funext hmA
    rw[e0];exact Heap.Ns1.of_empty ⟨_,#[],_,gd,rfl,λe he=>absurd he ae,λ_=>rfl⟩
  exact ex o.data rfl
 .rw[hdx];exact aL (put hp dx o hx hcl hnc hdx hne hns rfl (λb ob _ k=>k) (.inl hdx))
theorem xset {Q:Unit->Shared->Prop}(X:K.In s.heap)(hc:PySem.W.clsIn K C=some cd)(hm:uZ cd.mro=true)(hdct:cd.hasDict=true)(hsa:PySem.W.findIn K (.ref C) "__setattr__"=some (some<|.builtin "object.__setattr__"))(ht:PySem.W.findIn K (.ref C) name=some none)
  (I:s.heap.Inst x C mA) (hw:Within mA ns) (hsz:ns.length<=100)
  (hq: ∀h' tk,h'.Inst x C (λy=>if y=name then some v else mA y)->(∀b o,b≠x->(∀o0 dx,s.heap.get? x=some o0->o0.dict=some dx->b≠dx)->s.heap.get? b=some o->h'.get? b=some o)->
   (∀o0,s.heap.get? x=some o0-> ∃o1,h'.get? x=some o1/\o1.cls=o0.cls/\o1.data=o0.data/\ ∀dx,o1.dict=some dx->o0.dict=some dx\/(s.heap.objs.size<=dx))->Q () {s with heap:=h',toks:=tk}) :
  wpAny (model prog w) A (setAttr (.ref x) name v) Q E s:=by
 have I':=I;obtain⟨o,hx,hcl,hnc,hdd⟩:=I;have J: ∃od,InstAt s.heap x o C od:=by
  rcases hdd with⟨e,_⟩| ⟨dx,e,_,od,es,ep,ge,_⟩
  .exact⟨none,hx,hcl,(by unfold PySem.W.notCls;split<;>first|rfl| (rename_i c q;exact absurd q (hnc c))),by rw[e];trivial⟩
  .exact⟨some od,hx,hcl,(by unfold PySem.W.notCls;split<;>first|rfl| (rename_i c q;exact absurd q (hnc c))),by rw[e];exact ge⟩
 obtain⟨od,J⟩:=J;refine PySem.W.set_plain X J hsa ?_;exact xosa (s:={s with toks:=s.toks+1}) X hc hm hdct ht I' hw hsz hx J λh' tk a b c=>hq h' tk a b c
end
inductive e50 (K:PySem.W.Frag) (fI:Addr) (fd:FuncData) (f1 f2:Str):Prop
 | mk (oc:Value) (od:Option Addr) (nm qual:Str) (params:Arguments) (scope:Scope) (kV doc pm:Value) (an:Option Addr) (cdv ct:Value) (osl:Array (Option Value)) (x0 x1 x2:Str) (p1 p2 p3 p4 p5 p6 p7 p8:Pos)
  (_:fd=fnOf nm qual params [.Assign [.Attribute (.Name x0 p1) f1 p2] (.Name x1 p3) p4,.Assign [.Attribute (.Name x0 p5) f2 p6] (.Name x2 p7) p8] scope .none kV doc pm an cdv ct)
  (_:K.lookup fI=some ⟨oc,od,.func fd,osl⟩) (_:oc= .type "function") (_:codeIn K cdv qual=true) (_:aX [x0,x1,x2] [x0,x1,x2] scope)
  (_:scope.names.lookup x0=some .local) (_:scope.names.lookup x1=some .local) (_:scope.names.lookup x2=some .local) (_:x0∪0) (_:x1∪0) (_:x2∪0) (_:Binds K fd [x0,x1,x2] []):e50 K fI fd f1 f2
structure cF2 (K:PySem.W.Frag)(C fI:Addr)(fd:FuncData)(f1 f2:Str):Prop where
 ex:e50 K fI fd f1 f2
 cls: ∃cd,PySem.W.clsIn K C=some cd/\uZ cd.mro=true/\cd.hasDict=true
 sa:PySem.W.findIn K (.ref C) "__setattr__"=some (some<|.builtin "object.__setattr__")
 n1:PySem.W.findIn K (.ref C) f1=some none
 n2:PySem.W.findIn K (.ref C) f2=some none
inductive Laid (C e:Addr) (f1 f2:Str) (v1 v2:V) (s s':Shared):Prop
 | mk (_:s'.os=s.os) (_:AllBare s'.gens) (_: ∀b o,s.heap.get? b=some o->s'.heap.get? b=some o) (oe:Obj) (t d:Addr) (w1 w2:Value) (_:s'.heap.get? e=some oe) (_:oe.cls= .ref C) (_:oe.data= .fields #[.ref t,.none,.none,.none,.bool false,.none]) (_:oe.dict=some d) (_:d≠e) (_:s.heap.get? d=none) (_:RelV v1 w1) (_:RelV v2 w2) (_:s'.heap.Ns1 d (λy=>if y=f2 then some w2 else if y=f1 then some w1 else none)):Laid C e f1 f2 v1 v2 s s'
section
variable {X:Cx}{pins:List (Addr×Obj)}{σ:St}{H:Hp}{s:Shared}{C fI e:Addr}{fd:FuncData}{f1 f2:Str}{h1:Heap}{u1 u2:Value}{v1 v2:V}{E:Value->Shared->Prop}{k:Nat}
theorem d63 (T:cF2 X.K C fI fd f1 f2)(I:Inv X pins σ H s)(hr:gX (k+1) X.A)(mk:MadeExcOf s.heap h1 e (.ref C) [u1,u2])(r1:RelV v1 u1)(r2:RelV v2 u2) :
  wpAny (model X.prog X.w) (X.A.under<|.builtin "type.__call__" ⟨.ref C::[u1,u2],[]⟩) (call (.ref fI) (.ref e::[u1,u2])) (λr s'=>r= .none/\Laid C e f1 f2 v1 v2 s s') E {s with heap:=h1}:=by
 obtain⟨oc,od,nm,qual,params,scope,kV,doc,pm,an,cdv,ct,osl,x0,x1,x2,p1,p2,p3,p4,p5,p6,p7,p8,rfl,lk,_,hcd,S,l0,l1,l2,d0,d1,d2,hb⟩:=T.ex;obtain⟨cd,hc,hm,hdct⟩:=T.cls;have I1:Inv X pins σ H {s with heap:=h1}:=I.kept mk.keeps;have e0:=I1.env0.make C [u1,u2] [];have rm:=hr.make C [u1,u2] [];have KX:=I1.kIn;have lim:=I1.nolimit
 have us:Vals [V.ref e,v1,v2] [Value.ref e,u1,u2]:= .cons rfl (.cons r1<|.cons r2 .nil);have hkind: ∀y∈[x0,x1,x2].zip [Value.ref e,u1,u2],scope.names.lookup y.1=some .local\/(scope.names.lookup y.1=some .cell/\((cellsFrom (h1.objs.size+1) scope.names []).lookup y.1).isSome=true):=λ⟨n,v⟩ hy=>by
  have:=(a14 hy).1;simp at this;rcases this with rfl|rfl|rfl
  .exact .inl l0
  .exact .inl l1
  .exact .inl l2
 refine oA ?_
 have bd:=hb {s with heap:=h1} [Value.ref e,u1,u2] KX rfl;rw[gW]at bd;refine codeAny_call_function rm.depth (KX _ _ lk) rfl S.co S.gen rfl (PySem.W.codeRec_of KX hcd) (bd _ _ _ _ ?_);refine wpAny_newFunctionEnv_cells S.kind hkind λenv he s2 x=> ?_
 subst he;refine⟨lim.keeps x.toInCall.keep,codeAny_func ?_⟩;have J:Inv (uS CX0 X.prog X.w X.K X.mg X.base [x0,x1,x2] qual scope fI cdv (X.A.under<|.builtin "type.__call__" ⟨.ref C::[u1,u2],[]⟩) X.stack {s with heap:=h1} H E0) [] (start [x0,x1,x2] [V.ref e,v1,v2]) H s2:=bW0 S rm.hd e0 rfl us x;obtain⟨m,hn,hl⟩:=J.loc
 have look: ∀(i:Nat) (y:Str) (v:V),[x0,x1,x2][i]? =some y->(start [x0,x1,x2] [V.ref e,v1,v2])[i]? =some (some v)->scope.names.lookup y=some .local-> ∃u,RelV v u/\m y=some u:=λi y v q1 q2 q3=>by
  obtain⟨u,r,lo⟩:=hl i y v q1 q2 (.inl q3);rcases lo with⟨_,hm⟩| ⟨z,_⟩
  .exact⟨u,r,hm⟩
  .have z':scope.names.lookup y=some .cell\/scope.names.lookup y=some .free:=z;rw[q3]at z';rcases z' with z'|z'<;>cases z'
 obtain⟨w0,q0,m0⟩:=look 0 x0 (.ref e) rfl rfl l0;obtain⟨w1,q1,m1⟩:=look 1 x1 v1 rfl rfl l1;obtain⟨w2,q2,m2⟩:=look 2 x2 v2 rfl rfl l2;obtain rfl:w0=Value.ref e:=q0;have kk:=J.ok.kind;have kin:X.K.In s2.heap:=KX.keeps x.toInCall.keep;obtain⟨t,t1,t2,t3⟩:=mk.there;have ge:s2.heap.get? e=some {cls:= .ref C,data:= .fields #[.ref t,.none,.none,.none,.bool false,.none]}:=x.toInCall.keep _ _ t1
 have eL:e≠h1.objs.size:=bK (aW t1);have in0:s2.heap.Inst e C (λ_=>none):=⟨_,ge,rfl,(λc z=>by cases z),.inl ⟨rfl,λ_=>rfl⟩⟩
 refine qJ (aN4<|o9 (pZ kk l1 hn m1<|o9 (pZ kk l0 hn m0 ?_) d0) d1)
 refine xset kin hc hm hdct T.sa T.n1 in0 (ns:=[]) (λn z=>absurd rfl z) ae λh3 tk3 in3 kp3 ob3=> ?_
 obtain⟨o3,g3,c3,dt3,dd3⟩:=ob3 _ ge;have keep3: ∀b o,b≠e->s2.heap.get? b=some o->h3.get? b=some o:=λb o n q=>kp3 b o n (λo0 dx z1 z2=>by rw[ge]at z1;cases z1;cases z2) q
 have hn3:h3.Ns h1.objs.size m:=by
  obtain⟨o,es,ep,z1,z2⟩:=hn;exact⟨o,es,ep,keep3 _ _ (Ne.symm eL) z1,z2⟩
 have keep3': ∀b o,s.heap.get? b=some o->h3.get? b=some o:=λb o q=>keep3 b o (λz=>by rw[z,mk.new]at q;cases q) (x.toInCall.keep _ _<|mk.keeps b o q)
 have kin3:X.K.In h3:=I.kIn.keeps keep3';refine qJ (aN4<|o9 (pZ kk l2 hn3 m2<|o9 (pZ kk l0 hn3 m0 ?_) d0) d2);refine xset kin3 hc hm hdct T.sa T.n2 in3 (ns:=[f1]) (λn z=> ?_) ae λh4 tk4 in4 kp4 ob4=> ?_
 .by_cases c:n=f1
  .simp[c]
  .rw[a7 c]at z;exact absurd rfl z
 obtain⟨o4,g4,c4,dt4,dd4⟩:=ob4 _ g3;refine kN ?_;obtain⟨o5,g5,_,_,dd5⟩:=in4;rw[g4]at g5;cases g5;rcases dd5 with⟨_,no⟩| ⟨d,ed,de,nd⟩
 .have:=no f2;simp at this
 have dn:s.heap.get? d=none:=by
  cases q:s.heap.get? d with
  | none=>rfl
  | some o=>
   exfalso
   have a3:=aW (keep3' d o q);have a2:=aW (x.toInCall.keep _ _<|mk.keeps d o q);rcases dd4 d ed with z|z
   .rcases dd3 d z with z|z
    .cases z
    .exact absurd (b9 a2 z) (dJ _)
   .exact absurd (b9 a3 z) (dJ _)
 refine⟨rfl,J.os,J.bare,λb o q=> ?_,o4,t,d,w1,w2,g4,?_,?_,ed,de,dn,q1,q2,nd⟩
 .refine kp4 b o (λz=>by rw[z,mk.new]at q;cases q) (λo0 dx z1 z2=> ?_) (keep3' b o q)
  rw[g3]at z1;cases z1;rcases dd3 dx z2 with z|z
  .cases z
  .intro z';have:=aW (x.toInCall.keep _ _<|mk.keeps b o q);rw[z']at this;exact absurd (b9 this z) (dJ _)
 .rw[c4,c3]
 .rw[dt4,dt3]
end
nonrec def a93 (K:PySem.W.Frag)(C fI:Addr)(bmB:List Value)(newId:String):Bool:=match K.lookup C with
 | some ⟨.type "type",_,.cls ck,sl⟩=>(match ck.mro,sl.toList with
  | .ref C2::tail,[_,_,_,_,some<|.builtin nid,_]=>C2==C&&nid==newId&& !ck.hasDel&&PySem.W.tailIn K bmB tail&&PySem.W.nsOkIn K ck.ns&&nsIn K ck.ns "__init__"==some (some<|.ref fI)
  | _,_=>false)
 | _=>false
theorem dW8 {N:Addr}{n:Str}(X:K.In h)(G:h.Ns N mg)(e:nsIn K N n=some (some v)):mg n=some v:=by
 obtain⟨ob,ents,np,look0,dat,_,find0⟩:=G;unfold nsIn at e;split at e
 .rename_i look
  have same:=X _ _ look;rw[look0]at same;cases same;cases dat;split at e
  .rename_i en found
   cases e;rw[<-find0];unfold nsFind findBy;rw[<-Array.find?_toList,found];rfl
  .split at e<;>cases e
 .cases e
inductive e51 (h:Heap) (C fI:Addr) (bmB bm:List Value) (newId:String):Prop
 | mk (N:Addr) (mN:Str->Option Value) (o:XO h C N bm newId) (n:h.Ns N mN) (i:mN "__init__"=some (.ref fI)) (t:OwnTail h bmB bm):e51 h C fI bmB bm newId
theorem bI2 (X:K.In h)(q:a93 K C fI bmB newId=true): ∃bm,e51 h C fI bmB bm newId:=by
 unfold a93 at q;split at q
 .rename_i od ck slots look
  split at q
  .rename_i C2 tail a0 a1 a2 a3 nid a5 em es
   simp only[eG,fV,aQ7]at q;obtain⟨⟨⟨⟨⟨rfl,rfl⟩,nodel⟩,tk⟩,nk⟩,ni⟩:=q;obtain⟨c1,c2,c3,c4,c5,c6,c7,c8,c9,c10,c11⟩:=ck;dsimp only at em nodel nk ni;subst em nodel;obtain⟨sll⟩:=slots;simp only at es;subst es;have nsk:h.Ns c4 (h.nsMap c4):= .of_isNs (PySem.W.isNs_of_in X nk);exact⟨tail,_,_,⟨_,_,_,_,_,_,_,_,_,_,_,_,_,_,X _ _ look⟩,nsk,dW8 X nsk ni,PySem.W.tail_of_in X tk⟩
  .cases q
 .cases q
section
variable {M:Model}{A:Around}{E:Value->Shared->Prop}{s:Shared}{env:Env}
variable {nm qn:Str}{C N:Addr}{bs bm:List Value}{hdd:Bool}{sn:List Str}{sub:List Value}{ab:Bool}{col:Option Bool}{dd:Option Addr}{k0 k1 k2 k3 k5:Option Value}{newId:String}
theorem xraise {x:Sem Value}{Q:Flow->Shared->Prop}(hbase:bm.contains (.type "BaseException")=true)(hh:A.handled=none)
  (h:wpAny M A x (λv s1=> ∃e oe vs,v= .ref e/\s1.heap.get? C=some (excClassObj nm qn C N bs bm hdd sn sub ab col dd k0 k1 k2 k3 k5 newId)/\s1.heap.get? e=some oe/\oe.cls= .ref C/\oe.data= .fields vs/\vs[1]? =some .none/\E (.ref e) s1) E s) :
  wpAny M A (raiseStmt env (some x) none) Q E s:=by
 have has:(Value.ref C::bm).contains (.type "BaseException")=true:=by rw[a08,hbase,a26]
 unfold raiseStmt;refine aA (bD h (λv s1 z=> ?_) λ_ _ y=>y)
 obtain⟨e,oe,vs,rfl,hC,he,hcl,hdt,h1,hE⟩:=z;obtain⟨hp,gn,dr,tn,os⟩:=s1;obtain⟨oc,od,odt,osl⟩:=oe;dsimp only at hcl hdt;subst hcl hdt
 repeat (first
  | with_reducible refine kL he ?_
  | with_reducible refine kL hC ?_
  | (with_reducible refine qC hC ?_;rw[has])
  | wp_step)
 rw[h1];refine aL (aL ?_);exact wpAny_raiseNew_none hh hE
end
section
variable {P:Program}{w:World}{H:Hp}{h h':Heap}{a:Addr}{o:HO}{fs ex:List Addr}
theorem HOk.laidN (x:HOk P w H h)(k: ∀b u,h.get? b=some u->h'.get? b=some u)(hn:H a=none)(new:rX P w (upd H a o) h' a o):HOk P w (upd H a o) h':=λb u e=>by
 by_cases hb:b=a
 .subst hb;rw[iY]at e;cases e;exact new
 .rw[cL hb]at e;exact(x b u e).stay (λc v _ q=>k c v q) (λc q=>by rw[cL<|dA q hn];exact q) λc xs q=>by rw[cL<|dA q hn];exact q
theorem Un.laidN (k: ∀b u,h.get? b=some u->h'.get? b=some u)(hp:h.get? a=none)(hn:H a=none):Un fs ex H (upd H a o) h h' where
 keep:=λb u q _ _ _=>k b u q
 slot:=λb u q _ _ _=>⟨u.slots,k b u q⟩
 free:=λb u q n _=>by rw[cL (λz=>by rw[z,hp]at q;cases q)];exact n
 there:=λb u q _=>⟨u,k b u q⟩
 tups:=λb xs q=>by rw[cL<|dA q hn];exact q
 frzs:=λb u xs q=>by rw[cL<|dA q hn];exact q
 tbls:=λb ps q=>⟨#[],by rw[cL<|dA q hn,q];simp⟩
end
theorem dH5 {w1 w2:V}(r:Vals [w1,w2] us): ∃u1 u2,us=[u1,u2]/\RelV w1 u1/\RelV w2 u2:=by
 cases r with
 | cons a r=>
  cases r with
  | cons b r=>
   cases r;exact⟨_,_,rfl,a,b⟩
section
variable {X:Cx}{E:XK}{C fI:Addr}
def dW9 (C:Addr)(f1 f2:Str)(E:XK)(ta:TA):TS:=λ_ σ H=>ta σ H λvs H1=> ∃v1 v2,vs=[v1,v2]/\ ∀d,H1 d=none->E (.ref C) (some d) (upd H1 d<|.xd [(f1,v1),(f2,v2)])
theorem d64 {x:Str}{np cpos pos:Pos}{e1 e2:Expr}{ta:TA}{B newId initId:String}{bmB:List Value}{fd:FuncData}{f1 f2:Str}{k:Nat}(FB:ExcBaseFacts B newId initId bmB)(q:a93 X.K C fI bmB newId=true)(T:cF2 X.K C fI fd f1 f2)(hr:gX (k+1) X.A)(hg:Gl X x)(hm:X.mg x=some (.ref C))(hc:X.calm=true)(ha:PA X [e1,e2] ta)(th:bI0 X E C)(hne:f1≠f2)
  (he:↥(starEach [e1,e2] X.env=(false,eval e1 X.env)::starEach [e2] X.env)) (hpl:↥((backTo cpos<|starEach [e2] X.env).any (·.1)=false)) (hd:⇑(x∪0)) (hex:↥(X.ex=[])) :
  PS X (.Raise (some<|.Call (.Name x np) [e1,e2] [] cpos) none pos) (dW9 C f1 f2 E ta):=by
 intro pins s σ H D I h;obtain⟨bm,N,mN,⟨nm,qn,bs,hdd,sn,sub,ab,col,dd,k0,k1,k2,k3,k5,hC⟩,hN,hni,tl⟩:=bI2 I.mod.kin q;have keepS: ∀{pins:List (Addr×Obj)} {σ:St} {H:Hp} {s2:Shared},Inv X pins σ H s2-> ∀b o,X.base.get? b=some o->s2.heap.get? b=some o:=λJ=>J.bk
 rw[arm_exec_Raise];refine aA (kP<|xraise (C:=C) (nm:=nm) (qn:=qn) (N:=N) (bs:=bs) (bm:=bm) (hdd:=hdd) (sn:=sn) (sub:=sub) (ab:=ab) (col:=col) (dd:=dd) (k0:=k0) (k1:=k1) (k2:=k2) (k3:=k3) (k5:=k5) (newId:=newId) (tl.hasType FB.hasBase) (I.ok.hd hc) ?_);refine aA (bD (wpAny_Call_ofName<|rQ I hg hm ?_ hd) (λv s3 h3=>aA (kP<|aL h3)) λ_ _ z=>z)
 have plain:(backTo cpos<|starEach [e1,e2] X.env).any (·.1)=false:=by
  rw[he];show(false||(backTo cpos<|starEach [e2] X.env).any (·.1))=false;rw[hpl];rfl
 have hh:=ha cpos pins s σ H _ I h;unfold callWith;rw[he]at hh plain⊢;refine aA (gG<|aP0<|bD hh (λus s2 z=>aA (kP ?_)) λ_ _ z=>z)
 obtain⟨vs,H1,I1,r1,w1,w2,rfl,hE⟩:=z;simp only[plain];have hC2:=keepS I1 _ _ hC;obtain⟨u1,u2,rfl,q1,q2⟩:=dH5 r1;obtain⟨oc,od,_,_,_,_,_,_,_,_,_,_,osl,_,_,_,_,_,_,_,_,_,_,_,efd,lk,oce,_⟩:=T.ex;have gf:=I1.kIn _ _ lk;obtain⟨hp,gn,dr,tn,os⟩:=s2;refine aA (wpAny_keeperOf_exc hC2 ?_);refine aA (xcall FB (tl.keeps<|keepS I1) hC2 (hN.keeps<|keepS I1) hni gf oce (λh' a mk=> ?_) (by simp;decide))
 refine bD (d63 T I1 hr mk q1 q2) (λr s' z=> ?_) λ_ _ z=>z
 obtain⟨rfl,z1,z2,z3,oe,t,d,y1,y2,z4,z5,z6,ed,de,dn,x1,x2,nd⟩:=z;refine⟨rfl,aA<|gG<|wpAny_point<|aL ?_⟩;have dH:H1 d=none:=I1.hok.there dn;have I2:Inv X pins σ (upd H1 d<|.xd [(f1,w1),(f2,w2)]) s':=by
  obtain⟨hp',gn',dr',tn',os'⟩:=s';obtain rfl:os'=os:=z1;refine I1.call (h':=hp') (g':=gn') (d':=dr') (t':=tn') (ch:=[]) (Un.laidN z3 dn dH) (I1.hok.laidN z3 dH ?_) z2 (λb z=>absurd z ae)
  refine⟨_,nd,λf=> ?_⟩
  simp only[cZ,List.lookup_nil]
  by_cases c1:f=f1
  .subst c1;rw[aR3,a7 hne,a9 rfl];exact x1
  .rw[show(f==f1)=false from qA.mpr c1]
   by_cases c2:f=f2
   .subst c2;rw[aR3,a9 rfl];exact x2
   .rw[show(f==f2)=false from qA.mpr c2,a7 c2,a7 c1]
    exact trivial
 refine⟨a,oe,_,rfl,z3 _ _ hC2,z4,z5,z6,rfl,?_⟩
 refine th pins σ _ s' a oe _ (.ref t) (some d) I2 z4 z5 z6 rfl rfl (by rw[cL<|Ne.symm de];exact I1.hok.there mk.new) ?_ (λd' e=>by cases e;exact⟨oe,z4,ed⟩) (hE d dH)
 cases r:X.s₀.heap.get? a with
 | none=>rfl
 | some o=>
  obtain⟨o',q'⟩:=I1.base.there a o r (by rw[hex];simp)
  rw[mk.new]at q';cases q'
end
end L2
namespace M
abbrev XP:=Str->List D->Prop
abbrev ΦX:=List D->(B->Prop)->XP->Prop
nonrec def aC6 (n:Str):List Str:=if n="FallsApart" then ["left","right"]else if n="NotWhole" then ["prime","number"]else []
nonrec def XR (K:PySem.W.Frag)(A:AS)(H:Hp)(n:Str)(ds:List D):Option Addr->Prop
 | none=>aC6 n=[]
 | some d=> ∃vs,¬A d/\H d=some (.xd<|(aC6 n).zip vs)/\(aC6 n).length=vs.length/\cE K A H ds vs
theorem XR.mono {K:PySem.W.Frag}{A A':AS}{H H':Hp}{n:Str}{ds:List D}(p:mY A H A' H'): ∀{o:Option Addr},XR K A H n ds o->XR K A' H' n ds o
 | none,h=>h
 | some d,⟨vs,h1,h2,h3,h4⟩=>⟨vs,(p d _ h1 h2).1,(p d _ h1 h2).2,h3,h4.mono p⟩
nonrec def spX (K:PySem.W.Frag)(mg:Str->Option Value)(φ:ΦX):Sp:=λvs H Q E=> ∃A ds Q0 Ex,(∀a,A a->H a≠none)/\cE K A H ds vs/\φ ds Q0 Ex/\(∀b v H',Q0 b->i6 H H'->qV K A H H' b v->Q v H')/\ ∀n C es o H',Ex n es->mg n=some (.ref C)->i6 H H'->XR K A H' n es o->E (.ref C) o H'
structure FnX (P:Program)(w:World)(K:PySem.W.Frag)(mg:Str->Option Value)(base:Heap)(x:Str)(ps:List Str)(k:Nat)(φ:ΦX):Prop where
 ex: ∃f fd,sQ P w K mg base (CXr P w base) k f fd ps (spX K mg φ)/\Binds K fd ps []/\keepIn K (.ref f)=true/\mg x=some (.ref f)
abbrev USX:=XP->US
def lSX (K:PySem.W.Frag)(mg:Str->Option Value)(E:XK)(t:USX):TS:=λD σ H=> ∃C ρ D0 Ex,EOk K C ρ σ H/\t Ex D0 ρ/\DOk K C D0 D/\ ∀n Cl es o H',Ex n es->mg n=some (.ref Cl)->i6 C.H0 H'->XR K C.A0 H' n es o->E (.ref Cl) o H'
def c65 (X:Cx)(E:XK)(st:Stmt)(t:USX):Prop:=PS X st (lSX X.K X.mg E t)
def yS (X:Cx)(E:XK)(sts:List Stmt)(t:USX):Prop:=PSs X sts (lSX X.K X.mg E t)
section
variable {X:Cx}{E:XK}{st:Stmt}{sts:List Stmt}{t u:USX}{e:Expr}{es:List Expr}{pos:Pos}
theorem aX3 {t:US}(h:PUS X st t):c65 X E st (λ_=>t):=rY h λD σ H ⟨C,ρ,D0,Ex,I,h,k,_⟩=>⟨C,ρ,D0,I,h,k⟩
theorem cF3 {t:US}(h:sR X sts t):yS X E sts (λ_=>t):=bG6 h λD σ H ⟨C,ρ,D0,Ex,I,h,k,_⟩=>⟨C,ρ,D0,I,h,k⟩
theorem bE5 (h1:c65 X E st t)(h2:yS X E sts u):yS X E (st::sts) (λEx=>aS (t Ex) (u Ex)):=
 bG6 (yJ h1 h2) λD σ H ⟨C,ρ,D0,Ex,I,h,k,kx⟩=>⟨C,ρ,{D0 with nx:=u Ex D0},Ex,I,h,⟨λρ' σ' H' q I'=>⟨C,ρ',D0,Ex,I',q,k,kx⟩,k.rt,k.bk,k.ct⟩,kx⟩
theorem b47 (h1:c65 X E st t):yS X E [st] t:=c36 h1
theorem c66:yS X E [] (λ_=>dD):=cF3 c47
theorem cZ6 {a b:List Stmt}{tc:UT}(hc:PUT X c tc)(ha:yS X E a t)(hb:yS X E b u):c65 X E (.If c a b pos) (λEx=>fS tc (t Ex) (u Ex)):=
 rY (e40 hc ha hb) λD σ H ⟨C,ρ,D0,Ex,I,h,k,kx⟩=>⟨C,ρ,_,I,h,λc ρ1 H1 q f s=>by
  have I1:=(I.frz f).same s;cases c with
  | true=>
   dsimp only at q⊢;rw[a9 rfl]at q⊢;exact⟨C,ρ1,D0,Ex,I1,q,k,kx⟩
  | false=>
   dsimp only at q⊢;rw[a7 ac]at q⊢
   exact⟨C,ρ1,D0,Ex,I1,q,k,kx⟩⟩
def c67 (φ:ΦX)(t:UA)(Ex:XP):UE:=λρ Q=>t ρ λds ρ1=>φ ds (λb=>Q b ρ1) Ex
theorem spX_of {φ:ΦX}{C:C0}{ρ ρ1:Ev}{σ:L2.St}{H H1:Hp}{ds:List D}{vs:List V}{Q0:B->Prop}{Ex:XP}{Q:VK}(I:EOk X.K C ρ σ H)(f:Frz ρ ρ1)(s:i6 H H1)(r:cE X.K (Av C ρ1 σ) H1 ds vs)(q:φ ds Q0 Ex)(kq: ∀b v H',Q0 b->i6 H1 H'->qV X.K (Av C ρ1 σ) H1 H' b v->Q v H')(kx: ∀n Cl es o H',Ex n es->X.mg n=some (.ref Cl)->i6 C.H0 H'->XR X.K C.A0 H' n es o->E (.ref Cl) o H'):spX X.K X.mg φ (vs++[]) H1 Q E:=by
 have I1:=(I.frz f).same s;rw[gW];exact⟨Av C ρ1 σ,ds,Q0,Ex,λa z=>I1.avSome z,r,q,kq,λn Cl es o H' ex hm s' x=>kx n Cl es o H' ex hm (I1.ext.trans s') (x.mono<|.sub (.refl _) λa z=> .inl z)⟩
theorem cZ7 {ps:List Str}{φ:ΦX}{t:UA}(F:FnX X.prog X.w X.K X.mg X.base x ps k φ)(hr:gX k' X.A)(hk:k<=k')(hp:wX (CXr X.prog X.w X.base) X E)(hg:Gl X x)(ha:PUA X (e::es) t)(hdb:⇑(x∪0))
  (he:↥(starEach (e::es) X.env=(false,eval e X.env)::starEach es X.env)) (hpl:↥((backTo cpos<|starEach es X.env).any (·.1)=false)) (hs:↥(swapsWith (.Call (.Name x p) (e::es) [] cpos) none pos.line X.env=pure false)) :
  c65 X E (.Expr (.Call (.Name x p) (e::es) [] cpos) pos) (λEx=>aC1 (c67 φ t Ex)):=by
 obtain⟨f,fd,G,b,kp,m⟩:=F.ex;exact rY (bD4 (cY0 G (hr.mono hk) hg m kp b .nil hp ha hdb he hpl) hs) λD σ H ⟨C,ρ,D0,Ex,I,h,k,kx⟩=>⟨C,ρ,_,I,h,λds ρ1 vs H1 q f s r=>spX_of I f s r q (λb v H' q' s' r'=>k.nx _ _ _ q' (((I.frz f).same s).same s')) kx⟩
def bI3 (x:Str)(t:UA)(Ex:XP):US:=λ_ ρ=>t ρ λds _=>ds.length<=sizeLine/\Ex x []
theorem lRaise {t:UA}(hm:X.mg x=some (.ref C))(hk:aC6 x=[])(D:aW0)(σ:L2.St)(H:Hp)(h:lSX X.K X.mg E (λEx=>bI3 x t Ex) D σ H):dH3 C E (lA X.K t) D σ H:=by
 obtain⟨C0,ρ,D0,Ex,I,h,k,kx⟩:=h;exact⟨C0,ρ,_,I,h,λds ρ1 vs H1 q f s r=>⟨by rw[<-r.length];exact q.1,kx x C [] none H1 q.2 hm (I.ext.trans s) hk⟩⟩
def aX4 (x:Str)(t1 t2:UE)(Ex:XP):US:=λ_ ρ=>t1 ρ λa ρ1=>t2 ρ1 λb _=>Ex x [a.d,b.d]
theorem cF4 {t:UA}{B:String}(FB:ExcBaseFacts B newId initId bmB)(q:excIn X.K C bmB newId=true)(hg:Gl X x)(hm:X.mg x=some (.ref C))(hc:X.calm=true)(ha:PUA X (e::es) t)(th:bI0 X E C)(hk:aC6 x=[])
  (he:↥(starEach (e::es) X.env=(false,eval e X.env)::starEach es X.env)) (hpl:↥((backTo cpos<|starEach es X.env).any (·.1)=false)) (hd:⇑(x∪0)) (hex:↥(X.ex=[])) :
  c65 X E (.Raise (some<|.Call (.Name x np) (e::es) [] cpos) none pos) (λEx=>bI3 x t Ex):=rY (dH4 FB q hg hm hc ha th he hpl hd hex) (lRaise hm hk)
theorem bY1 {e1 e2:Expr}{t1 t2:UE}{B:String}(FB:ExcBaseFacts B newId initId bmB)(q:a93 X.K C fI bmB newId=true)(T:cF2 X.K C fI fd f1 f2)(hr:gX (k+1) X.A)(hg:Gl X x)(hm:X.mg x=some (.ref C))(hc:X.calm=true)(ha:PUA X [e1,e2] (a8 t1<|a8 t2 aN))(th:bI0 X E C)(hk:aC6 x=[f1,f2])(hne:f1≠f2)
  (he:↥(starEach [e1,e2] X.env=(false,eval e1 X.env)::starEach [e2] X.env)) (hpl:↥((backTo cpos<|starEach [e2] X.env).any (·.1)=false)) (hd:⇑(x∪0)) (hex:↥(X.ex=[])) :
  c65 X E (.Raise (some<|.Call (.Name x np) [e1,e2] [] cpos) none pos) (λEx=>aX4 x t1 t2 Ex):=by
 refine rY (d64 FB q T hr hg hm hc ha th hne he hpl hd hex) λD σ H ⟨C0,ρ,D0,Ex,I,h,k,kx⟩=> ?_
 refine⟨C0,ρ,λds _=> ∃a b,ds=[a,b]/\Ex x ds,I,?_,λds ρ' vs H' ⟨a,b,q1,q2⟩ f s r=> ?_⟩
 .have e9: ∀(z y:M.B) (ρ2:Ev),(∃a b,[z.d,y.d]=[a,b]/\Ex x [z.d,y.d])=Ex x [z.d,y.d]:=λz y ρ2=>propext ⟨λ⟨_,_,_,w⟩=>w,λw=>⟨_,_,rfl,w⟩⟩
  show t1 ρ λz ρ1=>t2 ρ1 λy ρ2=> ∃a b,[z.d,y.d]=[a,b]/\Ex x [z.d,y.d]
  have:=h;unfold aX4 at this;simp only[e9 _ _ ρ];exact this
 .subst q1;obtain⟨v1,vr,rfl,r1,r2⟩:=r.uncons;obtain⟨v2,vr2,rfl,r3,r4⟩:=r2.uncons;cases r4.unnil;refine⟨v1,v2,rfl,λd hd=> ?_⟩
  have I1:=(I.frz f).same s;have s2:i6 H' (upd H' d<|.xd [(f1,v1),(f2,v2)]):=λb o z=>by rw[cL<|dA z hd];exact z
  have na: ∀a,C0.A0 a->a≠d:=λa z e=>I1.avSome (.inl z) (by rw[e];exact hd)
  refine kx x C _ (some d) _ q2 hm (I1.ext.trans s2) ⟨[v1,v2],λz=>na d z rfl,?_,by rw[hk];rfl,(cE.cons r1<|.cons r3 .nil).mono λb o n z=>⟨λw=>n (.inl w),s2 b o z⟩⟩
  rw[iY,hk];rfl
theorem dH6 {st:Stmt}{ps:List Str}{φ:ΦX}(F:Fun K x qual st f fd)(S:aX N ps (aF st))
  (len: ∀ds Q Ex,φ ds Q Ex->ds.length=ps.length) {t:USX}
  (der: ∀(cdv:Value) (A:Around) (outer:List Env) (s:Shared) (H:Hp) (E:XK),gX k (A.deeper<|envOfC qual (aF st) s.heap.objs.size f cdv)->yS (uS (CXr P w base) P w K mg base N qual (aF st) f cdv A outer s H E) E (eF st) t)
  (rd: ∀ds Q Ex,φ ds Q Ex->t Ex {Q with} (init N ds)) :
  sQ P w K mg base (CXr P w base) (k+1) f fd ps (spX K mg φ):=by
 obtain⟨oc,od,kV,doc,pm,an,cdv,ct,osl,rfl,lk,hcd⟩:=F.ex;refine dC2 lk hcd S (λvs H Q E h=> ?_) λA outer s H vs Q E hr h=> ?_
 .obtain⟨A,ds,Q0,Ex,_,r,h,_⟩:=h;rw[<-r.length];exact len ds Q0 Ex h
 .obtain⟨A',ds,Q0,Ex,hA,r,h,q,qx⟩:=h;refine⟨_,der cdv A outer s H E hr,⟨H,A'⟩,init N ds,_,Ex,c51 hA r,rd ds Q0 Ex h,⟨λρ σ H' z I=> ?_,λb v H' z s r=>q b v H' z s r,λ_ _ _ z=>z.elim,λ_ _ _ z=>z.elim⟩,qx⟩
  exact q _ _ H' z I.ext (show Rep _ _ _ _ _ by simp only[Rep])
theorem FnX.mk' {st:Stmt}{ps:List Str}{φ:ΦX}(F:Fun K x qual st f fd)(m:mg x=some (.ref f))(b:Binds K fd ps [])(S:aX N ps (aF st))
  (len: ∀ds Q Ex,φ ds Q Ex->ds.length=ps.length) {t:USX}
  (der: ∀(cdv:Value) (A:Around) (outer:List Env) (s:Shared) (H:Hp) (E:XK),gX k (A.deeper<|envOfC qual (aF st) s.heap.objs.size f cdv)->yS (uS (CXr P w base) P w K mg base N qual (aF st) f cdv A outer s H E) E (eF st) t)
  (rd: ∀ds Q Ex,φ ds Q Ex->t Ex {Q with} (init N ds)):FnX<$>x ps (k+1) φ:=
 ⟨f,fd,dH6 F S len der rd,b,F.kp,m⟩
end
end M
section
namespace L2
section
variable {X:Cx}{pins:List (Addr×Obj)}{σ:St}{H:Hp}{s:Shared}{h':Heap}{e:Addr}
theorem Inv.past (I:Inv X pins σ H s)(p:bS0 (frs X.stack) e s.heap h')(hstk:X.stack=X.env::X.outer)(hfr:X.env.frame=some X.env.locals)(hex:X.ex=[])(gs: ∀b o,X.s₀.heap.get? b=some o-> ∃o',g.get? b=some o')(gp: ∀q∈X.pn++pins,∃o',g.get? q.1=some o')(ne:g.get? e=none)(nt: ∀T,Tr s.heap e T->g.get? T=none)(he:H e=none)(ht: ∀T,Tr s.heap e T->H T=none):Inv X pins σ H {s with heap:=h'}:=by
 have none0: ∀b,g.get? b=none->X.s₀.heap.get? b=none:=λb q=>by
  cases r:X.s₀.heap.get? b with
  | none=>rfl
  | some o=>obtain⟨o',q'⟩:=gs b o r;rw[q]at q';cases q'
 have fm: ∀b∈frs X.stack,b=X.env.locals\/b∈X.fs:=λb hb=>by
  rw[hstk]at hb;unfold Cx.fs;unfold frs at hb⊢;rw[jE,hfr]at hb;exact aZ.mp hb
 have hL:X.s₀.heap.get? X.env.locals=none:=lM I.ok.above;have hd: ∀b∈X.fs,∀o,s.heap.get? b=some o-> ∀vs,o.data≠ .fields vs:=λb hb o q=>by
  have fl:=I.stack;rw[hstk]at fl;obtain⟨_,o',q',n⟩:=fl.mem (b:=b) (by
   unfold Cx.fs frs at hb;rw[jE,hfr];exact aZ.mpr (.inr hb))
  rw[q]at q';cases q';exact n
 have hb0:=I.base;rw[hex]at hb0;have un:=hb0.past p fm hL (none0 e ne) (λT q=>none0 T (nt T q)) hd
 have cellS: ∀c v,s.heap.IsCell c v->h'.IsCell c v:=λc v ⟨o,q1,q2⟩=>by
  obtain⟨sl,q3⟩:=p.slot c o q1 (λvs z=>by rw[q2]at z;cases z)
  exact⟨_,q3,q2⟩
 refine⟨I.ok,I.os,I.bare,by rw[hex];exact un,?_,λx c q=> ?_,I.free,I.freeC,λq hq=> ?_,I.hok.past p I.stkFree he ht,I.len⟩
 .obtain⟨m,hn,hl⟩:=I.loc;refine⟨m,p.slot.ns hn,λi x v a b c=> ?_⟩
  obtain⟨u,r,lo⟩:=hl i x v a b c;refine⟨u,r,?_⟩;rcases lo with z| ⟨z1,c,z2,z3⟩
  .exact .inl z
  .exact .inr ⟨z1,c,z2,cellS c _ z3⟩
 .obtain⟨v,z⟩:=I.cell x c q;exact⟨v,cellS c v z⟩
 .obtain⟨z1,z2,z3,z4,z5⟩:=I.pin q hq;obtain⟨o',g1⟩:=gp q hq;refine⟨p.keep q.1 q.2 z1 (λz=> ?_) (λz=>by rw[z,ne]at g1;cases g1) (λz=>by rw[nt _ z]at g1;cases g1),z2,z3,z4,z5⟩
  rcases fm _ z with y|y
  .exact z3 y
  .exact z4 y
end
noncomputable abbrev Cx.inX (X:Cx)(e:Addr):Cx:={X with A:=X.A.mark (some<|.ref e),calm:=false,xe:=λ_ _=>False}
theorem Cx.Ok.inX {X:Cx}(ok:X.Ok)(e:Addr):(X.inX e).Ok:=
 ⟨ok.mod,ok.kind,ok.glob,ok.blt,ok.above,ok.inj,ok.has,ok.cab,(λz=>by cases z),ok.frames,ok.stk,ok.exf,ok.bs,ok.bsz,ok.noex,ok.exfs,ok.funs,ok.frf⟩
section
variable {X:Cx}{pins:List (Addr×Obj)}{σ:St}{H:Hp}{s:Shared}{e:Addr}
theorem Inv.inX (I:Inv X pins σ H s)(e:Addr):Inv (X.inX e) pins σ H s:=⟨I.ok.inX e,I.os,I.bare,I.base,I.loc,I.cell,I.free,I.freeC,I.pin,I.hok,I.len⟩
theorem Cx.Ok.outX {X:Cx}{Y:Cx}(okY:Y.Ok){e:Addr}(ok:(X.inX e).Ok)(hd:X.calm=true->X.A.handled=none):X.Ok:=
 ⟨ok.mod,ok.kind,ok.glob,ok.blt,ok.above,ok.inj,ok.has,ok.cab,hd,ok.frames,ok.stk,ok.exf,ok.bs,ok.bsz,ok.noex,ok.exfs,ok.funs,ok.frf⟩
theorem Inv.outX (I:Inv (X.inX e) pins σ H s)(hd:X.calm=true->X.A.handled=none):Inv X pins σ H s:=⟨I.ok.outX I.ok hd,I.os,I.bare,I.base,I.loc,I.cell,I.free,I.freeC,I.pin,I.hok,I.len⟩
theorem SP.outX {D:aW0}{f:Flow}(h:SP (X.inX e) pins D f s')(hd:X.calm=true->X.A.handled=none):SP X pins D f s':=by
 cases f with
 | next=>obtain⟨σ',H',I,q⟩:=h;exact⟨σ',H',I.outX hd,q⟩
 | brk=>obtain⟨σ',H',I,q⟩:=h;exact⟨σ',H',I.outX hd,q⟩
 | cont=>obtain⟨σ',H',I,q⟩:=h;exact⟨σ',H',I.outX hd,q⟩
 | ret u=>obtain⟨v,σ',H',I,r,q⟩:=h;exact⟨v,σ',H',I.outX hd,r,q⟩
theorem dH7 {M:Model}{hp:Heap}{gn:Array GenState}{dr:Drawn}{tn:Nat}{os:OsState}{Q:Bool->Shared->Prop}
  {nm qn:Str} {N:Addr} {bs bm:List Value} {hdd:Bool} {sn:List Str} {sub:List Value} {ab:Bool} {col:Option Bool} {dd:Option Addr} {k0 k1 k2 k3 k5:Option Value} {newId:String}
  {nm' qn':Str} {N':Addr} {bs' bm':List Value} {hdd':Bool} {sn':List Str} {sub':List Value} {ab':Bool} {col':Option Bool} {dd':Option Addr} {k0' k1' k2' k3' k5':Option Value} {newId':String}
  (hC:hp.get? C=some (excClassObj nm qn C N bs bm hdd sn sub ab col dd k0 k1 k2 k3 k5 newId)) (hR:hp.get? R=some (excClassObj nm' qn' R N' bs' bm' hdd' sn' sub' ab' col' dd' k0' k1' k2' k3' k5' newId'))
  (he:hp.get? e=some oe) (hcl:oe.cls= .ref C) (hb:bm'.contains (.type "BaseException")=true) (hr:(Value.ref C::bm).contains (.ref R)=true) (hq:Q true ⟨hp,gn,dr,tn,os⟩) :
  wpAny M A (excMatches (.ref e)<|.ref R) Q E ⟨hp,gn,dr,tn,os⟩:=by
 have t1:(Value.ref R::bm').contains (.type "BaseException")=true:=by rw[a08,hb,a26]
 have t2:=tc_notTuple;unfold excMatches
 repeat (first
  | (with_reducible refine kL he ?_;rw[hcl])
  | with_reducible refine kL hR ?_
  | (with_reducible refine qC hR ?_;rw[t1])
  | (with_reducible refine qC hC ?_;rw[hr])
  | wp_step)
 exact hq
end
theorem bY0.past {fs:List Addr}{e:Addr}(n:bY0 g e h)(p:bS0 fs e h h')(gh: ∀b o,g.get? b=some o-> ∃o',h.get? b=some o')(hf: ∀b∈fs,∀o,h'.get? b=some o-> ∀vs,o.data≠ .fields vs):bY0 g e h':=by
 refine⟨n.he,λT q=> ?_⟩
 rcases p.tr T q with z|z|z|z
 .obtain⟨o,vs,q1,q2⟩:=p.rcd T q;exact absurd q2 (hf T z o q1 vs)
 .rw[z];exact n.he
 .exact n.ht T z
 .cases r:g.get? T with
  | none=>rfl
  | some o=>obtain⟨o',q'⟩:=gh T o r;rw[z]at q';cases q'
theorem a42 {fs:List Addr}{e:Addr}(n:bY0 g e h)(p:bS0 fs e h h')(gh: ∀b o,g.get? b=some o-> ∃o',h.get? b=some o')(hf: ∀b∈fs,∀o,h.get? b=some o-> ∀vs,o.data≠ .fields vs): ∀b o,g.get? b=some o-> ∃o',h'.get? b=some o':=λb o q=>by
 obtain⟨o',q'⟩:=gh b o q
 by_cases c:b∈fs
 .obtain⟨sl,z⟩:=p.slot b o' q' (hf b c o' q');exact⟨_,z⟩
 .exact⟨o',p.keep b o' q' c (λz=>by rw[z,n.he]at q;cases q) λz=>by rw[n.ht b z]at q;cases q⟩
theorem cF5 {l:List Env}(f:h.FunFrames base l): ∀b∈frs l,∀o,h.get? b=some o-> ∀vs,o.data≠ .fields vs:=λb hb o q=>by
 obtain⟨_,o',q',n⟩:=f.mem (b:=b) hb;rw[q]at q';cases q';exact n
def sB (CX:CXT)(X:Cx)(E:XK)(pins:List (Addr×Obj))(σ:St):Prop:= ∀(H:Hp) (s:Shared) (e:Value) (s':Shared),Inv X pins σ H s->CX X.stack H s E e s'->X.xe e s'
def a43 (K:PySem.W.Frag)(R C:Addr)(bmB:List Value)(newId:String):Prop:=(excIn K C bmB newId=true\/ ∃fI,a93 K C fI bmB newId=true)/\ ∃cd,PySem.W.clsIn K C=some cd/\cd.mro.contains (.ref R)=true
def cS5 (K:PySem.W.Frag)(R C:Addr)(bmB:List Value)(newId:String)(b:Bool):Prop:=(excIn K C bmB newId=true\/ ∃fI,a93 K C fI bmB newId=true)/\ ∃cd,PySem.W.clsIn K C=some cd/\cd.mro.contains (.ref R)=b
theorem dH8 {N:Addr}{bm:List Value}{cd:ClassData}(X:K.In h)
  (o:XO h C N bm newId) (hc:PySem.W.clsIn K C=some cd):cd.mro=Value.ref C::bm:=by
 cases o with|mk _ _ _ _ _ _ _ _ _ _ _ _ _ _ hC;unfold PySem.W.clsIn at hc;split at hc
 .rename_i look
  have same:=X _ _ look;rw[hC]at same;cases hc
  injection same with same
  injection same with _ _ same _
  injection same with same
  rw[<-same]
 .cases hc
theorem dH9 {b:Bool}(X:K.In h)(u:cS5 K R C bmB newId b): ∃N bm,XO h C N bm newId/\(Value.ref C::bm).contains (.ref R)=b:=by
 obtain⟨a,cd,hc,hr⟩:=u;rcases a with a| ⟨fI,a⟩
 .obtain⟨bm,N,_,o,_⟩:=bE4 X a;exact⟨N,bm,o,by rw[<-dH8 X o hc];exact hr⟩
 .obtain⟨bm,N,_,o,_⟩:=bI2 X a;exact⟨N,bm,o,by rw[<-dH8 X o hc];exact hr⟩
section
variable {X:Cx}
def tTry (K:PySem.W.Frag)(R:Addr)(bmB:List Value)(newId:String)(tb:XK->TS)(th:TS):TS:=λD σ H=> ∃E,tb E D σ H/\ ∀C o H',E (.ref C) o H'->a43 K R C bmB newId/\th D σ H'
theorem ps_try {body:List Stmt}{b0:Stmt}{suite:List Stmt}{r:Str}{rp hpos pos:Pos}{R:Addr}{B newId initId:String}{bmB:List Value}{tb:XK->TS}{th:TS}(FB:ExcBaseFacts B newId initId bmB)(hstk:X.stack=X.env::X.outer)(hfr:X.env.frame=some X.env.locals)(hex:X.ex=[])(hc:X.calm=true)
  (hbody: ∀(xe:Value->Shared->Prop) (E:XK) (pins:List (Addr×Obj)) (s:Shared) (σ:St) (H:Hp) (D:aW0),Inv (X.wish xe) pins σ H s->sB (CXr X.prog X.w X.base) (X.wish xe) E pins σ->tb E D σ H->X∩(execs body X.env) (SP (X.wish xe) pins D) xe s)
  (hsuite: ∀a,PSs (X.inX a) (b0::suite) th) (hg:Gl X r) (hm:X.mg r=some (.ref R)) (hR:excIn X.K R bmB newId=true) (hd:⇑(r∪0)) :
  PS X (.Try body [.ExceptHandler (some<|.Name r rp) none (b0::suite) hpos] [] [] pos) (tTry X.K R bmB newId tb th):=by
 rintro pins s σ H D I ⟨E,hb,hx⟩;refine wpAny_Try_except ?_;have goX:sB (CXr X.prog X.w X.base) (X.wish λe s1=>X∩(noteFrame e X.env) (λ_ s2=>X∩(setFlight e none) (λ_ s3=>X∩(handleBy e X.env [.ExceptHandler (some<|.Name r rp) none (b0::suite) hpos]) (SP X pins D) X.xe s3) X.xe s2) X.xe s1) E pins σ:=by
  rintro H1 s1 e s' J ⟨a,C,o',H',rfl,ho,hbr,un,hok,⟨⟨a0,fl⟩,fe,ft⟩,nw,_,hE⟩;have J0:=J.unwish;have J1:Inv X pins σ H' s':=J0.call' ho un hok hbr (λb z=>absurd z ae)
  obtain⟨under,hth⟩:=hx C o' H' hE;have fl':FlyingW X.base X.stack a (.ref C) a0 s'.heap:=fl;have frs':=J1.ok.frames;have g0: ∀b o,s1.heap.get? b=some o-> ∃o',s'.heap.get? b=some o':=λb o q=>un.there b o q ae
  have gs: ∀b o,X.s₀.heap.get? b=some o-> ∃o',s1.heap.get? b=some o':=λb o q=>J0.base.there b o q (by rw[hex];simp)
  have gp: ∀q∈X.pn++pins,∃o',s1.heap.get? q.1=some o':=λq hq=>⟨_,(J0.pin q hq).1⟩
  show wpAny _ _ (noteFrame (.ref a) X.env) _ _ s'
  rw[hstk]at fl' frs';refine cF0 frs' hfr fl' λh2 held p2=> ?_
  rw[<-hstk]at p2 held fl';have J2:=J1.past (g:=s1.heap) p2 hstk hfr hex gs gp nw.he nw.ht fe ft;have n2:=nw.past p2 g0 (cF5 held.2.2.1);have g2:=a42 nw p2 g0 (cF5 fl'.2.2.1);have t2:=aJ1 J1.hok p2 J1.stkFree fe ft;refine aX2 held λh3 fl3 p3=> ?_
  have J3:=J2.past (g:=s1.heap) p3 hstk hfr hex gs gp n2.he n2.ht fe t2;have n3:=n2.past p3 g2 (cF5 fl3.2.2.1);have g3:=a42 n2 p3 g2 (cF5 held.2.2.1);have t3:=aJ1 J2.hok p3 J2.stkFree fe t2;obtain⟨oe,he,hcl⟩:=fl3.there;obtain⟨_,bm,⟨_,_,_,_,_,_,_,_,_,_,_,_,_,_,hC⟩,hin⟩:=dH9 (b:=true) J3.kIn under;obtain⟨bm',_,_,⟨_,_,_,_,_,_,_,_,_,_,_,_,_,_,hRo⟩,_,_,tl'⟩:=bE4 J3.kIn hR
  refine wpAny_handleBy_cons (codeAny_handlers_test<|rQ (X:=X.inX a) (J3.inX a) hg hm ?_ hd) (by intro q;cases q)
  refine dH7 hC hRo he hcl (tl'.hasType FB.hasBase) hin ?_
  refine codeAny_handlers_suite (aX2 fl3 λh4 fl4 p4=> ?_)
  have J4:=J3.past (g:=s1.heap) p4 hstk hfr hex gs gp n3.he n3.ht fe t3;exact bD (hsuite a pins _ σ H' D (J4.inX a) hth) (λf s2 q=>q.outX λ_=>J4.ok.hd hc) λ_ _ z=>z.elim
 refine bD (hbody _ E pins s σ H D (I.wish _) goX hb) (λf s1 q=> ?_) λ_ _ z=>z
 have q':=q.unwish;cases f with
 | next=>exact kN q'
 | ret v=>exact q'
 | brk=>exact q'
 | cont=>exact q'
end
section
variable {X:Cx}{CX:CXT}{k:Nat}{f C:Addr}{fd:FuncData}{ps:List Str}{sp:Sp}{dvs:List V}{ds:List Value}{E:XK}{x:Str}{p pos:Pos}{e:Expr}{es:List Expr}{t:TA}
theorem d65 {pins:List (Addr×Obj)}{σ:St}{H:Hp}{s:Shared}{Q:VK}{us:List Value}{vs:List V}(M:Mk X.K C f)(F:sQ X.prog X.w X.K X.mg X.base CX k f fd ps sp)(hr:gX (k+1) X.A)(hb:Binds X.K fd ps [])
  (hx:sB CX X E pins σ) (I:Inv X pins σ H s) (r:Vals vs us)
  (h: ∀x dx,H x=none->H dx=none->dx≠x->sp (.ref x::vs) (upd (upd H dx<|.own x) x<|.ins C dx []) (λv H2=>v= .non/\Q (.ref x) H2) E) :
  X∩(call (.ref C) us) (EP X pins σ Q) X.xe s:=by
 have hq:=h (s.heap.objs.size+1) s.heap.objs.size (I.hok.fresh<|uL _) (I.hok.fresh<|aH _) (bK<|qK _);have I2:=Inv.made (C:=C) I;have r2:Vals (V.ref (s.heap.objs.size+1)::vs) (Value.ref (s.heap.objs.size+1)::us):= .cons rfl r;have hl:(Value.ref (s.heap.objs.size+1)::us++[]).length=ps.length:=by
  have e:=r2.length;rw[F.len _ _ _ _ hq]at e;rw[gW];exact e.symm
 have bd:=hb (s:={s with heap:=(s.heap.push {cls:= .type "dict",data:= .dict #[]}).push (instObj C s.heap.objs.size)}) (Value.ref (s.heap.objs.size+1)::us) I2.kIn hl;rw[gW]at bd;refine oA (cB9 (f:=f) I.kIn M.makes M.init (fV.mp M.fn) (nZ (F.run _ X.stack _ _ ⟨Value.ref (s.heap.objs.size+1)::us,[]⟩ (Value.ref (s.heap.objs.size+1)::us) _ _ E (hr.make C us [])
  (I2.env0.make C us []) bd r2 hq) λr s' hq'=> ?_))
 cases r with
 | error e=>exact hx _ _ e s' I2 hq'
 | ok fl=>
  cases fl with
  | ret u=>
   obtain⟨v,H',I3,rv,ev,q3⟩:=I2.after hq';subst ev;exact⟨rv,⟨V.ref<|s.heap.objs.size+1,H',I3,rfl,q3⟩⟩
  | next=>exact False.elim hq'
  | brk=>exact False.elim hq'
  | cont=>exact False.elim hq'
theorem dX0 {σ:St}{H:Hp}{Q:VK}(M:Mk X.K C f)(F:sQ X.prog X.w X.K X.mg X.base CX k f fd ps sp)(hr:gX (k+1) X.A)(hg:Gl X x)(hm:X.mg x=some (.ref C))(hb:Binds X.K fd ps [])(hx:sB CX X E pins σ)
  (ha:PA X (e::es) t) (I:Inv X pins σ H s) (h:cX9 C sp [] E t σ H Q) (hdb:x∪0) (he:starEach (e::es) X.env=(false,eval e X.env)::starEach es X.env) (hpl:(backTo pos<|starEach es X.env).any (·.1)=false) :
  X∩(eval (.Call (.Name x p) (e::es) [] pos) X.env) (EP X pins σ Q) X.xe s:=by
 refine nS (rQ I hg hm ?_ hdb)
 refine a07 (h₀:=X.base) I.ok.mod.kin M.kp (thn (ha pos pins s σ H _ I h) λus s1 ⟨vs,H1,I1,r,q⟩=>⟨I1.kIn,?_⟩) he hpl
 exact d65 M F hr hb hx I1 r λx dx a b c=>by have:=q x dx a b c;rw[gW]at this;exact this
end
end L2
namespace M
section
variable {X:Cx}{e:Expr}{es:List Expr}{pos:Pos}{te:UE}{K:PySem.W.Frag}{A:AS}{H:Hp}
def b48 (f:Str)(t:UE):UE:=λρ Q=>t ρ λb ρ1=>match b.d with
 | .obj _ ks l=>(match(ks.zip l).lookup f with
  | some d=>Q (.pu d) ρ1
  | none=>False)
 | _=>False
theorem cE.field {f:Str}{d:D}: ∀{ks:List Str} {l:List D} {vs:List V},cE K A H l vs->(ks.zip l).lookup f=some d-> ∃v,(ks.zip vs).lookup f=some v/\Rep K A H d v/\f∈ks
 | [],_,_,_,h=>by simp at h
 | _::_,[],_,_,h=>by simp at h
 | q::ks,a::l,vs,r,h=>by
  obtain⟨v,vr,rfl,r1,r2⟩:=r.uncons;rw[aQ3,cZ]at h;rw[aQ3,cZ];cases c:f==q with
  | true=>
   rw[c]at h;cases h;exact⟨v,rfl,r1,by rw[fV.mp c];simp⟩
  | false=>
   rw[c]at h;obtain⟨w,h1,h2,h3⟩:=cE.field r2 h;exact⟨w,h1,h2,fK _ h3⟩
theorem aC7 {f:Str}(he:PU X e te)(hb:↥(attributeBase e f X.env (eval e X.env)=eval e X.env)):PU X (.Attribute e f pos) (b48 f te):=
 iZ (pe_fld he hb) λσ H Q ⟨C,ρ,Q0,I,h,k⟩=>⟨C,ρ,_,I,h,λb ρ1 v H1 q fz s r=>by
  have rr:=r.rep λa z=>I.avF fz z
  cases ed:b.d with
  | obj C' ks l=>
   rw[ed]at rr q;dsimp only at q;cases el:(ks.zip l).lookup f with
   | none=>rw[el]at q;exact q.elim
   | some d=>
    rw[el]at q;simp only[Rep]at rr;obtain⟨a,dx,vs,rfl,n,c,hl,rl,ok⟩:=rr;obtain⟨w,h1,h2,h3⟩:=rl.field el;exact⟨a,C',dx,ks.zip vs,w,rfl,c,ok.1,ok.2 f h3,h1,k _ ρ1 w H1 q fz s h2⟩
  | _=>rw[ed]at q;exact q.elim⟩
abbrev ΦM:=List D->(List D->Prop)->XP->Prop
nonrec def spI (K:PySem.W.Frag)(mg:Str->Option Value)(C:Addr)(ks:List Str)(φ:ΦM):Sp:=λvs H Q E=> ∃(x dx:Addr) (vs':List V) (A:AS) (ds:List D) (Q0:List D->Prop) (Ex:XP),vs=V.ref x::vs'/\H x=some (.ins C dx [])/\H dx=some (.own x)/\ ¬A x/\ ¬A dx/\(∀a,A a->H a≠none)/\cE K (λb=>A b\/b=x) H ds vs'/\φ ds Q0 Ex/\
 (∀l ws H',Q0 l->(∀b o,b≠x->H b=some o->H' b=some o)->H' x=some (.ins C dx<|ks.zip ws)->ks.length=ws.length->cE K (λb=>A b\/b=x) H' l ws->Q .non H')/\
 ∀n Cl es o H',Ex n es->mg n=some (.ref Cl)->(∀b o,b≠x->H b=some o->H' b=some o)->XR K A H' n es o->E (.ref Cl) o H'
structure MkX (P:Program)(w:World)(K:PySem.W.Frag)(mg:Str->Option Value)(base:Heap)(x:Str)(k:Nat)(ks:List Str)(φ:ΦM):Prop where
 ex: ∃C f fd ps,Mk K C f/\OkC K C ks/\sQ P w K mg base (CXr P w base) k f fd ps (spI K mg C ks φ)/\Binds K fd ps []/\mg x=some (.ref C)
theorem e52 {φ:ΦM}{t:UA}{E:XK}{C0:C0}{ρ:Ev}{σ:L2.St}{Q:VK}{Q0:Ev->List D->Prop}{Ex:Ev->XP}(ok:OkC X.K C ks)(I:EOk X.K C0 ρ σ H)(h:t ρ λds ρ1=>φ ds (Q0 ρ1) (Ex ρ1))
  (kq: ∀l ρ1 v H',Q0 ρ1 l->Frz ρ ρ1->i6 H H'->Rep X.K (Av C0 ρ1 σ) H' (.obj C ks l) v->Q v H') (kx: ∀n Cl ρ1 es o H',Ex ρ1 n es->X.mg n=some (.ref Cl)->EOk X.K C0 ρ1 σ H'->XR X.K (Av C0 ρ1 σ) H' n es o->E (.ref Cl) o H') :
  cX9 C (spI X.K X.mg C ks φ) [] E (lA X.K t) σ H Q:=by
 refine⟨C0,ρ,_,I,h,λds ρ1 vs H1 q f s r x dx nx nd ne=> ?_⟩
 have I1:=(I.frz f).same s;have hA: ∀a,Av C0 ρ1 σ a->H1 a≠none:=λa z=>I1.avSome z
 have s3:i6 H1 (upd (upd H1 dx<|.own x) x<|.ins C dx []):=λb o z=>by
  rw[cL<|dA z nx,cL<|dA z nd];exact z
 have back: ∀H',(∀b o,b≠x->upd (upd H1 dx<|.own x) x (.ins C dx []) b=some o->H' b=some o)->i6 H1 H':=λH' z b o q'=>z b o (dA q' nx) (s3 b o q')
 rw[gW];refine⟨x,dx,vs,Av C0 ρ1 σ,ds,Q0 ρ1,Ex ρ1,rfl,iY,by rw[cL ne];exact iY,λz=>hA x z nx,λz=>hA dx z nd,λa z q'=> ?_,r.mono<|mY.fresh s3 nx,q,λl ws H' q0 kp hx hl rl=>⟨rfl,?_⟩,λn Cl es o H' ex hm kp xr=> ?_⟩
 .cases e':H1 a with
  | none=>exact hA a z e'
  | some o=>rw[s3 a o e']at q';cases q'
 .refine kq l ρ1 _ H' q0 f (s.trans<|back H' kp) ?_
  simp only[Rep];exact⟨x,dx,ws,rfl,λz=>hA x z nx,hx,hl,rl.mono<|.sub (.refl _) λa z=> .inl z,ok⟩
 .exact kx n Cl ρ1 es o H' ex hm (I1.same<|back H' kp) xr
def dI0 (ks:List Str)(φ:ΦM)(t:UA):UE:=λρ Q=>t ρ λds ρ1=>φ ds (λl=> ∀C,Q (.pu<|.obj C ks l) ρ1) λ_ _=>False
theorem dX1 {φ:ΦM}{t:UA}(F:MkX X.prog X.w X.K X.mg X.base x k ks φ)(hr:gX (k'+1) X.A)(hk:k<=k')(hg:Gl X x)(ha:PUA X (e::es) t)(hdb:⇑(x∪0))
  (he:↥(starEach (e::es) X.env=(false,eval e X.env)::starEach es X.env)) (hpl:↥((backTo pos<|starEach es X.env).any (·.1)=false)):PU X (.Call (.Name x p) (e::es) [] pos) (dI0 ks φ t):=by
 obtain⟨C,f,fd,ps,M,ok,G,b,m⟩:=F.ex;have hp:wX (CXr X.prog X.w X.base) X (λ_ _ _=>False):=by
  rintro pins σ H s e s' I ⟨_,_,_,_,_,_,_,_,_,_,_,_,z⟩;exact z.elim
 refine iZ (dT1 M (G.mono hk) hr hg m b .nil hp ha hdb he hpl) λσ H Q ⟨C0,ρ,Q0,I,h,k⟩=> ?_
 exact e52 (Q0:=λρ1 l=> ∀C,Q0 (.pu<|.obj C ks l) ρ1) (Ex:=λ_ _ _=>False) ok I h (λl ρ1 v H' q f s r=>k _ ρ1 v H' (q C) f s r) λn Cl ρ1 es o H' z=>z.elim
def dI1 (i:Nat)(ks:List Str)(φ:ΦM)(t:UA)(names:List Str)(th:US):US:=λE ρ=>t ρ λds ρ1=>φ ds (λl=> ∀C,E.nx<|ρ1.set i<|some<|.pu<|.obj C ks l) λn _=>n∈names/\th E ρ1
theorem dX2 {φ:ΦM}{rp hpos:Pos}{t:UA}{b0:Stmt}{suite:List Stmt}{th:US}{B:String}(i:Nat)(names:List Str)(FB:ExcBaseFacts B newId initId bmB)(F:MkX X.prog X.w X.K X.mg X.base x k ks φ)(hr:gX (k'+1) X.A)(hk:k<=k')(hstk:X.stack=X.env::X.outer)(hfr:X.env.frame=some X.env.locals)(hex:X.ex=[])(hc:X.calm=true)
  (hg:Gl X x) (ha: ∀xe,PUA (X.wish xe) (e::es) t) (hN:X.N.Nodup) (hi:X.N[i]? =some y) (hy:Loc X.env.scope y) (hsuite: ∀a,sR (X.inX a) (b0::suite) th) (hgr:Gl X r) (hmr:X.mg r=some (.ref R)) (hR:excIn X.K R bmB newId=true) (hu: ∀n∈names,∀C,X.mg n=some (.ref C)->a43 X.K R C bmB newId)
  (hl: ∀pins σ H s,Inv X pins σ H s->i<σ.length) (hdb:⇑(x∪0)) (hd:⇑(r∪0))
  (he:↥(starEach (e::es) X.env=(false,eval e X.env)::starEach es X.env)) (hpl:↥((backTo cpos<|starEach es X.env).any (·.1)=false)) (hs:↥(swapsWith (.Call (.Name x p) (e::es) [] cpos) (some<|.Name y py) apos.line X.env=pure false)) (hf:X.fn y=true\/X.env.scope.names.lookup y=some .local:=by walk_at "z") :
  PUS X (.Try [.Assign [.Name y py] (.Call (.Name x p) (e::es) [] cpos) apos] [.ExceptHandler (some<|.Name r rp) none (b0::suite) hpos] [] [] pos) (dI1 i ks φ t names th):=by
 obtain⟨C,f,fd,ps,M,ok,G,b,m⟩:=F.ex;intro pins s σ H D J q;refine ps_try (R:=R) (tb:=λE=>dS0 (cX9 C (spI X.K X.mg C ks φ) [] E<|lA X.K t) (a91 i)) (th:=lS X.K th) FB hstk hfr hex hc (λxe E pins s σ H D I pa h=> ?_) hsuite hgr hmr hR hd pins s σ H D J ?_
 .refine qJ (wpAny_Assign_Name (thn (dX0 (X:=X.wish xe) M (G.mono hk) hr hg m b pa (ha xe) I h hdb he hpl) λv s1 ⟨y',H1,I1,r1,q1⟩=> ?_) hs)
  exact uQ (X:=X.wish xe) I1 hN hi hy r1 (λs2 I2=>kN ⟨_,H1,I2,q1⟩) hf
 .obtain⟨C0,ρ,D0,I,h,k⟩:=q;refine⟨λcls _ H'=> ∃n Cl ρ1,cls=Value.ref Cl/\X.mg n=some (.ref Cl)/\n∈names/\th D0 ρ1/\EOk X.K C0 ρ1 σ H',?_,?_⟩
  .exact e52 (Q0:=λρ1 l=> ∀C,D0.nx<|ρ1.set i<|some<|.pu<|.obj C ks l) (Ex:=λρ1 n _=>n∈names/\th D0 ρ1) ok I h
    (λl ρ1 v H' q f s1 r=>k.nx _ _ _ (q C) ((I.frz f).store s1 (show qV X.K (Av C0 ρ1 σ) H H' (.pu<|.obj C ks l) v from r)<|hl pins σ H s J)) λn Cl ρ1 es o H' z hm' I' _=>⟨n,Cl,ρ1,rfl,hm',z.1,z.2,I'⟩
  .rintro Cl o H' ⟨n,Cl',ρ1,e1,hm',hn,ht,I'⟩;cases e1;exact⟨hu n hn Cl hm',C0,ρ1,D0,I',ht,k⟩
end
section
variable {K:PySem.W.Frag}{C:C0}{ρ ρ':Ev}{σ:L2.St}{H H':Hp}
theorem EOk.poke {x:Addr}{o:HO}(I:EOk K C ρ σ H)(ax:C.A0 x)(hx: ∀vs,C.H0 x≠some (.lst vs)):EOk K ⟨λb=>if b=x then some o else C.H0 b,C.A0⟩ ρ σ (upd H x o):=by
 have ne: ∀a,C.H0 a=none->a≠x:=λa z e=>by subst e;exact I.a0 a ax z
 have P:mY (Av C ρ σ) H (Av ⟨λb=>if b=x then some o else C.H0 b,C.A0⟩ ρ σ) (upd H x o):=λb u nb e=>⟨nb,by rw[cL λz=>nb (by subst z;exact .inl ax)];exact e⟩
 refine⟨I.len,?_,?_,I.inj,?_,?_,?_⟩
 .intro i d h;obtain⟨v,h1,h2⟩:=I.pu i d h;exact⟨v,h1,h2.mono P⟩
 .intro i l h;obtain⟨a,vs,h1,h2,h3,h4⟩:=I.ow i l h;have na:=ne a h3;exact⟨a,vs,h1,by rw[cL na];exact h2,by show(if a=x then some o else C.H0 a)=none;rw[a7 na];exact h3,h4.mono P⟩
 .intro i l h;obtain⟨a,vs,h1,h2,h3,h4⟩:=I.bo i l h;have na:a≠x:=λz=>by subst z;exact hx vs h3
  exact⟨a,vs,h1,h2,by show(if a=x then some o else C.H0 a)=_;rw[a7 na];exact h3,h4.mono P⟩
 .intro b u h
  by_cases c:b=x
  .subst c;have h':(if b=b then some o else C.H0 b)=some u:=h;rw[a9 rfl]at h';rw[iY];exact h'
  .have h':(if b=x then some o else C.H0 b)=some u:=h;rw[a7 c]at h';rw[cL c];exact I.ext b u h'
 .intro a z;show(if a=x then some o else C.H0 a)≠none;split
  .simp
  .exact I.a0 a z
theorem bI4 {x Cl:Addr}{fs:List (Str×V)}{f:Str}{te:UE}{Q0:B->Ev->Prop}{D:aW0}(I:EOk K C ρ σ H)(ax:C.A0 x)(hx:H x=some (.ins Cl dx fs))(h0:ρ[0]? =some (some<|.pu<|.adr x))(cl:Cls K Cl)(na:aB1 K Cl f)(hf:fs.length<1000)(h:te ρ Q0)
  (k: ∀b ρ1 w H',Q0 b ρ1->ρ1[0]? =some (some<|.pu<|.adr x)->(∀a o,a≠x->H a=some o->H' a=some o)->H' x=some (.ins Cl dx<|wB f w fs)->(∃C1:C0,C1.A0=C.A0/\EOk K C1 ρ1 σ H')->Rep K C.A0 H' b.d w->(∀d v,Rep K C.A0 H d v->Rep K C.A0 H' d v)->D.nx σ H') :
  dB8 K (aB0 0) (lE K te) f D σ H:=by
 refine⟨C,ρ,Q0,I,h,λb ρ1 w H1 q fz s r=> ?_⟩
 have I1:=(I.frz fz).same s;have h1:ρ1[0]? =some (some<|.pu<|.adr x):=by
  rcases fz.2 0 with z| ⟨l,z,_⟩
  .rw[z];exact h0
  .rw[h0]at z;cases z
 obtain⟨v,e1,e2⟩:=I1.pu 0 _ h1;simp only[Rep]at e2;subst e2;have hx1:=s _ _ hx;have nl: ∀vs,C.H0 x≠some (.lst vs):=λvs z=>by
  have:=I.ext x _ z;rw[hx]at this;cases this
 have P:mY C.A0 H1 C.A0 (upd H1 x<|.ins Cl dx<|wB f w fs):=mY.upd ax;refine⟨.ref x,e1,x,Cl,dx,fs,rfl,hx1,cl,na,hf,k b ρ1 w _ q h1 (λa o ne e=>by rw[cL ne];exact s a o e) iY ⟨⟨λb=>if b=x then some (.ins Cl dx<|wB f w fs)else C.H0 b,C.A0⟩,rfl,I1.poke (o:= .ins Cl dx (wB f w fs)) ax nl⟩ ?_ λd v r'=> ?_⟩
 .exact((r.rep λa z=>I.avF fz z).mono<|.sub (.refl _) λa z=> .inl z).mono P
 .exact(r'.mono<|.same s).mono P
end
section
variable {X:Cx}{E:XK}{st:Stmt}{sts:List Stmt}{t u:USX}{tS:TS}
theorem dX3 (h1:c65 X E st t)(h2:PSs X sts tS):PSs X (st::sts) (λD=>lSX X.K X.mg E t {D with nx:=tS D}):=yJ h1 h2
theorem bE6 (h1:c65 X E st t)(h2:PSs X sts (λD=>lSX X.K X.mg E u {D with nx:=tS D})):PSs X (st::sts) (λD=>lSX X.K X.mg E (λEx=>aS (t Ex) (u Ex)) {D with nx:=tS D}):=
 bG6 (yJ h1 h2) λD σ H ⟨C,ρ,D0,Ex,I,h,k,kx⟩=>⟨C,ρ,{D0 with nx:=u Ex D0},Ex,I,h,⟨λρ' σ' H' q I'=>⟨C,ρ',D0,Ex,I',q,k,kx⟩,k.rt,k.bk,k.ct⟩,kx⟩
def tS3 (K:PySem.W.Frag)(f1 f2 f3:Str)(t1 t2 t3:UE):TS:=tSeq (dB8 K (aB0 0) (lE K t1) f1) (tSeq (dB8 K (aB0 0) (lE K t2) f2)<|dB8 K (aB0 0) (lE K t3) f3)
end
theorem dI2 {Cl:Addr}{ps:List Str}{φ:ΦM}{f3:Str}{t1 t2 t3:UE}(F:Fun K x qual st f fd)(S:aX N ps (aF st))(ok:OkC K Cl [f1,f2,f3])(n1:f1≠f2)(n2:f1≠f3)(n3:f2≠f3)
  (len: ∀ds Q Ex,φ ds Q Ex->ds.length+1=ps.length) (hN:N≠[]) {t:USX}
  (der: ∀(cdv:Value) (A:Around) (outer:List Env) (s:Shared) (H:Hp) (E:XK),gX k (A.deeper<|envOfC qual (aF st) s.heap.objs.size f cdv)->
   PSs (uS (CXr P w base) P w K mg base N qual (aF st) f cdv A outer s H E) (eF st) (λD=>lSX K mg E t {D with nx:=tS3 K f1 f2 f3 t1 t2 t3 D}))
  (rd: ∀a ds Q Ex,φ ds Q Ex->t Ex {nx:=λρ=>ρ[0]? =some (some<|.pu<|.adr a)/\t1 ρ λb1 ρ1=>t2 ρ1 λb2 ρ2=>t3 ρ2 λb3 _=>Q [b1.d,b2.d,b3.d],rt:=λ_=>False} (init N (.adr a::ds))) :
  sQ P w K mg base (CXr P w base) (k+1) f fd ps (spI K mg Cl [f1,f2,f3] φ):=by
 obtain⟨oc,od,kV,doc,pm,an,cdv,ct,osl,rfl,lk,hcd⟩:=F.ex;refine dC2 lk hcd S (λvs H Q E h=> ?_) λA outer s H vs Q E hr h=> ?_
 .obtain⟨x,dx,vs',A,ds,Q0,Ex,rfl,_,_,_,_,_,r,h,_⟩:=h;have:=len ds Q0 Ex h;rw[cY,<-r.length];exact this
 .obtain⟨x,dx,vs',A',ds,Q0,Ex,rfl,hx,hdx,nx,nd,hA,r,h,q,qx⟩:=h;have hA2: ∀a,(A' a\/a=x)->H a≠none:=λa z=>by
   rcases z with z|rfl
   .exact hA a z
   .rw[hx];simp
  have r2:cE K (λb=>A' b\/b=x) H (.adr x::ds) (.ref x::vs'):= .cons (by simp only[Rep]) r
  refine⟨_,der cdv A outer s H E hr,⟨H,λb=>A' b\/b=x⟩,init N (.adr x::ds),_,Ex,c51 hA2 r2,rd x ds Q0 Ex h,⟨λρ σ H' z I=> ?_,λ_ _ _ z=>z.elim,λ_ _ _ z=>z.elim,λ_ _ _ z=>z.elim⟩,λn Cl' es o H' ex hm sm xr=>qx n Cl' es o H' ex hm (λb o _ e=>sm b o e) (xr.mono<|.sub (.refl _) λa z=> .inl z)⟩
  obtain⟨z0,z⟩:=z;have hx':H' x=some (.ins Cl dx []):=I.ext x _ hx;refine bI4 (C:=⟨H,λb=>A' b\/b=x⟩) I (.inr rfl) hx' z0 ok.1 (ok.2 f1 ae) ac z ?_
  rintro b1 ρ1 w1 H1 z1 z0 k1 x1 ⟨C1,a1,I1⟩ r1 m1;refine bI4 (C:=C1) I1 (by rw[a1];exact .inr rfl) x1 z0 ok.1 (ok.2 f2 ae) (show 1<1000 by decide) z1 ?_
  rintro b2 ρ2 w2 H2 z2 z0 k2 x2 ⟨C2,a2,I2⟩ r2 m2;refine bI4 (C:=C2) I2 (by rw[a2,a1];exact .inr rfl) x2 z0 ok.1 (ok.2 f3 ae) (by simp[wB,n1]) z2 ?_
  rintro b3 ρ3 w3 H3 z3 z0 k3 x3 ⟨C3,a3,I3⟩ r3 m3;rw[a1]at m2 r2;rw[a2,a1]at m3 r3;refine q [b1.d,b2.d,b3.d] [w1,w2,w3] H3 z3 (λb o ne e=>k3 b o ne (k2 b o ne<|k1 b o ne<|I.ext b o e)) ?_ rfl (.cons (m3 _ _<|m2 _ _ r1)<|.cons (m3 _ _ r2)<|.cons r3 .nil)
  rw[x3];simp[wB,n1,n2,n3]
def c68 (s:Stmt):List Stmt:=match s with
 | .ClassDef _ _ _ b _ _ _ _ _ _ _=>b
 | _=>[]
section
variable {P:Program}{w:World}{K:PySem.W.Frag}{mg:Str->Option Value}{base:Heap}
theorem cZ8 {an:Option Addr}{osl:Array (Option Value)}{kV doc pm cdv ct:Value}{nm:Str}{x0 x1 x2:Str}{p1 p3 p4 p5 p6 p7 p8:Pos}
  (l:K.lookup fI=some ⟨.type "function",od,.func<|fnOf nm qual (jQ st) (eF st) (aF st) .none kV doc pm an cdv ct,osl⟩) (c:codeIn K cdv qual=true) (k:keepIn K (.ref fI)=true)
  (hb:eF st=[.Assign [.Attribute (.Name x0 p1) f1 p2] (.Name x1 p3) p4,.Assign [.Attribute (.Name x0 p5) f2 p6] (.Name x2 p7) p8]) (S:aX [x0,x1,x2] [x0,x1,x2] (aF st))
  (l0:(aF st).names.lookup x0=some .local) (l1:(aF st).names.lookup x1=some .local) (l2:(aF st).names.lookup x2=some .local) (d0:x0∪0) (d1:x1∪0) (d2:x2∪0)
  (bd: ∀(kV doc pm:Value) (an:Option Addr) (cdv ct:Value) (us:List Value),us.length=[x0,x1,x2].length->bindArgs (fnOf nm qual (jQ st) (eF st) (aF st) .none kV doc pm an cdv ct) ⟨us,[]⟩=pure ([x0,x1,x2].zip us))
  {cd:ClassData} (hc:PySem.W.clsIn K C=some cd) (hm:uZ cd.mro=true) (hd:cd.hasDict=true) (sa:PySem.W.findIn K (.ref C) "__setattr__"=some (some<|.builtin "object.__setattr__")) (n1:PySem.W.findIn K (.ref C) f1=some none) (n2:PySem.W.findIn K (.ref C) f2=some none) :
  cF2 K C fI (fnOf nm qual (jQ st) (eF st) (aF st) .none kV doc pm an cdv ct) f1 f2:=
 ⟨⟨_,od,nm,qual,jQ st,aF st,kV,doc,pm,an,cdv,ct,osl,x0,x1,x2,p1,p2,p3,p4,p5,p6,p7,p8,by rw[hb],l,rfl,c,S,l0,l1,l2,d0,d1,d2,(b33 (st:=st) l c k).binds bd⟩,⟨cd,hc,hm,hd⟩,sa,n1,n2⟩
theorem aJ2 {cd:ClassData}(h:excIn K C bmB newId=true\/ ∃fI,a93 K C fI bmB newId=true)(hc:PySem.W.clsIn K C=some cd)(hm:cd.mro.contains (.ref R)=true):a43 K R C bmB newId:=⟨h,cd,hc,hm⟩
theorem Fn.mkA {ps:List Str}(F:Fun K y qual st f fd)(m:mg x=some (.ref f))(b:Binds K fd ps [])(S:aX N ps (aF st))
  (len: ∀ds Q,φ ds Q->ds.length=ps.length) {t:US}
  (der: ∀(cdv:Value) (A:Around) (outer:List Env) (s:Shared) (H:Hp) (E:XK),gX k (A.deeper<|envOfC qual (aF st) s.heap.objs.size f cdv)->sR (uS CX0 P w K mg base N qual (aF st) f cdv A outer s H E).nox (eF st) t)
  (rd: ∀ds Q,φ ds Q->t {Q with} (init N ds)):Fn<$>x ps (k+1) φ:=
 ⟨f,fd,c52 F S len λcdv A outer s H E hr=>⟨t,der cdv A outer s H E hr,rd⟩,b,F.kp,m⟩
end
end M
end
section
namespace L2
open PySem PySem.Spec PySem.W PySem.Calls PyProof.Rows Builtin Builtin.ObjectAttr Builtin.Getset_descriptor
section
variable {prog:Program}{w:World}{A:Around}{E:Value->Shared->Prop}{s:Shared}{K:Frag}{x D:Addr}{ox:Obj}{a g:Value}{name:Str}
theorem cZ9 {M:Model}(hx:h.get? x=some ox)(hc:ox.cls= .ref D):Looks M h (typeOf<|.ref x) (.ref D):=by
 rw[<-hc];exact(Looks.ld hx).andThen .now
theorem dX4 {M:Model}(X:K.In h)(ha:findIn K (.ref D) name=some (some a))(hg:specialIn K a "__get__"=some (some g))(ht:takesIn K a=some true):Looks M h (find (.ref x) (.ref D) name) (.bind g a):=by
 have u3:Looks M h (dataDescriptor? (some a)<|some g) (some (g,a)):=(looks_takesIn X ht).andThen .now;have u2:Looks M h (getOf<|some a) (some g):=looks_specialIn X hg;exact(looks_findIn X ha).andThen (u2.andThen<|u3.andThen<|Looks.tag .now)
theorem dX5 {Q:Option Value->Shared->Prop}(X:K.In s.heap)(hx:s.heap.get? x=some ox)(hc:ox.cls= .ref D)(hg:findIn K (.ref D) "__getattribute__"=some (some<|.builtin "BaseException.__getattribute__"))(hh:findIn K (.ref D) "__getattr__"=some none)(ha:findIn K (.ref D) "__class__"=some (some<|.builtin "object.__class__"))
  (hn:specialIn K (.builtin "object.__class__") "__get__"=some (some<|.builtin "getset_descriptor.__get__")) (ht:takesIn K (.builtin "object.__class__")=some true) (hm:mroIn K D (.type "object")=some true) (hb:mroIn K D (.type "BaseException")=some true) (h:Q (some<|.ref D) {s with toks:=s.toks+1}) :
  wpAny (model prog w) A (getAttr? (.ref x) "__class__") Q E s:=by
 obtain⟨hp,gn,dr,tn,os⟩:=s;have v0:=cZ9 (M:=model prog w) hx hc;have v1:=looks_findIn (M:=model prog w) X hg;have v2:=dX4 (M:=model prog w) (x:=x) X ha hn ht;have v3:=looks_findIn (M:=model prog w) X hh;have v4:=looks_mroIn (M:=model prog w) X hm;have v5:=looks_mroIn (M:=model prog w) X hb
 have v6:Looks (model prog w) hp (bindSpecial (.builtin "BaseException.__getattribute__")<|.ref x) (.builtin "BaseException.__getattribute__",[.ref x]):=Looks.of_pure (PySem.F.excAttr_ValueError.ga.bind<|.ref x);unfold getAttr? getAttrBy?;unfold getAttrBy;refine aA (wpAny_mkText<|aA<|nY<|gG<|aA<|v0.at<|aA<|v1.at ?_);show wpAny _ _ (getAttrByItsOwn _ _ _ _ _ _) _ _ _
 unfold getAttrByItsOwn hookBefore;refine aA (v3.at<|aA<|nY<|gG ?_);show wpAny _ _ (boundAndCalled _ _ _) _ _ _;unfold boundAndCalled;refine aA (v6.at ?_);have bk:builtinKind "BaseException.__getattribute__"=some .slot:=af
 have hsp:splitId "BaseException.__getattribute__"=some ("BaseException","__getattribute__"):=af
 have har:=F.args_bexc_ga (.ref x) (.str "__class__" tn);refine oA (aP3 PySem.F.excAttr_ValueError.ga.plain F.entry_bexc_ga ?_);simp only[checkBuiltinCall,bk,hsp];refine aA ?_;unfold isInstance;have w1:=looks_findIn (M:=model prog w) X ha;have w2:Looks (model prog w) hp (getOf<|some<|.builtin "object.__class__") (some<|.builtin "getset_descriptor.__get__"):=looks_specialIn X hn
 have w3:Looks (model prog w) hp (dataDescriptor? (some<|.builtin "object.__class__")<|some<|.builtin "getset_descriptor.__get__") (some (.builtin "getset_descriptor.__get__",.builtin "object.__class__")):=(looks_takesIn X ht).andThen .now
 repeat (any_goals (first|assumption|with_reducible refine v0.at ?_|with_reducible refine v5.at ?_|with_reducible refine w1.at ?_|with_reducible refine w2.at ?_|with_reducible refine w3.at ?_|wp_step))
 refine aP3 KF.slot_gs.plain KF.entry_gs ?_
 refine KF.slot_gs.check _ _ _ _ _ _ _ _ KF.type_class (KF.args_gs _ _ _) ?_
 unfold Builtin.«getset_descriptor.__get__»; unfold descrGet;rw[dga_obj];refine aA ?_;refine aL ?_;unfold descrGetter;unfold descrCheckInstance descrNameAndClass;unfold isInstance;simp only[KF.owner_class]
 repeat lk
 refine⟨aQ4 _ af,?_⟩
 refine codeAny_builtin KF.entry_class ?_
 unfold Builtin.«object.__class__»; unfold shownTypeOf
 repeat lk
 repeat (first|exact h|wp_step)
structure dI3 (K:Frag)(C:Addr):Prop where
 ci:(clsIn K C).isSome=true
 ga:findIn K (.ref C) "__getattribute__"=some (some<|.builtin "BaseException.__getattribute__")
 gh:findIn K (.ref C) "__getattr__"=some none
 ha:findIn K (.ref C) "__class__"=some (some<|.builtin "object.__class__")
 hn:specialIn K (.builtin "object.__class__") "__get__"=some (some<|.builtin "getset_descriptor.__get__")
 tk:takesIn K (.builtin "object.__class__")=some true
 hm:mroIn K C (.type "object")=some true
 hb:mroIn K C (.type "BaseException")=some true
theorem dI4 (k:dI3 K C):KitX K (.ref x) (.ref C) (λh=> ∃o,h.get? x=some o/\o.cls= .ref C) where
 ty:=λ_ _ _ ⟨_,h1,h2⟩=>cZ9 h1 h2
 it:=λM h X _=>by
  obtain⟨cd,e⟩:=zV.mp k.ci;unfold clsIn at e;split at e
  .rename_i look
   intro A' Q' E' s' keep q;unfold isType loadHead;exact aA (wpAny_loadPart (keep _ _<|X _ _ look)<|aL q)
  .cases e
 ne:=λh tp dd its n sl X at_=>by
  obtain⟨cd,e⟩:=zV.mp k.ci;rw[Bool.eq_false_iff];intro q;cases (fV.mp q:Value.ref C= .ref tp);unfold clsIn at e;split at e
  .rename_i look
   cases (X _ _ look).symm.trans at_
  .cases e
 ca:=λX ⟨_,h1,h2⟩ q=>dX5 X h1 h2 k.ga k.gh k.ha k.hn k.tk k.hm k.hb q
end
end L2
namespace M
def XD (a:Addr)(oe:Obj)(x:D):Prop:=x= .adr a\/ ∃d ks l,x= .xob a d ks l/\oe.dict=some d/\ ∀c,oe.data≠ .cls c
theorem XD.rep {A:AS}{H:Hp}{x:D}{v:V}(h:XD a oe x)(r:Rep K A H x v):v= .ref a:=by
 rcases h with rfl| ⟨d,ks,l,rfl,_⟩
 .simpa only[Rep]using r
 .simp only[Rep]at r;obtain⟨vs,e,_⟩:=r;exact e
def gIs (x d:D)(b:Bool):List D->(B->Prop)->Prop:=λds Q=>ds=[x,d]/\Q (.pu<|.bl b)
def clsV:D->Option (V×Value)
 | .adr R=>some (.ref R,.ref R)
 | .ty T=>some (.ty T,.type T)
 | _=>none
section
variable {X:Cx}{a C:Addr}{oe:Obj}{e0 d:D}{v:V}{u:Value}{b:Bool}
theorem cu_is (k:dI3 X.K C)(hp:(a,oe)∈X.pn)(hc:oe.cls= .ref C)(h0:XD a oe e0)(hd:clsV d=some (v,u))(e:kitOne X.K (.ref C) u=some b):uT X (.builtin "isinstance") (gIs e0 d b):=by
 intro A H ds vs Q0 Q hA r ⟨g1,g2⟩ q;subst g1;obtain⟨x,vr,rfl,r1,r2⟩:=r.uncons;obtain⟨y,vr2,rfl,r3,r4⟩:=r2.uncons;cases r4.unnil;have ex:x= .ref a:=h0.rep r1;have ey:y=v/\ ∀z,RelV v z->z=u:=by
  cases d with
  | adr R=>cases hd;exact⟨by simpa only[Rep]using r3,λz h=>h⟩
  | ty T=>cases hd;exact⟨by simpa only[Rep]using r3,λz h=>h⟩
  | _=>cases hd
 obtain⟨rfl,ey⟩:=ey;subst ex;refine⟨λxs H Q=>xs=[.ref a,y]/\Q (.bl b) H,?_,rfl,q _ _ H g2 (.refl _) lX⟩
 rintro pins s σ H' xs us Q' I rv ⟨rfl,hq⟩;obtain⟨w1,w2,rfl,q1,q2⟩:=vals2 rv;obtain rfl:w1=Value.ref a:=q1;obtain rfl:=ey _ q2;have pin:=I.pin (a,oe) (dI.mpr<|.inl hp);exact PySem.W.kia_one (dI4 k) I.kIn ⟨_,pin.1,hc⟩ e (λz=>nomatch z) λtk=>⟨.bl b,H',I.tok _,rfl,hq⟩
end
end M
end
section
namespace L2
section
variable {X:Cx}{pins:List (Addr×Obj)}{σ:St}{H:Hp}{s:Shared}
theorem bE7 {M:Model}{Q:Unit->Shared->Prop}(I:Inv X pins σ H s)(hN:X.N.Nodup)(hi:X.N[i]? =some y)(hy:X.env.scope.names.lookup y=some .local)
  (h: ∀s',Inv X pins (σ.set i none) H s'->Q () s'):wpAny M A (do bindName X.env y .none;unbindBehindTheSuite X.env y pos) Q E s:=by
 obtain⟨m,hn,hl⟩:=id I.loc;have lt: ∀{b:Addr} {o:Obj},X.s₀.heap.get? b=some o->b≠X.env.locals:=λe=>bK (b9 (aW e) I.ok.above)
 have iσ:i<σ.length:=by rw[I.len];exact(jD.mp hi).1
 refine wpAny_nameGoes_keeps hy hn (by rw[I.ok.kind];rfl) λh' v hn' hs=>h _ ⟨I.ok,I.os,I.bare,⟨λb o e n hb hx=>(hs.2 b<|lt e).trans (I.base.keep b o e n hb hx),λb o e n hb hx=> ?_,I.base.free,λb o e hx=> ?_,I.base.tups,I.base.frzs,I.base.tbls⟩,⟨_,hn',λj z v' e1 e2 e3=> ?_⟩,λz c e=> ?_,I.free,I.freeC,λp hp=> ?_,λb ob e=> ?_,by exists I.len⟩
 .obtain⟨sl,e1⟩:=I.base.slot b o e n hb hx;exact⟨sl,(hs.2 b<|lt e).trans e1⟩
 .obtain⟨o',e1⟩:=I.base.there b o e hx;exact⟨o',(hs.2 b<|lt e).trans e1⟩
 .by_cases hj:j=i
  .subst hj;rw[zY iσ]at e2;cases e2
  .rw[pY<|Ne.symm hj]at e2;obtain⟨u',r',q⟩:=hl j z v' e1 e2 e3;refine⟨u',r',?_⟩;rcases q with⟨k,e⟩| ⟨k,c,e,t⟩
   .have ne:z≠y:=λe=>hj (bG1 hN e1<|e▸hi)
    exact .inl ⟨k,by simp[ne,e]⟩
   .exact .inr ⟨k,c,e,t.sameBut hs<|I.cne z c e⟩
 .obtain⟨w',t⟩:=I.cell z c e;exact⟨w',t.sameBut hs<|I.cne z c e⟩
 .obtain⟨e,n,ne,nf,d⟩:=I.pin p hp;exact⟨(hs.2 p.1 ne).trans e,n,ne,nf,d⟩
 .refine(I.hok b ob e).stay (λc w' hc q=>(hs.2 c ?_).trans q) (λ_ q=>q) λ_ _ q=>q
  intro z;subst z;have fr:=I.free;rcases hc with hc|hc
  .subst hc;rw[fr]at e;cases e
  .rw[fr]at hc;cases hc
def XOk (K:PySem.W.Frag)(C:Addr)(bmB:List Value)(newId:String):Prop:=excIn K C bmB newId=true\/ ∃fI,a93 K C fI bmB newId=true
theorem xok_of (X:K.In h)(a:XOk K C bmB newId): ∃N bm,XO h C N bm newId/\OwnTail h bmB bm:=by
 rcases a with a| ⟨fI,a⟩
 .obtain⟨bm,N,_,o,_,_,tl⟩:=bE4 X a;exact⟨N,bm,o,tl⟩
 .obtain⟨bm,N,_,o,_,_,tl⟩:=bI2 X a;exact⟨N,bm,o,tl⟩
theorem dX6 {M:Model}{A:Around}{E:Value->Shared->Prop}{s:Shared}{e C R:Addr}{oe:Obj}{Q:Bool->Shared->Prop}{b:Bool}{K:PySem.W.Frag}{B newId initId:String}{bmB:List Value}(FB:ExcBaseFacts B newId initId bmB)(X:K.In s.heap)(u:cS5 K R C bmB newId b)(hR:XOk K R bmB newId)
  (he:s.heap.get? e=some oe) (hcl:oe.cls= .ref C) (hq:Q b s):wpAny M A (excMatches (.ref e)<|.ref R) Q E s:=by
 obtain⟨N,bm,⟨_,_,_,_,_,_,_,_,_,_,_,_,_,_,hC⟩,hin⟩:=dH9 X u;obtain⟨_,bm',⟨_,_,_,_,_,_,_,_,_,_,_,_,_,_,hRo⟩,tl'⟩:=xok_of X hR;have hb:=tl'.hasType FB.hasBase;obtain⟨hp,gn,dr,tn,os⟩:=s;have t1:(Value.ref R::bm').contains (.type "BaseException")=true:=by rw[a08,hb,a26]
 have t2:=tc_notTuple;unfold excMatches
 repeat (first
  | (with_reducible refine kL he ?_;rw[hcl])
  | with_reducible refine kL hRo ?_
  | (with_reducible refine qC hRo ?_;rw[t1])
  | (with_reducible refine qC hC ?_;rw[hin])
  | wp_step)
 cases b with
 | true=>repeat (first|exact hq|wp_step)
 | false=>repeat (first|exact hq|wp_step)
end
section
variable {X:Cx}
noncomputable abbrev Cx.asX (X:Cx)(a:Addr)(oe:Obj):Cx:={X.inX a with pn:=(a,oe)::X.pn}
def c69 (i:Nat)(D:aW0):aW0:={D with nx:=λσ H=>D.nx (σ.set i none) H,bk:=λσ H=>D.bk (σ.set i none) H,ct:=λσ H=>D.ct (σ.set i none) H}
end
section
variable {X:Cx}{CX:CXT}{k:Nat}{f:Addr}{fd:FuncData}{ps:List Str}{sp:Sp}{E:XK}{x:Str}{p pos:Pos}{e:Expr}{es:List Expr}{t:TA}
theorem dX7 {pins:List (Addr×Obj)}{σ:St}{H:Hp}{s:Shared}{Q:VK}(F:sQ X.prog X.w X.K X.mg X.base CX k f fd ps sp)(hr:gX k X.A)(hg:Gl X x)(hm:X.mg x=some (.ref f))(hk:keepIn X.K (.ref f)=true)(hb:Binds X.K fd ps [])(hx:sB CX X E pins σ)
  (ha:PA X (e::es) t) (I:Inv X pins σ H s) (h:cX8 sp [] E t σ H Q) (hdb:x∪0) (he:starEach (e::es) X.env=(false,eval e X.env)::starEach es X.env) (hpl:(backTo pos<|starEach es X.env).any (·.1)=false) :
  X∩(eval (.Call (.Name x p) (e::es) [] pos) X.env) (EP X pins σ Q) X.xe s:=by
 refine nS (rQ I hg hm ?_ hdb)
 refine a07 (h₀:=X.base) I.ok.mod.kin hk (thn (ha pos pins s σ H _ I h) λus s1 ⟨vs,H1,I1,r,q⟩=>⟨I1.kIn,?_⟩) he hpl
 have r2:Vals (vs++[]) (us++[]):=r.append .nil;have hl:(us++[]).length=ps.length:=by rw[<-r2.length];exact F.len _ _ _ _ q
 refine oA (nZ (F.run X.A X.stack s1 H1 ⟨us,[]⟩ (us++[]) (vs++[]) Q E hr I1.env0 (hb s1 us I1.kIn hl) r2 q) λr s' hq=> ?_)
 cases r with
 | error e=>exact hx H1 s1 e s' I1 hq
 | ok fl=>
  cases fl with
  | ret u=>exact I1.after hq
  | next=>exact False.elim hq
  | brk=>exact False.elim hq
  | cont=>exact False.elim hq
end
end L2
namespace M
abbrev USY:=(Str->List D->Ev->Prop)->US
def lSY (K:PySem.W.Frag)(mg:Str->Option Value)(E:XK)(t:USY):TS:=λD σ H=> ∃C ρ D0 Ex,EOk K C ρ σ H/\t Ex D0 ρ/\DOk K C D0 D/\ ∀n Cl es o ρ1 H',Ex n es ρ1->mg n=some (.ref Cl)->EOk K C ρ1 σ H'->XR K (Av C ρ1 σ) H' n es o->E (.ref Cl) o H'
def PUY (X:Cx)(body:List Stmt)(t:USY):Prop:= ∀(xe:Value->Shared->Prop) (E:XK) (pins:List (Addr×Obj)) (s:Shared) (σ:L2.St) (H:Hp) (D:aW0),Inv (X.wish xe) pins σ H s->sB (CXr X.prog X.w X.base) (X.wish xe) E pins σ->lSY X.K X.mg E t D σ H->X∩(execs body X.env) (SP (X.wish xe) pins D) xe s
def cS6 (φ:ΦX)(t:UA)(Ex:Str->List D->Ev->Prop):UE:=λρ Q=>t ρ λds ρ1=>φ ds (λb=>Q b ρ1) λn es=>Ex n es ρ1
section
variable {X:Cx}{e c:Expr}{es:List Expr}{a b:List Stmt}{pos:Pos}{t u:USY}{tc:UT}{K:PySem.W.Frag}{C:C0}{ρ:Ev}{σ:L2.St}{H:Hp}
theorem dX8 {ps:List Str}{φ:ΦX}{t:UA}(F:FnX X.prog X.w X.K X.mg X.base x ps k φ)(hr:gX k' X.A)(hk:k<=k')(hg:Gl X x)(ha: ∀xe,PUA (X.wish xe) (e::es) t)(hdb:⇑(x∪0))
  (he:↥(starEach (e::es) X.env=(false,eval e X.env)::starEach es X.env)) (hpl:↥((backTo cpos<|starEach es X.env).any (·.1)=false)) (hs:↥(swapsWith (.Call (.Name x p) (e::es) [] cpos) none pos.line X.env=pure false)) :
  PUY X [.Expr (.Call (.Name x p) (e::es) [] cpos) pos] (λEx=>aC1 (cS6 φ t Ex)):=by
 rintro xe E pins s σ H D I pa ⟨C,ρ,D0,Ex,I0,h,k,kx⟩;obtain⟨f,fd,G,b,kp,m⟩:=F.ex;refine qJ (wpAny_Expr_any (thn (dX7 (X:=X.wish xe) (Q:=λ_ H1=>D.nx σ H1) G (hr.mono hk) hg m kp b pa (ha xe) I ⟨C,ρ,_,I0,h,λds ρ1 vs H1 q f s r=> ?_⟩ hdb he hpl) λv s1 ⟨_,H1,I1,_,q1⟩=>kN ⟨σ,H1,I1,q1⟩) I.quiet hs)
 have I1:=(I0.frz f).same s;show spX X.K X.mg φ (vs++[]) H1 _ E;rw[gW];exact⟨Av C ρ1 σ,ds,_,_,λa z=>I1.avSome z,r,q,λb v H' q' s' r'=>k.nx _ _ _ q' (I1.same s'),λn Cl es o H' ex hm s' xr=>kx n Cl es o ρ1 H' ex hm (I1.same s') xr⟩
theorem EOk.gone (I:EOk K C ρ σ H)(i:Nat):EOk K C (ρ.set i none) (σ.set i none) H:=by
 have at_: ∀{j:Nat} {b:B},(ρ.set i none)[j]? =some (some b)->j≠i/\ρ[j]? =some (some b):=λ{j b} e=>by
  by_cases c:j=i
  .subst c
   by_cases l:j<ρ.length
   .rw[zY l]at e;cases e
   .rw[fT (by rw[eH];omega)]at e;cases e
  .rw[pY<|Ne.symm c]at e;exact⟨c,e⟩
 have own: ∀a,Av C (ρ.set i none) (σ.set i none) a->Av C ρ σ a:=λa z=>by
  rcases z with z| ⟨j,l,e1,e2⟩
  .exact .inl z
  .obtain⟨n,e1⟩:=at_ e1;rw[pY<|Ne.symm n]at e2;exact .inr ⟨j,l,e1,e2⟩
 have pr:mY (Av C ρ σ) H (Av C (ρ.set i none)<|σ.set i none) H:=λb o n q=>⟨λz=>n (own b z),q⟩
 have sg: ∀{j:Nat},j≠i->(σ.set i none)[j]? =σ[j]? :=λn=>pY (Ne.symm n)
 refine⟨by simpa using I.len,λj d e=> ?_,λj l e=> ?_,λj j' l l' a e1 e2 e3 e4=> ?_,λj l e=> ?_,I.ext,I.a0⟩
 .obtain⟨n,e⟩:=at_ e;obtain⟨v,e1,r⟩:=I.pu j d e;exact⟨v,by rw[sg n];exact e1,r.mono pr⟩
 .obtain⟨n,e⟩:=at_ e;obtain⟨a,vs,e1,e2,e3,r⟩:=I.ow j l e;exact⟨a,vs,by rw[sg n];exact e1,e2,e3,r.mono pr⟩
 .obtain⟨n1,e1⟩:=at_ e1;obtain⟨n2,e2⟩:=at_ e2;rw[sg n1]at e3;rw[sg n2]at e4;exact I.inj j j' l l' a e1 e2 e3 e4
 .obtain⟨n,e⟩:=at_ e;obtain⟨a,vs,e1,e2,e3,r⟩:=I.bo j l e;exact⟨a,vs,by rw[sg n];exact e1,e2,e3,r.mono pr⟩
def bY2 (i:Nat)(E:UD):UD:={E with nx:=λρ=>E.nx (ρ.set i none),bk:=λρ=>E.bk (ρ.set i none),ct:=λρ=>E.ct (ρ.set i none)}
def mkX (n:Str)(mk:Addr->Addr->List D->D):Prop:=(aC6 n=[]/\mk=λa _ _=> .adr a)\/(aC6 n≠[]/\mk=λa d es=> .xob a d (aC6 n) es)
theorem bS1:bootBuiltins "ValueError"=some (.type "ValueError"):=af
def dI5 (x:D)(i:Nat)(b:Bool):UE:=λρ Q=>ρ[i]? =some (some<|.pu x)/\Q (.pu<|.bl b) ρ
theorem dI6 (hg:Gl X r)(hm:X.mg r=some (.ref R))(hd:⇑(r∪0)):PU X (.Name r p) (uC<|.adr R):=bD8 (bD3 (v:= .ref R) hg hm rfl hd) λA H=>by simp only[Rep]
theorem cS7 {x:Addr}{e0:D}{C:Addr}{d:D}{v:V}{w:Value}{o:Bool}{pr:Pos}(i:Nat)(k:dI3 X.K C)(hp:(x,oe)∈X.pn)(hc:oe.cls= .ref C)(h0:XD x oe e0)(hy:PE X (.Name y py) (aB0 i))(hr:PU X (.Name r pr) (uC d))(hv:clsV d=some (v,w))(hk:kitOne X.K (.ref C) w=some o)
  (hg:Gl X "isinstance") (hm:X.mg "isinstance"=none) (he:↥(starEach [.Name y py,.Name r pr] X.env=(false,eval (.Name y py) X.env)::starEach [.Name r pr] X.env)) (he2:↥(starEach [.Name r pr] X.env=(false,eval (.Name r pr) X.env)::starEach [] X.env)) (hpl:↥((backTo pos<|starEach [.Name r pr] X.env).any (·.1)=false)) :
  PU X (.Call (.Name "isinstance" p) [.Name y py,.Name r pr] [] pos) (dI5 e0 i o):=
 iZ (dP (cu_is k hp hc h0 hv hk) hg hm boot_isinstance (aE (d3 i hy) (aE hr aB he2) he) ac ac he hpl) λσ H Q ⟨C0,ρ,Q0,I,⟨h1,h2⟩,kk⟩=>⟨C0,ρ,Q0,I,by
  simp only[aQ,a8,aC,aB2,h1,uC,aN,B.d]
  first|exact⟨rfl,h2⟩|exact⟨trivial,h2⟩,kk⟩
end
end M
end
section
namespace L2
section
variable {X:Cx}
def tTryN (C1:Addr)(i:Nat)(tb:XK->TS)(th1:Addr->Option Addr->TS):TS:=λD σ H=> ∃E,tb E D σ H/\ ∀C o H',E (.ref C) o H'->C=C1/\ ∀a,th1 a o (c69 i D) (σ.set i<|some<|.ref a) H'
theorem dX9 {body:List Stmt}{b0:Stmt}{suite1:List Stmt}{hrest:List ExceptHandler}{r1 y:Str}{rp1 hp1 pos:Pos}{C1 R1:Addr}{B newId initId:String}{bmB:List Value}{tb:XK->TS}{th1:Addr->Option Addr->TS}{i:Nat}(FB:ExcBaseFacts B newId initId bmB)(hstk:X.stack=X.env::X.outer)(hfr:X.env.frame=some X.env.locals)(hex:X.ex=[])(hc:X.calm=true)
  (hbody: ∀(xe:Value->Shared->Prop) (E:XK) (pins:List (Addr×Obj)) (s:Shared) (σ:St) (H:Hp) (D:aW0),Inv (X.wish xe) pins σ H s->sB (CXr X.prog X.w X.base) (X.wish xe) E pins σ->tb E D σ H->X∩(execs body X.env) (SP (X.wish xe) pins D) xe s)
  (hs1: ∀a oe o,oe.cls= .ref C1->(∀d,o=some d->oe.dict=some d)->(∀c,oe.data≠ .cls c)->PSs (X.asX a oe) (b0::suite1) (th1 a o)) (hg1:Gl X r1) (hm1:X.mg r1=some (.ref R1)) (hR1:XOk X.K R1 bmB newId)
  (hu:cS5 X.K R1 C1 bmB newId true) (hN:X.N.Nodup) (hi:X.N[i]? =some y) (hy:X.env.scope.names.lookup y=some .local) (hd1:⇑(r1∪0)) :
  PS X (.Try body (.ExceptHandler (some<|.Name r1 rp1) (some y) (b0::suite1) hp1::hrest) [] [] pos) (tTryN C1 i tb th1):=by
 rintro pins s σ H D I ⟨E,hb,hx⟩;refine wpAny_Try_except ?_
 have goX:sB (CXr X.prog X.w X.base) (X.wish λe s1=>X∩(noteFrame e X.env) (λ_ s2=>X∩(setFlight e none) (λ_ s3=>X∩(handleBy e X.env (.ExceptHandler (some<|.Name r1 rp1) (some y) (b0::suite1) hp1::hrest)) (SP X pins D) X.xe s3) X.xe s2) X.xe s1) E pins σ:=by
  rintro H1 s1 e s' J ⟨a,C,o',H',rfl,ho,hbr,un,hok,⟨⟨a0,fl⟩,fe,ft⟩,nw,xa,hE⟩;have J0:=J.unwish;have J1:Inv X pins σ H' s':=J0.call' ho un hok hbr (λb z=>absurd z ae)
  have fl':FlyingW X.base X.stack a (.ref C) a0 s'.heap:=fl;have frs':=J1.ok.frames;have g0: ∀b o,s1.heap.get? b=some o-> ∃o',s'.heap.get? b=some o':=λb o q=>un.there b o q ae
  have gs: ∀b o,X.s₀.heap.get? b=some o-> ∃o',s1.heap.get? b=some o':=λb o q=>J0.base.there b o q (by rw[hex];simp)
  have gp: ∀q∈X.pn++pins,∃o',s1.heap.get? q.1=some o':=λq hq=>⟨_,(J0.pin q hq).1⟩
  show wpAny _ _ (noteFrame (.ref a) X.env) _ _ s'
  rw[hstk]at fl' frs';refine cF0 frs' hfr fl' λh2 held p2=> ?_
  rw[<-hstk]at p2 held fl';have J2:=J1.past (g:=s1.heap) p2 hstk hfr hex gs gp nw.he nw.ht fe ft;have n2:=nw.past p2 g0 (cF5 held.2.2.1);have g2:=a42 nw p2 g0 (cF5 fl'.2.2.1);have t2:=aJ1 J1.hok p2 J1.stkFree fe ft;refine aX2 held λh3 fl3 p3=> ?_
  have J3:=J2.past (g:=s1.heap) p3 hstk hfr hex gs gp n2.he n2.ht fe t2;have n3:=n2.past p3 g2 (cF5 fl3.2.2.1);have g3:=a42 n2 p3 g2 (cF5 held.2.2.1);have t3:=aJ1 J2.hok p3 J2.stkFree fe t2;obtain⟨oe,he,hcl⟩:=fl3.there;obtain⟨rfl,hth⟩:=hx C o' H' hE
  .refine wpAny_handleBy_cons (codeAny_handlers_test<|rQ (X:=X.inX a) (J3.inX a) hg1 hm1 ?_ hd1) (by intro q;cases q)
   refine dX6 FB J3.kIn hu hR1 he hcl ?_
   refine codeAny_handlers_suite_as (aX2 fl3 λh4 fl4 p4=> ?_)
   have J4:=J3.past (g:=s1.heap) p4 hstk hfr hex gs gp n3.he n3.ht fe t3;obtain⟨oe4,he4,hcl4⟩:=fl4.there;have xa4: ∀d,o'=some d->oe4.dict=some d:=λd q=>by
    obtain⟨o5,e1,e2⟩:=((xa.dk p2.dk).dk p3.dk).dk p4.dk d q;rw[he4]at e1;cases e1;exact e2
   have nc4: ∀c,oe4.data≠ .cls c:=λc z=>by
    obtain⟨_,_,_,oe5,vs5,_,_,_,he5,_,hd5,_⟩:=fl4;rw[he5]at he4;cases he4;rw[hd5]at z;cases z
   have notF:a ∉ frs X.stack:=λz=>by
    obtain⟨_,o',q',n⟩:=fl4.2.2.1.mem (b:=a) z;obtain⟨_,_,_,oe5,vs5,_,_,_,he5,_,hd5,_⟩:=fl4;rw[he5]at q';cases q';exact n vs5 hd5
   have hin: ∀b,b∈frs X.stack↔b=X.env.locals\/b∈X.fs:=λb=>by
    rw[hstk];unfold Cx.fs frs;rw[jE,hfr];exact aZ
   have J5:Inv (X.asX a oe4) pins σ H' {s' with heap:=h4}:=by
    have K4:=J4.inX a;refine⟨⟨K4.ok.mod,K4.ok.kind,K4.ok.glob,K4.ok.blt,K4.ok.above,K4.ok.inj,K4.ok.has,K4.ok.cab,K4.ok.hd,K4.ok.frames,K4.ok.stk,K4.ok.exf,K4.ok.bs,K4.ok.bsz,K4.ok.noex,K4.ok.exfs,K4.ok.funs,K4.ok.frf⟩,K4.os,K4.bare,K4.base,K4.loc,K4.cell,K4.free,K4.freeC,λp hp=> ?_,K4.hok,K4.len⟩
    rcases aZ.mp (show p∈(a,oe4)::(X.pn++pins)from hp)with rfl|hp
    .refine⟨he4,fe,λz=>notF ((hin a).mpr<|.inl z),λz=>notF ((hin a).mpr<|.inr z),λv z=> ?_⟩
     obtain⟨_,_,_,oe5,vs5,_,_,_,he5,_,hd5,_⟩:=fl4;rw[he5]at he4;cases he4;rw[hd5]at z;cases z
    .exact K4.pin p hp
   refine uQ (X:=X.asX a oe4) J5 hN hi (.inl hy) (show RelV (.ref a) (.ref a)from rfl) (λs6 J6=> ?_) (.inr hy)
   have out: ∀{σ':St} {H2:Hp} {s7:Shared},Inv (X.asX a oe4) pins σ' H2 s7->Inv X pins σ' H2 s7:=λz=>
    Inv.outX (e:=a) ⟨⟨z.ok.mod,z.ok.kind,z.ok.glob,z.ok.blt,z.ok.above,z.ok.inj,z.ok.has,z.ok.cab,z.ok.hd,z.ok.frames,z.ok.stk,z.ok.exf,z.ok.bs,z.ok.bsz,z.ok.noex,z.ok.exfs,z.ok.funs,z.ok.frf⟩,z.os,z.bare,z.base,z.loc,z.cell,z.free,z.freeC,λp hp=>z.pin p (fK _ hp),z.hok,z.len⟩ λ_=>J4.ok.hd hc
   refine bD (hs1 a oe4 o' hcl4 xa4 nc4 pins _ _ H' (c69 i D) J6<|hth a) (λf s7 q=> ?_) λ_ _ z=>z.elim
   show wpAny _ _ (do bindName X.env y .none;unbindBehindTheSuite X.env y hp1) _ _ s7
   cases f with
   | next=>obtain⟨σ',H2,I7,q⟩:=q;exact bE7 (out I7) hN hi hy λs8 I8=>⟨_,H2,I8,q⟩
   | brk=>obtain⟨σ',H2,I7,q⟩:=q;exact bE7 (out I7) hN hi hy λs8 I8=>⟨_,H2,I8,q⟩
   | cont=>obtain⟨σ',H2,I7,q⟩:=q;exact bE7 (out I7) hN hi hy λs8 I8=>⟨_,H2,I8,q⟩
   | ret u=>obtain⟨v,σ',H2,I7,r,q⟩:=q;exact bE7 (out I7) hN hi hy λs8 I8=>⟨v,_,H2,I8,r,q⟩
 refine bD (hbody _ E pins s σ H D (I.wish _) goX hb) (λf s1 q=> ?_) λ_ _ z=>z
 have q':=q.unwish;cases f with
 | next=>exact kN q'
 | ret v=>exact q'
 | brk=>exact q'
 | cont=>exact q'
end
end L2
namespace M
section
variable {X:Cx}{e c:Expr}{es:List Expr}{a b:List Stmt}{pos:Pos}{t u:USY}{tc:UT}{K:PySem.W.Frag}
def dI7 (i:Nat)(n1:Str)(mk:Addr->Addr->List D->D)(tb:USY)(th1:D->US):US:=λE ρ=>tb (λn es ρ1=>n=n1/\ ∀a d,th1 (mk a d es) (bY2 i E)<|ρ1.set i<|some<|.pu<|mk a d es) E ρ
end
section
variable {X:Cx}{e c:Expr}{es:List Expr}{a b:List Stmt}{pos:Pos}{t u:USY}{tc:UT}{K:PySem.W.Frag}
theorem dY0 {b0:Stmt}{suite1:List Stmt}{hrest:List ExceptHandler}{r1 n1:Str}{rp1 hp1:Pos}{R1 C1:Addr}{B:String}{tb:USY}{th1:D->US}{mk:Addr->Addr->List D->D}(i:Nat)(hmk:mkX n1 mk)(FB:ExcBaseFacts B newId initId bmB)(hstk:X.stack=X.env::X.outer)(hfr:X.env.frame=some X.env.locals)(hex:X.ex=[])(hc:X.calm=true)
  (hbody:PUY X body tb) (hs1: ∀a oe x,oe.cls= .ref C1->XD a oe x->sR (X.asX a oe) (b0::suite1) (th1 x)) (hg1:Gl X r1) (hm1:X.mg r1=some (.ref R1)) (hR1:XOk X.K R1 bmB newId) (hm2:X.mg n1=some (.ref C1))
  (hu:a43 X.K R1 C1 bmB newId) (hN:X.N.Nodup) (hi:X.N[i]? =some y) (hy:X.env.scope.names.lookup y=some .local) (hl: ∀pins σ H s,Inv X pins σ H s->i<σ.length) (hd1:⇑(r1∪0)) :
  PUS X (.Try body (.ExceptHandler (some<|.Name r1 rp1) (some y) (b0::suite1) hp1::hrest) [] [] pos) (dI7 i n1 mk tb th1):=by
 intro pins s σ H D J ⟨C0,ρ,D0,I,h,k⟩;refine dX9 (C1:=C1) (R1:=R1) (i:=i) (tb:=λE=>lSY X.K X.mg E tb) (th1:=λa o D σ H=> ∃x,(x= .adr a\/ ∃d ks l,x= .xob a d ks l/\o=some d)/\lS X.K (th1 x) D σ H) FB hstk hfr hex hc hbody (λa oe o ho hod hnc=> ?_) hg1 hm1 hR1 hu hN hi hy hd1 pins s σ H D J ?_
 .rintro pins s σ H D J ⟨x,hx,hl⟩;refine hs1 a oe x ho ?_ pins s σ H D J hl;rcases hx with rfl| ⟨d,ks,l,rfl,e⟩
  .exact .inl rfl
  .exact .inr ⟨d,ks,l,rfl,hod d e,hnc⟩
 refine⟨λcls o H'=> ∃n Cl es ρ1,cls=Value.ref Cl/\X.mg n=some (.ref Cl)/\(n=n1/\ ∀a d,th1 (mk a d es) (bY2 i D0)<|ρ1.set i<|some<|.pu<|mk a d es)/\EOk X.K C0 ρ1 σ H'/\XR X.K (Av C0 ρ1 σ) H' n es o,?_,?_⟩
 .exact⟨C0,ρ,D0,_,I,h,k,λn Cl es o ρ1 H' ex hm I' xr=>⟨n,Cl,es,ρ1,rfl,hm,ex,I',xr⟩⟩
 .rintro Cl o H' ⟨n,Cl',es,ρ1,e1,hm,ex,I',xr⟩;cases e1;obtain⟨rfl,ht⟩:=ex
  .rw[hm2]at hm;cases hm;refine⟨rfl,λa=> ?_⟩
   have fin:DOk X.K C0 (bY2 i D0) (c69 i D):=⟨λρ' σ' H2 q I2=>k.nx _ _ _ q (I2.gone i),k.rt,λρ' σ' H2 q I2=>k.bk _ _ _ q (I2.gone i),λρ' σ' H2 q I2=>k.ct _ _ _ q (I2.gone i)⟩
   rcases hmk with⟨hk,rfl⟩| ⟨hk,rfl⟩
   .exact⟨.adr a,.inl rfl,C0,_,bY2 i D0,I'.store (.refl _) (show qV X.K (Av C0 ρ1 σ) H' H' (.pu<|.adr a) (.ref a)from by simp only[qV,Rep])<|hl pins σ H s J,ht a a,fin⟩
   .cases o with
    | none=>exact absurd xr hk
    | some d=>
     refine⟨.xob a d (aC6 n) es,.inr ⟨d,_,_,rfl,rfl⟩,C0,_,bY2 i D0,I'.store (.refl _) (show qV X.K (Av C0 ρ1 σ) H' H' (.pu<|.xob a d (aC6 n) es) (.ref a)from ?_)<|hl pins σ H s J,ht a d,fin⟩
     obtain⟨vs,x1,x2,x3,x4⟩:=xr;simp only[qV,Rep];exact⟨vs,trivial,x1,x2,x3,x4⟩
end
end M
end
end
open L2
section
open PySem L2 M
local macro_rules| `(tactic| left)=> `(tactic| simp only[aS,bF,cW,oK,fS,cQ,uOp,uC,aC,aB2,aT,cC5,uV,uIx,gIx,kF,pO,aQ,a8,aN,gA,iR,aK9,lH,lZ,eV,M.gSub,fG,aW5,jX,cD1,gI2,oX,gJ,isB,B.d,b34,uOr,c46,cC6,cC7,bO,dD,uPar,cC9,uSl,lY,j4,gSl,bB6,gMax,gMin,b39,cF,aI8,cQ4,g1,g2,dU4,yL,uIf,cD6,gSum,aC1,dU8,pP,xC,dU9,bind_some,Option.bind_none,Option.map_some,Option.map_none,Option.join,u8,List.getElem?_cons_succ,bF9,bG0,cY,qG,gD,nW,nX,aQ7,aO1,eA,fW,reduceCtorEq,uSlT,gSlT,cZ0,bX6,bR9,D.isN,aL9,cR6,dD5,tI,fP,tH,fX,bG8,b97,cY8,dF5,dF6,dW,cS6,dI7,dI5,bY2,uIns,dW6,cZ5,dH0,bI3,aX4,c67])
namespace M
local macro_rules|`(!$t)=>`(some (B.pu (D.int $t)))|`(~~~$t)=>`(some (B.pu $t))|`(↑$t)=>`(some (B.ow $t))|`(∅)=>`(Nat->Int)
abbrev Ra (a:Φ)(t:US)(N:List Str):Prop:=∀ds Q,a ds Q->t {Q with} (init N ds)
variable {j x r b v p c z s:Int}{i k last t0 n m e U:Nat}{ui:UI}{g:UG}{tb:US}{ρ:Ev}{ws l:List Int}{js:List Nat}{cap:List (Option Nat)}{te:UE}{Q:B->Ev->Prop}{t T:Nat->∅}{f u:∅}{a F:Nat×∅}{E:UD}{L:List (List Int)}{s10 s11:Option B}
def aC8:Φ:=λds Q=> ∃c k p:Int,ds=[.int c,.int k,.int p]/\0<=k/\k<4294967296/\0<p/\ ∀r:Int,0<=r->r<p->Q (.pu<|.int r)
def bI5:US:=(aS (bF 3<|uOp jX (uOp fG (uOp eV (uOp eV (uOp eV (aC 0)<|uOp fG (uOp fG @7<|aC 1)<|aC 1)<|uOp fG @13<|aC 1)<|@5)<|@48271)<|@2147483647)<|aS (bF 3<|uOp jX (uOp fG (aC 3)<|aC 3)<|@2147483629)<|cW<|uOp jX (uOp fG (aC 3)<|@39373)<|aC 2)
theorem cM (i:Int)(h:0<j):i.fmod j=i%j:=Int.fmod_eq_emod_of_nonneg i (le_of_lt h)
theorem nJ (i:Int)(h:0<j):i.fdiv j=i/j:=Int.fdiv_eq_ediv_of_nonneg i (le_of_lt h)
theorem cmR {i:Int}(h1: -18446744073709551616<j)(h2:j<18446744073709551616):cO7 i j\/(Sm i/\Sm j):= .inl (.inr ⟨h1,h2⟩)
theorem cmL {i:Int}(h1: -18446744073709551616<i)(h2:i<18446744073709551616):cO7 i j\/(Sm i/\Sm j):= .inl (.inl ⟨h1,h2⟩)
theorem dI8: Ra aC8 bI5 ["c","k","p","f"]:=by
 rintro ds Q ⟨c,k,p,rfl,h0,h1,hp,h⟩;unfold bI5;show(aS _ _:US) _ [!c,!k,!p,none];left;rw[cM _ (by decide:(0:Int)<2147483647),cM _ (by decide:(0:Int)<2147483629),cM _ hp]
 refine⟨cmL ac ac,cmR aa aa,cmL ac ac,cmR ac ac,ac,cmR aa aa,ac,cmR ac ac,aa,?_⟩
 exact h _ (cT _ aa) (cX _ hp)
theorem bB {D:UD}(n:Nat)(it:Nat->M.D)(ρ1:Ev)(hui: ∀Q:Nat->(Nat->M.D)->Ev->Prop,Q n it ρ1->ui ρ Q)(Pv:Nat->Ev->Prop)(h0:Pv 0 ρ1)
  (hs: ∀i ρ,i<n->Pv i ρ->g (.pu<|it i) ρ λρ2=>tb {D with nx:=Pv (i+1),ct:=Pv (i+1),bk:=D.nx} ρ2) (hd: ∀ρ,Pv n ρ->D.nx ρ):gP ui g tb D ρ:=hui _ ⟨Pv,h0,hs,hd⟩
theorem d00 (h:i<ws.length):atI (ws.map D.int) (0+(i:Int))=some (.int ws[i]):=by
 rw[cK];exact bP (by rw[bJ,aU h];rfl)
def Below (xs ws:List Int):Prop:=xs.length=ws.length/\ ∀(j:Nat) (x w:Int),xs[j]? =some x->ws[j]? =some w->0<=x/\x<w
theorem cpl {i:Int}(h1:0<=j)(h2:j<=1000000)(h3:i.natAbs<2^64):dS4 i j:=⟨h1,h2,h3⟩
def nK:Φ:=λds Q=> ∃(c:Int) (ws:List Int) (p:Int),ds=[.int c,.lst<|ws.map .int,.int p]/\ws.length<=1000/\0<p/\(∀w∈ws,0<w/\w<18446744073709551616)/\ ∀xs:List Int,Below xs ws->Q (.ow<|xs.map .int)
def bI6:US:=(aS (bF 3<|@0)<|aS (fS (cQ<|uOp (oX λi j=>decide (j<=i)) (aC 0)<|uOp cD1 @10<|@18) (bF 3<|uOp M.gSub (aC 0)<|uOp cD1 @10<|@18) dD)<|aS (bF 4<|gA aN)<|aS (gP (fX<|a8 (kF<|aT 1) aN) (bO 5)<|fS (cQ<|uOp (oX λi j=>decide (j<i)) (aC 3)<|@1) (aS (aK9 4<|uOp jX (aC 3)<|uIx (aT 1)<|aC 5)<|bF 3<|uOp aW5 (aC 3)<|uIx (aT 1)<|aC 5)<|aK9 4<|uOp jX (aQ aC8<|a8 (aC 0)<|a8 (aC 5)<|a8 (aC 2) aN)<|uIx (aT 1)<|aC 5)<|oK 4)
theorem bI7 {i:Int}(h1: -18446744073709551616<i)(h2:i<18446744073709551616):Sm i:=by
 unfold Sm;have h3:i.natAbs<18446744073709551616:=aa
 exact b9 h3 af
theorem bI8 {xs:List Int}(h: ∀(j:Nat) (x w:Int),xs[j]? =some x->ws[j]? =some w->0<=x/\x<w)(hl:xs.length<ws.length)(h0:0<=x)(h1:x<ws[xs.length]) :
  ∀(j:Nat) (y w:Int),(xs++[x])[j]? =some y->ws[j]? =some w->0<=y/\y<w:=by
 intro j y w e1 e2
 by_cases hj:j<xs.length
 .rw[nQ hj]at e1;exact h j y w e1 e2
 .rw[lK ad]at e1
  by_cases hj':j=xs.length
  .subst hj';simp at e1;subst e1;rw[aU hl]at e2;cases e2;exact⟨h0,h1⟩
  .have:j-xs.length≠0:=ad
   cases e:j-xs.length with
   | zero=>lia
   | succ n=>rw[e]at e1;simp at e1
theorem dI9: Ra nK bI6 ["c","w","p","l","f","k"]:=by
 rintro ds Q ⟨c,ws,p,rfl,hlen,hp,hw,h⟩;unfold bI6;have tail: ∀left:Int,(aS (bF 4<|gA aN) (aS (gP (fX<|a8 (kF<|aT 1) aN) (bO 5)<|fS (cQ<|uOp (oX λi j=>decide (j<i)) (aC 3)<|@1) (aS (aK9 4<|uOp jX (aC 3)<|uIx (aT 1)<|aC 5)<|bF 3<|uOp aW5 (aC 3)<|uIx (aT 1)<|aC 5)<|aK9 4<|uOp jX (aQ aC8<|a8 (aC 0)<|a8 (aC 5)<|a8 (aC 2) aN)<|uIx (aT 1)<|aC 5)<|oK 4):US)
   {Q with} [!c,~~~.lst (ws.map .int),!p,!left,none,none]:=by
  intro left;rw[aS];left;refine⟨ac,?_⟩
  refine bB ws.length (λi=> .int (0+i)) _ ?_
   (λi ρ=> ∃(l:Int) (xs:List Int) (kk:Option B),ρ=[!c,~~~.lst (ws.map .int),!p,!l,↑(xs.map .int),kk]/\xs.length=i/\ ∀(j:Nat) (x w:Int),xs[j]? =some x->ws[j]? =some w->0<=x/\x<w)
   ⟨left,[],none,rfl,rfl,λj x w e=>by simp at e⟩ ?_ ?_
  .intro Q q;simp only[fX];left;rw[aG];refine⟨⟨ad,ad⟩,?_⟩
   rw[cD];exact q
  .rintro i ρ hi ⟨l,xs,kk,rfl,hl,hb⟩;subst hl;obtain⟨w0,w1⟩:=hw _ (cS hi);left;refine⟨ac,?_⟩
   by_cases hc:1<l
   .rw[a9 hc];simp only[d00 hi];rw[cM _ w0,nJ _ w0];refine⟨ad,?_,⟨ad,bI7 ad w1⟩,_,xs++[l%ws[xs.length]],_,by rw[bX];rfl,ae,bI8 hb hi (cT _ ad)<|cX _ w0⟩
    rw[aG];exact b9 hi (aJ hlen ac)
   .rw[a7 hc];refine⟨c,(0+(xs.length:Int)),p,rfl,ad,ad,hp,λr r0 r1=> ?_⟩
    simp only[d00 hi];rw[cM _ w0];refine⟨ad,?_,l,xs++[r%ws[xs.length]],_,by rw[bX];rfl,ae,bI8 hb hi (cT _ ad)<|cX _ w0⟩
    rw[aG];exact b9 hi (aJ hlen ac)
  .rintro ρ ⟨l,xs,kk,rfl,hl,hb⟩;left;exact h xs ⟨hl,hb⟩
 show(aS _ _:US) _ [!c,~~~.lst (ws.map .int),!p,none,none,none]
 refine(show dS4 10 18/\(if decide ((10:Int)^(18:Int).toNat<=c)=true then _ else _)from⟨cpl ac ac ac,?_⟩)
 split
 .exact⟨cpl ac ac ac,tail _⟩
 .exact tail _
theorem aC9 {d:D}{l:List D}:atI (d::l) 0=some d:=bP (j:=0) rfl
theorem dJ0 (xs:List Int)(lo hi:Option Int): ∃ys:List Int,cutD (xs.map .int) lo hi=ys.map .int:=by
 unfold cutD;refine⟨(xs.drop<|HT.sIx (xs.map D.int).length 0 lo).take<|HT.sIx (xs.map D.int).length (xs.map D.int).length hi-HT.sIx (xs.map D.int).length 0 lo,?_⟩;rw[kQ,a22]
theorem cF6 {ys:List Int}(h:i< (ys.map D.int).length): ∃z,(ys.map D.int).getD i .non= .int z:=by
 rw[aG]at h;exact⟨ys[i],by rw[aR,bJ,aU h];rfl⟩
theorem sC (k:Nat)(z:Int):(replicate k [D.int z]).flatten=(replicate k z).map .int:=by
 induction k with
 | zero=>rfl
 | succ k ih=>rw[kK,nT,ih,kK];rfl
def cS8:Φ:=λds Q=> ∃c n m p:Int,ds=[.int c,.int n,.int m,.int p]/\0<=n/\n<=500/\20<=m/\0<p/\ ∀r:Int,-m<=r->r<=m->Q (.pu<|.int r)
def cS9:US:=(aS (bF 4<|aQ nK<|a8 (aC 0)<|a8 (uOp eV (gA<|a8 @6 aN)<|uOp fG (gA<|a8 (uOp cD1 @10<|@8) aN)<|aC 1)<|a8 (aC 3) aN)<|aS (bF 5<|@0)<|aS (gP (dW<|uSl (aT 4) (lY<|@1) j4) (bO 6)<|bF 5<|uOp eV (uOp fG (aC 5)<|uOp cD1 @10<|@8)<|aC 6)<|aS (fS (cQ<|uOp (gJ false) (uIx (aT 4)<|@0)<|@0) (cW<|@0) dD)<|aS (fS (cQ<|uOp (gJ false) (uIx (aT 4)<|@0)<|@1) (cW<|uOp M.gSub (uOp jX (aC 5)<|@41)<|@20) dD)<|cW<|uOp M.gSub (uOp jX (aC 5)<|uOp eV (uOp fG @2<|aC 2)<|@1)<|aC 2)
theorem rd_far: Ra cS8 cS9 ["c","n","m","p","f","a","b"]:=by
 rintro ds Q ⟨c,n,m,p,rfl,n0,n1,hm,hp,h⟩;unfold cS9;show(aS _ _:US) _ [!c,!n,!m,!p,none,none,none];left;refine⟨ac,cpl ac ac ac,ac,⟨ad,ad,?_⟩,?_,?_⟩
 .show 1*n.toNat<=sizeLine
  have:n.toNat<=500:=ad
  exact aJ ad (show 500<=sizeLine by decide)
 .rw[sC,aG,nR];exact aJ (show 1+n.toNat<=501 by lia) ac
 refine⟨c,6::replicate n.toNat 100000000,p,by rw[sC];rfl,?_,hp,?_,λxs hx=> ?_⟩
 .rw[cY,nR];lia
 .intro w hw;rcases aZ.mp hw with rfl|hw
  .decide
  .rw[List.eq_of_mem_replicate hw];decide
 obtain⟨x0,r,rfl⟩: ∃x0 r,xs=x0::r:=by
  cases xs with
  | nil=>have:=hx.1;simp at this
  | cons a r=>exact⟨a,r,rfl⟩
 obtain⟨ys,hy⟩:=dJ0 (x0::r) (some 1) none;refine bB (ys.map D.int).length (λi=>(ys.map D.int).getD i .non) _ ?_
  (λi ρ=> ∃(f:Int) (kk:Option B),ρ=[!c,!n,!m,!p,↑((x0::r).map .int),!f,kk])
  ⟨0,none,rfl⟩ ?_ ?_
 .intro Q q;simp only[dW];left;rw[hy];exact q
 .rintro i ρ hi ⟨f,kk,rfl⟩;obtain⟨z,hz⟩:=cF6 hi;rw[hz];left;exact⟨ac,cpl ac ac ac,cmR ac ac,_,_,rfl⟩
 .rintro ρ ⟨f,kk,rfl⟩;left;simp only[bY,aC9];split
  .exact h 0 ad ad
  .split
   .rw[cM _ ac]
    refine⟨ac,h _ ?_ ?_⟩<;>lia
   .refine⟨cmL ac ac,ad,?_⟩
    rw[cM _ ad]
    have a1:=cT f (show(2*m+1)≠0 by lia)
    have a2:=cX f (show 0<2*m+1 by lia)
    exact h _ ad ad
def a44:Φ:=λds Q=> ∃(ns:List Int) (k:Int),ds=[.rol<|ns.map .int,.int k]/\ns.length<=63/\0<=k/\k<4294967296/\ ∀r:Int,Q (.pu<|.int r)
def c70:US:=(aS (fS (cQ<|uOp (gJ false) (kF<|aT 0)<|@0) (cW<|uOp fG @7919<|uOp eV (aC 1)<|@1) dD)<|aS (fS (cQ<|uOp (oX λi j=>decide (i<j)) (aC 1)<|kF<|aT 0) (cW<|uIx (aT 0)<|aC 1) dD)<|cW<|uOp eV (uIx (aT 0)<|uOp jX (aC 1)<|kF<|aT 0)<|uOp fG @104729<|aC 1)
theorem dJ1 {ns:List Int}{k:Int}(h0:0<=k)(h1:k<ns.length): ∃z,atI (ns.map D.int) k=some (.int z):=by
 obtain⟨i,rfl⟩: ∃i:Nat,k=(i:Int):=⟨k.toNat,ad⟩
 have hi:i<ns.length:=ad
 exact⟨ns[i],bP (by rw[bJ,aU hi];rfl)⟩
theorem dY1: Ra a44 c70 ["s","k"]:=by
 rintro ds Q ⟨ns,k,rfl,hl,k0,k1,h⟩;unfold c70;show(aS _ _:US) _ [~~~.rol (ns.map .int),!k];left;rw[aG];split
 .exact⟨cmL ac ac,h _⟩
 .split
  .obtain⟨z,hz⟩:=dJ1 (ns:=ns) k0 ad
   rw[hz];exact h z
  .refine⟨ad,?_⟩
   rw[cM _ ad]
   obtain⟨z,hz⟩:=dJ1 (ns:=ns) (k:=k%ns.length) (cT _ ad) (cX _ ad)
   rw[hz];exact⟨cmL ac ac,h _⟩
def aX5:Φ:=λds Q=> ∃i:Int,ds=[.int i]/\Q (.pu<|.bl true)
def bI9:US:=(cW<|cC6 (aQ cQ4<|a8 (aC 0)<|a8 (uC<|.ty "int") aN)<|cC7<|aQ cQ4<|a8 (aC 0)<|a8 (uC<|.ty "bool") aN)
theorem dJ2: Ra aX5 bI9 ["f"]:=by
 rintro ds Q ⟨i,rfl,h⟩;unfold bI9;show(cW _:US) _ [!i];left
 exists h
theorem xE:bootBuiltins "abs"=some (.builtin "abs"):=af
theorem bt_max:bootBuiltins "max"=some (.builtin "max"):=af
theorem bt_min:bootBuiltins "min"=some (.builtin "min"):=af
theorem rS:bootBuiltins "isinstance"=some (.builtin "isinstance"):=af
theorem c71:bootBuiltins "int"=some (.type "int"):=af
theorem dY2:bootBuiltins "bool"=some (.type "bool"):=af
theorem dB:bootBuiltins "tuple"=some (.type "tuple"):=af
theorem aX6:bootBuiltins "list"=some (.type "list"):=af
theorem dY3: ∀ds Q,bW7 ds Q->ds.length=1:=by rintro ds Q ⟨i,rfl,_⟩;rfl
theorem jS (t:UE)(D:UD)(ρ:Ev):cW t D ρ=t ρ (λb _=>D.rt b):=rfl
theorem dG (φ:Φ)(t:UA)(ρ:Ev)(Q:B->Ev->Prop):aQ φ t ρ Q=t ρ λds ρ1=>φ ds λb=>Q b ρ1:=rfl
theorem d4 (t:UE)(u:UA)(ρ:Ev)(Q:List D->Ev->Prop):a8 t u ρ Q=t ρ λx ρ1=>u ρ1 λxs ρ2=>Q (x.d::xs) ρ2:=rfl
theorem aM (t u:US)(D:UD)(ρ:Ev):aS t u D ρ=t {D with nx:=u D} ρ:=rfl
theorem iP (i:Nat)(t:UE)(D:UD)(ρ:Ev):bF i t D ρ=t ρ λb ρ1=>D.nx (ρ1.set i<|some b):=rfl
theorem dC (n:Nat)(it:Nat->D)(ρ1:Ev)(hui: ∀Q:Nat->(Nat->D)->Ev->Prop,Q n it ρ1->ui ρ Q)(hn:n<=1000000)
  (G:Option B->List D->Ev) (x0:Option B) (h0:pP (xC ρ1 js) cap last=G x0 []) (h1: ∀x l b,(G x l).set t0 (some b)=G (some b) l) (h1': ∀x l,t0< (G x l).length) (h2: ∀x l (Q:List D->Prop),Q l->lH (G x l) last Q) (h3: ∀x l l',(G x l).set last (↑l')=G x l')
  (f:Nat->D) (hte: ∀i l (Q':B->Ev->Prop),i<n->Q' (.pu<|f i) (G (~~~it i) l)->te (G (~~~it i) l) Q') (hq:Q (.ow<|(List.range n).map f) (xC ρ1 js)) :
  dF js cap last ui (bO t0) (λρ Q=>Q true ρ) te ρ Q:=by
 refine hui _ ⟨λi ρ'=> ∃x,ρ'=G x ((List.range i).map f),⟨x0,h0⟩,?_,?_⟩
 .rintro i ρ' hi ⟨x,rfl⟩;refine⟨h1' _ _,?_⟩;rw[h1];right;rw[a9 rfl];refine hte i _ _ hi (h2 _ _ _ ⟨?_,~~~it i,?_⟩)
  .rw[aG,jH];exact b9 hi (aJ hn ac)
  .rw[h3,cI,bX];rfl
 .rintro ρ' ⟨x,rfl⟩;exact h2 _ _ _ hq
nonrec def aI (r:List Int):D:= .tup (r.map .int)
nonrec def cF7 (t:List (List Int)):D:= .tup (t.map aI)
theorem c72 (l:List D)(i:Nat)(h:i<=l.length):cutD l none (some (i:Int))=l.take i:=by
 unfold cutD;rw[HT.sIx_none,HT.sIx_nat,iF h];simp
theorem aX7 (l:List D)(i:Nat)(h:i<=l.length):cutD l (some (i:Int)) none=l.drop i:=by
 unfold cutD;rw[HT.sIx_none,HT.sIx_nat,iF h];rw[List.take_of_length_le (by rw[a11];exact aH _)]
def a45:Φ:=λds Q=> ∃(t:List (List Int)) (i:Nat),ds=[cF7 t,.int (i:Int)]/\i<t.length/\2<=t.length/\t.length<=1000/\(∀r∈t,1<=r.length)/\Q (.pu<|cF7<|(t.eraseIdx i).map List.tail)
def a46:US:=(cW<|aQ cF<|a8 (dF [] [none,none] 1 (dW<|uOp eV (uSl (aT 0) j4<|lY<|aC 1)<|uSl (aT 0) (lY<|uOp eV (aC 1)<|@1) j4) (bO 0) (λρ Q=>Q true ρ)<|uSl (aT 0) (lY<|@1) j4) aN)
theorem cF8 {t:List (List Int)}(hi:i<t.length):cutD (t.map aI) none (some (i:Int))++cutD (t.map aI) (some<|(i:Int)+1) none=(t.eraseIdx i).map aI:=by
 have hl:(t.map aI).length=t.length:=aG _;have e1:cutD (t.map aI) none (some (i:Int))=(t.take i).map aI:=by rw[c72 _ _ ad,kQ]
 have e2:cutD (t.map aI) (some<|(i:Int)+1) none=(t.drop<|i+1).map aI:=by
  have:=aX7 (t.map aI) (i+1) ad
  rw[a22]
  exact_mod_cast this
 rw[e1,e2,<-bX,<-List.eraseIdx_eq_take_drop_succ]
theorem bJ0 {t:List (List Int)}(hi:i<t.length)(h1000:t.length<=1000)(hr: ∀r∈t,1<=r.length)(hui: ∀Q':Nat->(Nat->D)->Ev->Prop,Q' ((t.eraseIdx i).map aI).length (λk=>((t.eraseIdx i).map aI).getD k .non) ρ->ui ρ Q')(h:Q (.ow<|((t.eraseIdx i).map List.tail).map aI) ρ) :
  dF [] [none,none] 1 ui (bO 0) (λρ Q=>Q true ρ) (uSl (aT 0) (lY<|@1) j4) ρ Q:=by
 have le:(t.eraseIdx i).length=t.length-1:=zT hi;refine dC (t0:=0) ((t.eraseIdx i).map aI).length (λk=>((t.eraseIdx i).map aI).getD k .non) ρ hui (by rw[aG];lia)
  (λx l=>[x,↑l]) none rfl (λ_ _ _=>rfl) (λ_ _=>bW _) (λ_ _ _ q=>q) (λ_ _ _=>rfl) (λk=>aI (((t.eraseIdx i).getD k []).tail)) ?_ ?_
 .intro k l Q' hk q;rw[aG]at hk;have ek:((t.eraseIdx i).map aI).getD k .non=aI ((t.eraseIdx i).getD k []):=by
   rw[aR,aR,bJ,aU hk];rfl
  have hm:1<=((t.eraseIdx i).getD k []).length:=by
   rw[aR,aU hk];exact hr _ (aN8<|cS hk)
  rw[ek]at q⊢;generalize (t.eraseIdx i).getD k []=r at hm q;simp only[aI]at q⊢;left;have lr:(r.map D.int).length=r.length:=aG _;have ec:cutD (r.map D.int) (some 1) none=r.tail.map D.int:=by
   have:=aX7 (r.map D.int) 1 ad
   rw[show((1:Nat):Int)=1 from rfl]at this
   rw[this,<-a22,List.drop_one]
  refine⟨?_,by rw[ec];exact q⟩
  rw[lr];have:HT.sIx r.length 0 (some 1)=min 1 r.length:=HT.sIx_nat r.length 0 1;rw[this];lia
 .have em:(List.range ((t.eraseIdx i).map aI).length).map (λk=>aI (((t.eraseIdx i).getD k []).tail))=((t.eraseIdx i).map List.tail).map aI:=by
   rw[aG];apply lP
   .simp
   .intro k h1 h2;simp at h1;simp[h1,aR]
  rw[em];exact h
theorem c73: Ra a45 a46 ["t","i"]:=by
 rintro ds Q ⟨t,i,rfl,hi,h2,h1000,hr,h⟩;unfold a46;show(cW _:US) _ [~~~cF7 t,!(i:Int)];have hl:(t.map aI).length=t.length:=aG _;rw[jS,dG,d4];refine bJ0 hi h1000 hr (λQ' q=> ?_) ?_
 .simp only[dW,cF7];left;rw[<-bV,cF8 hi];refine⟨?_,?_,aJ (show _<=2000 by rw[aG,zT hi];lia) ac,q⟩
  .rw[hl,HT.sIx_none,HT.sIx_nat];lia
  .rw[hl,HT.sIx_none];have:HT.sIx t.length 0 (some<|(i:Int)+1)=min (i+1) t.length:=by exact_mod_cast HT.sIx_nat t.length 0 (i+1)
   rw[this];lia
 .left
  exact h
nonrec def nL:Nat->List (List Int)->Int
 | 0,_=>0
 | n+1,t=>if t.length=1 then(t.getD 0 []).getD 0 0 else((List.range t.length).map λi=>(if i%2=0 then 1 else -1)*(t.getD i []).getD 0 0*nL n ((t.eraseIdx i).map List.tail)).sum
structure Sq (n:Nat)(t:List (List Int)):Prop where
 pos:1<=t.length
 le:t.length<=n
 row: ∀r∈t,r.length=t.length
 small: ∀r∈t,∀x∈r,x.natAbs<2^2000
def gB (n:Nat):Φ:=λds Q=> ∃t:List (List Int),ds=[cF7 t]/\Sq n t/\Q (.pu<|.int<|nL n t)
def bJ1 (gB:Φ):US:=(aS (fS (cQ<|uOp (gJ false) (kF<|aT 0)<|@1) (cW<|uIx (uV<|uIx (aT 0)<|@0)<|@0) dD)<|aS (bF 1<|@0)<|aS (bF 2<|@1)<|aS (gP (fX<|a8 (kF<|aT 0) aN) (bO 3)<|aS (cC9 1 (gI2 λi j Q=>Q (.pu<|.int<|i+j))<|uOp fG (uOp fG (aC 2)<|uIx (uV<|uIx (aT 0)<|aC 3)<|@0)<|aQ gB<|a8 (aQ a45<|a8 (aC 0)<|a8 (aC 3) aN) aN)<|bF 2<|lZ<|aC 2)<|oK 1)
theorem aJ3 (n:Nat): ∀ds Q,gB n ds Q->ds.length=1:=by rintro ds Q ⟨a,rfl,_⟩;rfl
theorem Sq.less {t:List (List Int)}(h:Sq (n+1) t)(h2:t.length≠1)(hi:i<t.length):Sq n ((t.eraseIdx i).map List.tail):=by
 have le:(t.eraseIdx i).length=t.length-1:=zT hi;have hp:=h.pos;have hl:=h.le;refine⟨by rw[aG];lia,by rw[aG];lia,λr hr=> ?_,λr hr x hx=> ?_⟩
 .obtain⟨r',hr',rfl⟩:=dL.mp hr;rw[aG,List.length_tail,h.row r'<|aN8 hr',le]
 .obtain⟨r',hr',rfl⟩:=dL.mp hr;exact h.small r' (aN8 hr') x (List.mem_of_mem_tail hx)
theorem b49 (f:∅)(b:Nat): ∀n:Nat,(∀i,i<n->(f i).natAbs<=b)->(((List.range n).map f).sum).natAbs<=n*b
 | 0,_=>ae
 | n+1,h=>by
  rw[cI,bX,aR8];have h1:=b49 f b n λi hi=>h i (lN hi)
  have h2:=h n (qK n);have h3:((List.map f [n]).sum)=f n:=ae
  rw[h3,Nat.succ_mul];omega
theorem b50: ∀(n:Nat) (t:List (List Int)),n<=4->Sq n t->(nL n t).natAbs<=2^(2010*n)
 | 0,t,_,h=>by have:=h.pos;have:=h.le;lia
 | n+1,t,hn,h=>by
  have entry: ∀i,i<t.length->((t.getD i []).getD 0 0).natAbs<=2^2000:=λi hi=>by
   have eg:t.getD i []=t[i]:=by rw[aR,aU hi];rfl
   rw[eg];have hr:=h.row _ (cS hi);have hp:=h.pos;have h0:0< (t[i]).length:=ad
   rw[aR,aU h0];exact jK (h.small _ (cS hi) _<|cS h0)
  unfold nL;split
  .have:=entry 0 (by have:=h.pos;lia)
   exact aJ this (eQ ac ad)
  .rename_i h1
   refine aJ (b49 _ (2^2000*2^(2010*n)) _ λi hi=> ?_) ?_
   .rw[eT,eT];have e1:(if i%2=0 then(1:Int)else -1).natAbs=1:=by split<;>rfl
    rw[e1,uM];exact gF (entry i hi) (b50 n _ ad<|h.less h1 hi)
   .have hl:=h.le;have e:2^(2010*(n+1))=2^10*(2^2000*2^(2010*n)):=by
     rw[<-iI,<-iI];congr 1;lia
    rw[e];exact a03 _ ad
theorem Sm.pow {i:Int}(h:i.natAbs<=2^k)(hk:k<9000):Sm i:=iC h (aP4 ac hk)
theorem bE8 {t:List (List Int)}(h:i<t.length):atI (t.map aI) (0+(i:Int))=some (aI<|t.getD i []):=by
 rw[cK];refine bP ?_;rw[bJ,aU h,aR,aU h];rfl
theorem aD0 {r:List Int}(h:0<r.length):atI (r.map D.int) 0=some (.int<|r.getD 0 0):=by
 refine bP (j:=0) ?_
 rw[bJ,aU h,aR,aU h];rfl
theorem aX8 (n:Nat)(hn:n<4): ∀ds Q,gB (n+1) ds Q->bJ1 (gB n) {Q with} (init ["t","o","s","i"] ds):=by
 rintro ds Q ⟨t,rfl,sq,h⟩;have hp:=sq.pos;have hle:=sq.le;have lt:(t.map aI).length=t.length:=aG _;have lrow: ∀i,i<t.length->0< (t.getD i []).length:=λi hi=>by
  rw[aR,aU hi];have:=sq.row _ (cS hi);show 0< (t[i]).length
  lia
 unfold bJ1;show(aS _ _:US) _ [~~~.tup (t.map aI),none,none,none];left;rw[lt];split
 .rename_i h1
  have h1':t.length=1:=ad
  have:=bE8 (t:=t) (i:=0) ad
  rw[show(0:Int)+((0:Nat):Int)=0 from rfl]at this
  rw[this];simp only[aI];rw[aD0<|lrow 0 ad]
  unfold nL at h;rw[a9 h1']at h;exact h
 .rename_i h1
  have h1':t.length≠1:=ad
  unfold nL at h;rw[a7 h1']at h;refine bB t.length (λi=> .int (0+i)) [~~~.tup (t.map aI),!0,!1,none] ?_ (λi ρ=> ∃x,ρ=[~~~.tup (t.map aI),some<|.pu<|.int ((List.range i).map λi=>(if i%2=0 then 1 else -1)*(t.getD i []).getD 0 0*nL n ((t.eraseIdx i).map List.tail)).sum,!if i%2=0 then 1 else -1,x]) ?_ ?_ ?_
  .intro Q' q;simp only[fX];left;rw[lt];refine⟨⟨ad,ad⟩,?_⟩
   rw[cD];exact q
  .exact⟨none,rfl⟩
  .rintro i ρ hi ⟨x,rfl⟩;left;refine⟨ac,?_⟩
   rw[bE8 hi];simp only[aI];rw[aD0<|lrow i hi];have sg:Sm (if i%2=0 then(1:Int)else -1):=by split<;>exact bI7 ac ac
   have eg:t.getD i []=t[i]:=by rw[aR,aU hi];rfl
   have en:((t.getD i []).getD 0 0).natAbs<=2^2000:=by
    have h0:=lrow i hi;rw[eg]at h0⊢;rw[aR,aU h0];exact jK (sq.small _ (cS hi) _<|cS h0)
   have se:Sm ((t.getD i []).getD 0 0):=Sm.pow en ac
   refine⟨.inr ⟨sg,se⟩,t,i,by rw[cK];rfl,hi,ad,ad,λr hr=>by rw[sq.row r hr];exact hp,?_⟩
   refine⟨_,rfl,sq.less h1' hi,?_⟩
   have sd:Sm (nL n<|(t.eraseIdx i).map List.tail):=Sm.pow (b50 n _ ad<|sq.less h1' hi) ad
   have sp:Sm ((if i%2=0 then(1:Int)else -1)*(t.getD i []).getD 0 0):=by
    refine Sm.pow (k:=2000) ?_ ac
    rw[eT];have e1:(if i%2=0 then(1:Int)else -1).natAbs=1:=by split<;>rfl
    rw[e1,uM];exact en
   left
   refine⟨.inr ⟨sp,sd⟩,!(0+(i:Int)),?_⟩
   have e2: -(if i%2=0 then(1:Int)else -1)=(if(i+1)%2=0 then 1 else -1):=by
    by_cases q:i%2=0
    .rw[a9 q,a7 ad]
    .rw[a7 q,a9 ad];rfl
   rw[e2,cI,bX,aR8];simp
  .rintro ρ ⟨x,rfl⟩;left;exact h
nonrec def mD (p:List Int)(k:Nat)(sums:List Int):Int:=
 -(((List.range<|min (k-1)<|p.length-1).map λi=>p.getD (p.length-1-(i+1)) 0*sums.getD (k-(i+1)) 0).sum+(if k<=p.length-1 then(k:Int)*p.getD (p.length-1-k) 0 else 0))
nonrec def eW (p:List Int):Nat->List Int
 | 0=>[((p.length-1:Nat):Int)]
 | k+1=>eW p k++[mD p (k+1)<|eW p k]
theorem v7 (p:List Int): ∀k,(eW p k).length=k+1
 | 0=>rfl
 | k+1=>by unfold eW;rw[bV,v7 p k];rfl
structure bE9 (p:List Int):Prop where
 lo:3<=p.length
 hi:p.length<=5
 small: ∀x∈p,x.natAbs<=499
theorem eX {b:Nat}(h: ∀x∈l,x.natAbs<=b)(i:Nat):(l.getD i 0).natAbs<=b:=by
 rw[aR];cases e:l[i]? with
 | none=>exact dM _
 | some x=>exact h x (aO9 e)
theorem a47 {p:List Int}(hp:bE9 p): ∀k,k<=6-> ∀x∈eW p k,x.natAbs<=2^(15*k+3)
 | 0,_,x,hx=>by
  have:=hp.hi;have e:x=((p.length-1:Nat):Int):=by simpa[eW]using hx
  rw[e,Int.natAbs_natCast];have:(2:Nat)^(15*0+3)=8:=rfl;omega
 | k+1,hk,x,hx=>by
  have ih:=a47 hp k aa
  have ep:(2:Nat)^(15*(k+1)+3)=32768*2^(15*k+3):=by
   rw[show 15*(k+1)+3=15+(15*k+3)by omega,iI]
  have hb:8<=2^(15*k+3):=by
   rw[iI];have:1<=2^(15*k):=Nat.one_le_two_pow;omega
  unfold eW at hx;rcases dI.mp hx with hx|hx
  .have:=ih x hx;omega
  .have e:x=mD p (k+1) (eW p k):=by exists hx
   rw[e];unfold mD;rw[natAbs_neg];have hl:=hp.hi;have s1:=b49 (λi=>p.getD (p.length-1-(i+1)) 0*(eW p k).getD (k+1-(i+1)) 0) (499*2^(15*k+3)) (min (k+1-1)<|p.length-1) λi _=>by
    rw[eT];exact gF (eX hp.small _) (eX ih _)
   have s2:(if k+1<=p.length-1 then((k+1:Nat):Int)*p.getD (p.length-1-(k+1)) 0 else 0).natAbs<=4*499:=by
    split
    .rw[eT,Int.natAbs_natCast];exact gF aa (eX hp.small _)
    .exact dM _
   have s3:min (k+1-1) (p.length-1)*(499*2^(15*k+3))<=4*(499*2^(15*k+3)):=a03 _ aa
   have s4:=a09 (((List.range<|min (k+1-1)<|p.length-1).map λi=>p.getD (p.length-1-(i+1)) 0*(eW p k).getD (k+1-(i+1)) 0).sum) (if k+1<=p.length-1 then((k+1:Nat):Int)*p.getD (p.length-1-(k+1)) 0 else 0)
   omega
def v8:Φ:=λds Q=> ∃(p:List Int) (m:Nat),ds=[aI p,.int (m:Int)]/\bE9 p/\1<=m/\m<=7/\Q (.ow<|(eW p<|m-1).map .int)
def v9:US:=(aS (bF 2<|uOp M.gSub (kF<|aT 0)<|@1)<|aS (bF 3<|gA<|a8 (aC 2) aN)<|aS (gP (bG8<|a8 @1<|a8 (aC 1) aN) (bO 4)<|aS (bF 5<|aQ gSum<|a8 (dF [2,4] [none,some 0,some 2,some 3,some 4,none] 5 (bG8<|a8 @1<|a8 (uOp eV (aQ gMin<|a8 (uOp M.gSub (aC 4)<|@1)<|a8 (aC 2) aN)<|@1) aN) (bO 0) (λρ Q=>Q true ρ)<|uOp fG (uIx (aT 1)<|uOp M.gSub (aC 2)<|aC 0)<|uIx (aT 3)<|uOp M.gSub (aC 4)<|aC 0) aN)<|aS (fS (cQ<|uOp (oX λi j=>decide (i<=j)) (aC 4)<|aC 2) (cC9 5 (gI2 λi j Q=>Q (.pu<|.int<|i+j))<|uOp fG (aC 4)<|uIx (aT 0)<|uOp M.gSub (aC 2)<|aC 4) dD)<|aK9 3<|lZ<|aC 5)<|oK 3)
theorem aD1 {ns:List Int}(h:k<ns.length):atI (ns.map D.int) (k:Int)=some (.int<|ns.getD k 0):=by
 refine bP ?_
 rw[bJ,aU h,aR,aU h];rfl
theorem bJ2: Ra v8 v9 ["p","m","n","s","k","t"]:=by
 rintro ds Q ⟨p,m,rfl,hp,m1,m7,h⟩;have hlo:=hp.lo;have hhi:=hp.hi;have lp:(p.map D.int).length=p.length:=aG _;unfold v9;show(aS _ _:US) _ [~~~.tup (p.map .int),!(m:Int),none,none,none,none];rw[aM,iP];left;rw[lp];refine⟨ac,?_⟩
 have en:(p.length:Int)-1=((p.length-1:Nat):Int):=ad
 rw[en];refine bB (m-1) (λi=> .int (1+i)) _ ?_
  (λi ρ=> ∃x4 x5,ρ=[~~~.tup (p.map .int),!(m:Int),!((p.length-1:Nat):Int),↑((eW p i).map .int),x4,x5]) ⟨none,none,rfl⟩ ?_ ?_
 .intro Q' q;simp only[bG8];left;refine⟨ad,?_⟩
  rw[show((m:Int)-1).toNat=m-1 by lia]
  exact q
 .rintro i ρ hi ⟨x4,x5,rfl⟩;have bn:=a47 hp i ad
  refine⟨by show 4<6;decide,?_⟩
  dsimp only[set_cons_succ,set_cons_zero];rw[aM,iP,dG,d4];refine dC (t0:=0) (min i<|p.length-1) (λj=> .int (1+j)) [~~~.tup (p.map .int),!(m:Int),!((p.length-1:Nat):Int),↑((eW p i).map .int),!(1+(i:Int)),x5] ?_ ad
   (λx l=>[x,~~~.tup (p.map .int),!((p.length-1:Nat):Int),some<|.bo<|(eW p i).map .int,!(1+(i:Int)),↑l]) none rfl (λ_ _ _=>rfl) (λ_ _=>bW _) (λ_ _ _ q=>q) (λ_ _ _=>rfl)
   (λj=> .int (p.getD (p.length-1-(j+1)) 0*(eW p i).getD (i+1-(j+1)) 0)) ?_ ?_
  .intro Q' q;simp only[bG8];left;have e:(if((p.length-1:Nat):Int)<1+(i:Int)-1 then((p.length-1:Nat):Int)else 1+(i:Int)-1)=((min i (p.length-1):Nat):Int):=by split<;>lia
   rw[e];refine⟨ad,?_⟩
   rw[show(((min i (p.length-1):Nat):Int)+1-1).toNat=min i (p.length-1)by lia]
   exact q
  .intro j l Q' hj q;have hj1:j<i:=ad
   have hj2:j<p.length-1:=ad
   left
   rw[show((p.length-1:Nat):Int)-(1+(j:Int))=((p.length-1-(j+1):Nat):Int)by lia,show 1+(i:Int)-(1+(j:Int))=((i+1-(j+1):Nat):Int)by lia]
   rw[aD1 ad,aD1 (by rw[v7];lia)]
   exact⟨.inr ⟨Sm.pow (k:=9) (aJ (eX hp.small _) ac) ac,Sm.pow (eX bn _) ad⟩,q⟩
  .have es:((List.range<|min i<|p.length-1).map λj=>D.int (p.getD (p.length-1-(j+1)) 0*(eW p i).getD (i+1-(j+1)) 0))=((List.range<|min i<|p.length-1).map λj=>p.getD (p.length-1-(j+1)) 0*(eW p i).getD (i+1-(j+1)) 0).map D.int:=by
    rw[gH];rfl
   rw[es];generalize hT:((List.range<|min i<|p.length-1).map λj=>p.getD (p.length-1-(j+1)) 0*(eW p i).getD (i+1-(j+1)) 0)=T
   left
   rw[bX1];right;have last: ∀z:Int,z= -(mD p (i+1)<|eW p i)->(eW p i).map D.int++[D.int<|-z]=(eW p<|i+1).map D.int:=λz hz=>by
    rw[hz]
    conv=>rhs;unfold eW
    rw[bX];simp
   have lz:((eW p i).map D.int).length<sizeLine:=by
    rw[aG,v7];exact b9 (show _<100 by lia) ac
   by_cases hk:i+1<=p.length-1
   .rw[a9 ad]
    rw[show((p.length-1:Nat):Int)-(1+(i:Int))=((p.length-1-(i+1):Nat):Int)by lia,aD1 ad]
    have hz1:T.sum+(1+(i:Int))*p.getD (p.length-1-(i+1)) 0= -(mD p (i+1)<|eW p i):=by
     unfold mD;rw[Int.neg_neg,a9 hk,<-hT];rw[show i+1-1=i from rfl,show((i+1:Nat):Int)=1+(i:Int)by lia]
    right;rw[last _ hz1];exact⟨.inr ⟨bI7 ad ad,Sm.pow (k:=9) (aJ (eX hp.small _) ac) ac⟩,lz,_,_,rfl⟩
   .rw[a7 ad]
    have hz1:T.sum= -(mD p (i+1)<|eW p i):=by
     unfold mD;rw[Int.neg_neg,a7 hk,<-hT,iG];rfl
    rw[last _ hz1];exact⟨lz,_,_,rfl⟩
 .rintro ρ ⟨x4,x5,rfl⟩;left;exact h
theorem cT0: ∀ds Q,¬gB 0 ds Q:=by
 rintro ds Q ⟨t,rfl,sq,_⟩;have:=sq.pos;have:=sq.le;omega
theorem aS5 {t1:Nat}(n:Nat)(i1 i2:Nat->D)(ρ1:Ev)(hui: ∀Q:Nat->(Nat->D)->Ev->Prop,Q n (λi=> .tup [i1 i,i2 i]) ρ1->ui ρ Q)(hn:n<=1000000)
  (G:Option B->Option B->List D->Ev) (x0 y0:Option B) (h0:pP (xC ρ1 js) cap last=G x0 y0 []) (h1: ∀x y l b c,((G x y l).set t0<|some b).set t1 (some c)=G (some b) (some c) l) (h1': ∀x y l,t0< (G x y l).length/\t1< (G x y l).length)
  (h2: ∀x y l (Q:List D->Prop),Q l->lH (G x y l) last Q) (h3: ∀x y l l',(G x y l).set last (↑l')=G x y l')
  (f:Nat->D) (hte: ∀i l (Q':B->Ev->Prop),i<n->Q' (.pu<|f i) (G (~~~i1 i) (~~~i2 i) l)->te (G (~~~i1 i) (~~~i2 i) l) Q') (hq:Q (.ow<|(List.range n).map f) (xC ρ1 js)) :
  dF js cap last ui (tI<|fP t0<|fP t1 tH) (λρ Q=>Q true ρ) te ρ Q:=by
 refine hui _ ⟨λi ρ'=> ∃x y,ρ'=G x y ((List.range i).map f),⟨x0,y0,h0⟩,?_,?_⟩
 .rintro i ρ' hi ⟨x,y,rfl⟩;refine⟨(h1' _ _ _).1,by rw[eH];exact(h1' _ _ _).2,rfl,?_⟩
  rw[h1];right;rw[a9 rfl];refine hte i _ _ hi (h2 _ _ _ _ ⟨?_,~~~i1 i,~~~i2 i,?_⟩)
  .rw[aG,jH];exact b9 hi (aJ hn ac)
  .rw[h3,cI,bX];rfl
 .rintro ρ' ⟨x,y,rfl⟩;exact h2 _ _ _ _ hq
nonrec def rwF (n:Nat)(f:∅):List Int:=(List.range n).map f
theorem wG (n:Nat)(f:∅):(rwF n f).length=n:=by simp[rwF]
theorem dY4 (h:i<n):(rwF n f)[i]? =some (f i):=by simp[rwF,h]
theorem bE (n:Nat)(f:∅):((rwF n f).map D.int).length=n:=by simp[rwF]
theorem nM (h:i<n):((rwF n f).map D.int)[i]? =some (.int<|f i):=by simp[rwF,h]
theorem iK (h:i<n):((rwF n f).map D.int).getD i .non= .int (f i):=by rw[aR,nM h];rfl
theorem hV (h:i<n):atI ((rwF n f).map D.int) (i:Int)=some (.int<|f i):=bP (nM h)
theorem wH {j:Nat}(h:j<n):((rwF n f).map D.int).set j (.int v)=(rwF n λx=>if x=j then v else f x).map D.int:=by
 apply uE
 intro k
 by_cases hk:k<n
 .rw[nM hk]
  by_cases e:j=k
  .subst e;rw[iJ (by rw[bE];exact hk),a9 rfl]
  .rw[get_set_ne e,nM hk,a7 λz=>e z.symm]
 .rw[fT (by rw[eH,bE];omega),fT (by rw[bE];omega)]
theorem jY {g:∅}(h: ∀i,i<n->f i=g i):rwF n f=rwF n g:=by
 unfold rwF;apply uB;intro i hi;exact h i (eI.mp hi)
theorem aS6 (r:List Int):r=rwF r.length (λj=>r.getD j 0):=by
 apply uE
 intro k
 by_cases hk:k<r.length
 .rw[dY4 hk,aU hk,aR,aU hk];rfl
 .rw[fT aa,fT (by rw[wG];omega)]
theorem kX (n:Nat)(f:∅):(List.range n).map (λk=>D.int (f k))=(rwF n f).map D.int:=by
 unfold rwF;rw[gH];rfl
nonrec def tbF (n m:Nat)(t:Nat->∅):List D:=(List.range n).map λi=>aI (rwF m<|t i)
theorem tO (n m:Nat)(t:Nat->∅):(tbF n m t).length=n:=by simp[tbF]
theorem c74 (h:i<n):(tbF n m t)[i]? =some (aI<|rwF m<|t i):=by simp[tbF,h]
theorem bJ3 (h:i<n):atI (tbF n m t) (i:Int)=some (aI<|rwF m<|t i):=bP (c74 h)
theorem bJ4 (n m:Nat)(t:Nat->∅)(f:∅):tbF n m t++[aI<|rwF m f]=tbF (n+1) m (λi=>if i=n then f else t i):=by
 unfold tbF;rw[cI,bX]
 congr 1
 .apply uB
  intro i hi;have:=eI.mp hi;show _=aI (rwF m<|if i=n then f else t i);rw[a7 aa]
 .simp
theorem bJ5 (h:i<n):ixN n (i:Int)=some i:=by
 unfold ixN;have h2:(i:Int)< (n:Int):=aa
 simp[h,h2]
theorem aX9 (t:UE)(ρ:Ev)(Q:Bool->Ev->Prop):cQ t ρ Q=t ρ (isB Q):=rfl
theorem aD2 (g:D->D->(B->Prop)->Prop)(ta tb:UE)(ρ:Ev)(Q:B->Ev->Prop):uOp g ta tb ρ Q=ta ρ λx ρ1=>tb ρ1 λy ρ2=>g x.d y.d λb=>Q b ρ2:=rfl
theorem aJ4 (c:UT)(t u:US)(E:UD)(ρ:Ev):fS c t u E ρ=c ρ λb ρ1=>if b=true then t E ρ1 else u E ρ1:=rfl
theorem c75 {d:D}(h:ρ[i]? =some (~~~d)):aC i ρ Q=Q (.pu d) ρ:=by unfold aC aB2;rw[h]
theorem dY5 {l:List D}(h:ρ[i]? =some (↑l)):aC i ρ Q=Q (.pu<|.lst l) (ρ.set i<|~~~.lst l):=by unfold aC aB2;rw[h]
theorem cF9: ∀r:List Int,pdL (r.map D.int)=some (r.map PyData.int)
 | []=>by simp[pdL]
 | a::r=>by simp[pdL,pd,cF9 r]
theorem cT1 (r:List Int):pd (aI r)=some (.tuple<|r.map .int):=by simp[aI,pd,cF9]
theorem bJ6: ∀r:List Int,PyData.depthAll (r.map PyData.int)=0
 | []=>by simp[PyData.depthAll]
 | a::r=>by simp[PyData.depthAll,PyData.depth,bJ6 r]
theorem dY6 (r:List Int):(PyData.tuple<|r.map .int).depth<=60:=by simp[PyData.depth,bJ6]
theorem d01 (a b:List Int):(PyData.tuple<|a.map .int).eqv (.tuple<|b.map .int)=decide (a=b):=by simp only[PyData.eqv];exact PySem.W.ked_eqvAll a b
theorem cG0 {neg:Bool}{a b:List Int}{Q:B->Prop}(h:Q (.pu<|.bl<|neg ^^ decide (a=b))):c56 neg (aI a) (aI b) Q:=⟨_,_,cT1 a,cT1 b,dY6 a,by rw[d01];exact h⟩
inductive Gen (n:Nat) (R:∅->Prop):∅->Prop
 | base {r:∅}:R r->Gen n R r
 | zero:Gen n R λ_=>0
 | comb {a b:∅} (k:Int):Gen n R a->Gen n R b->Gen n R λj=>a j+k*b j
 | cong {a b:∅}:Gen n R a->(∀j,j<n->a j=b j)->Gen n R b
theorem Gen.mono {R S:∅->Prop}(h: ∀r,R r->Gen n S r): ∀{v:∅},Gen n R v->Gen n S v:=by
 intro v hv
 induction hv with
 | base h1=>exact h _ h1
 | zero=>exact .zero
 | comb k _ _ i1 i2=>exact .comb k i1 i2
 | cong _ h1 i1=>exact .cong i1 h1
theorem Gen.sub {R:∅->Prop}{a b:∅}(h:Gen n R a)(h2:Gen n R b):Gen n R λj=>a j-b j:=(Gen.comb (-1) h h2).cong λj _=>ad
def Rows (n:Nat)(t:Nat->∅)(v:∅):Prop:= ∃i,i<n/\v=t i
nonrec def a48 (t:Nat->∅)(c:∅):Nat->∅
 | 0,_=>0
 | i+1,j=>a48 t c i j+c i*t i j
theorem bY3 (t:Nat->∅)(a b:∅)(k:Int): ∀n j,a48 t (λi=>a i+k*b i) n j=a48 t a n j+k*a48 t b n j
 | 0,_=>by show(0:Int)=0+k*0;lia
 | n+1,j=>by
  show a48 t _ n j+(a n+k*b n)*t n j=a48 t a n j+a n*t n j+k*(a48 t b n j+b n*t n j)
  rw[bY3 t a b k n j]
  grind
theorem bY4 (t:Nat->∅): ∀n j,a48 t (λ_=>0) n j=0
 | 0,_=>rfl
 | n+1,j=>by show a48 t _ n j+0*t n j=0;rw[bY4 t n j];lia
theorem cG1 (t:Nat->∅)(i:Nat): ∀n j,a48 t (λl=>if l=i then 1 else 0) n j=if i<n then t i j else 0
 | 0,_=>by rw[a7 ad];rfl
 | n+1,j=>by
  show a48 t _ n j+(if n=i then 1 else 0)*t n j=_
  rw[cG1 t i n j]
  by_cases h:n=i
  .subst h;rw[a7 ad,a9 rfl,a9 ad]
   lia
  .rw[a7 h]
   by_cases h2:i<n
   .rw[a9 h2,a9 ad];lia
   .rw[a7 h2,a7 ad];lia
theorem Gen.sum {v:∅}(h:Gen n (Rows k t) v): ∃c:∅,∀j,j<n->v j=a48 t c k j:=by
 induction h with
 | base h=>
  obtain⟨i,hi,rfl⟩:=h;exact⟨_,λj _=>by rw[cG1,a9 hi]⟩
 | zero=>exact⟨_,λj _=>(bY4 t k j).symm⟩
 | comb q _ _ i1 i2=>
  obtain⟨a,ha⟩:=i1;obtain⟨b,hb⟩:=i2;exact⟨λi=>a i+q*b i,λj hj=>by rw[bY3,<-ha j hj,<-hb j hj]⟩
 | cong _ h1 i1=>
  obtain⟨a,ha⟩:=i1;exact⟨a,λj hj=>by rw[<-h1 j hj,ha j hj]⟩
structure Tri (n:Nat)(t:Nat->∅):Prop where
 pos: ∀i,i<n->1<=t i i
 zero: ∀i,i<n-> ∀j,i<j->t i j=0
theorem bJ7 {n:Nat}{t:Nat->∅}(T:Tri n t)(c:∅): ∀k j,k<=n->k<=j->a48 t c k j=0
 | 0,_,_,_=>rfl
 | k+1,j,hk,hj=>by
  show a48 t c k j+c k*t k j=0
  rw[bJ7 T c k j ad ad,T.zero k ad j ad]
  lia
theorem Tri.cut {n:Nat}{t:Nat->∅}(T:Tri n t){v c:∅}: ∀(d k i:Nat),k-i=d->k<=n->i<=k->(∀j,j<n->v j=a48 t c k j)->(∀j,i<=j->j<n->v j=0)-> ∀j,j<n->v j=a48 t c i j
 | 0,k,i,hd,hk,hi,h,_=>by
  have:k=i:=ad
  subst this;exact h
 | d+1,k,i,hd,hk,hi,h,hz=>by
  obtain⟨k',rfl⟩: ∃k',k=k'+1:=⟨k-1,ad⟩
  have e:=h k' ad
  rw[hz k' ad ad]at e
  have e2:(0:Int)=a48 t c k' k'+c k'*t k' k':=e;rw[bJ7 T c k' k' ad<|aH _]at e2
  have p:=T.pos k' ad
  have c0:c k'=0:=by
   rcases Int.mul_eq_zero.mp (show c k'*t k' k'=0 by lia)with z|z
   .exact z
   .lia
  refine T.cut d k' i ad ad ad (λj hj=> ?_) hz
  rw[h j hj];show a48 t c k' j+c k'*t k' j=_;rw[c0]
  lia
theorem Tri.lead (T:Tri n t){v:∅}(h:Gen n (Rows n t) v)(hi:i<n)(hz: ∀j,i<j->j<n->v j=0):t i i∣v i:=by
 obtain⟨c,hc⟩:=h.sum;have e:=T.cut (n-(i+1)) n (i+1) rfl (aH _) hi hc hz i hi;have e2:v i=a48 t c i i+c i*t i i:=e;rw[bJ7 T c i i ad<|aH _]at e2
 exact⟨c i,by rw[e2,lU];lia⟩
structure dJ3 (n:Nat)(t:Nat->∅):Prop extends Tri n t where
 ahead: ∀i,i<n-> ∀j,j<i->0<=t i j/\t i j<t j j
theorem dJ3.uniq {u:Nat->∅}(T:dJ3 n t)(U:dJ3 n u)(h1: ∀i,i<n->Gen n (Rows n u) (t i))(h2: ∀i,i<n->Gen n (Rows n t) (u i)): ∀i,i<n-> ∀j,j<n->t i j=u i j:=by
 have diag: ∀i,i<n->t i i=u i i:=λi hi=>by
  have a:=U.toTri.lead (h1 i hi) hi λj hj hn=>T.zero i hi j hj
  have b:=T.toTri.lead (h2 i hi) hi λj hj hn=>U.zero i hi j hj
  have p1:=T.pos i hi;have p2:=U.pos i hi;have:=uH ad a
  have:=uH ad b
  lia
 intro i hi;have g:Gen n (Rows n t) λj=>t i j-u i j:=(Gen.base ⟨i,hi,rfl⟩).sub (h2 i hi)
 have main: ∀(d k:Nat),n-k=d->k<=n-> ∀j,k<=j->j<n->t i j-u i j=0:=by
  intro d
  induction d with
  | zero=>intro k hd hk j h1 h2;lia
  | succ d ih=>
   intro k hd hk j hj hn
   by_cases e:k=j
   .subst e;have dv:=T.toTri.lead g hn λj h1 h2=>ih (k+1) ad ad j ad h2
    by_cases c1:k<i
    .obtain⟨a1,a2⟩:=T.ahead i hi k c1;obtain⟨b1,b2⟩:=U.ahead i hi k c1;have dg:=diag k ad
     obtain⟨q,hq⟩:=dv;have p1:=T.pos k hn;have q0:q=0:=by
      rcases Int.lt_trichotomy q 0 with z|z|z
      .have:t k k*q<=t k k*(-1):=Int.mul_le_mul_of_nonneg_left ad ad
       lia
      .exact z
      .have:t k k*1<=t k k*q:=Int.mul_le_mul_of_nonneg_left ad ad
       lia
     rw[hq,q0]
     lia
    .by_cases c2:k=i
     .subst c2;have:=diag k hn;lia
     .rw[T.zero i hi k ad,U.zero i hi k ad];lia
   .exact ih (k+1) ad ad j ad hn
 intro j hj;have:=main n 0 ad ad j ad hj
 lia
nonrec def mE (m:Int)(i:Nat):∅:=λj=>if j=i then m else 0
theorem vA (h:x.natAbs<=2^e)(he:e<9000):Sm x:=Sm.pow h he
theorem dY7 (h:k<=n):cutD ((rwF n f).map D.int) none (some (k:Int))=(rwF k f).map D.int:=by
 rw[c72 _ _ (by rw[bE];exact h),<-kQ]
 congr 1
 unfold rwF;rw[<-kQ,List.take_range,iF h]
theorem p6:(2:Nat)^600<=2^1000:=eQ ac ac
nonrec def jP (t:Nat->∅)(i:Nat)(f:∅):∅:=λj=>f j-(f i/t i i)*t i j
nonrec def j7 (t:Nat->∅):Nat->∅->∅
 | 0,f=>f
 | i+1,f=>j7 t i (jP t i f)
theorem aD3 {n:Nat}{t:Nat->∅}(S:Tri n t): ∀(i:Nat) (f:∅),i<=n-> ∀j,i<=j->j7 t i f j=f j
 | 0,f,_,j,_=>rfl
 | i+1,f,hi,j,hj=>by
  show j7 t i (jP t i f) j=f j
  rw[aD3 S i _ ad j ad]
  unfold jP;rw[S.zero i ad j ad]
  lia
theorem b99 {n:Nat}{t:Nat->∅}(S:Tri n t): ∀(i:Nat) (f:∅),i<=n-> ∀j,j<i->0<=j7 t i f j/\j7 t i f j<t j j
 | i+1,f,hi,j,hj=>by
  show 0<=j7 t i (jP t i f) j/\j7 t i (jP t i f) j<t j j
  by_cases e:j=i
  .subst e;rw[aD3 S j _ ad j<|aH _]
   have hp:=S.pos j ad
   have h1:=cT (f j) (show t j j≠0 by lia)
   have h2:=cX (f j) (show 0<t j j by lia)
   have h3:jP t j f j=f j%t j j:=by
    have:=Int.emod_add_mul_ediv (f j) (t j j);unfold jP;rw[lU<|f j/t j j]
    lia
   rw[h3];exact⟨h1,h2⟩
  .exact b99 S i _ ad j ad
theorem aD4 {g:∅}{b:Nat}(ht: ∀j,(t i j).natAbs<=2^600)(hg: ∀j,(g j).natAbs<=2^b): ∀j,(jP t i g j).natAbs<=2^(b+601):=by
 intro j;unfold jP;have h1:=hg j;have h2:(g i/t i i).natAbs<=2^b:=aJ (u6 _ _) (hg i);have h3:((g i/t i i)*t i j).natAbs<=2^b*2^600:=by rw[eT];exact gF h2 (ht j)
 have h4:(g j-(g i/t i i)*t i j).natAbs<=(g j).natAbs+((g i/t i i)*t i j).natAbs:=aQ9 _ _;have e:2^(b+601)=2^b*2^600+2^b*2^600:=by
  rw[show b+601=b+600+1 from rfl,uI,iI];lia
 have h5:2^b<=2^b*2^600:=Nat.le_mul_of_pos_right _ (Nat.pow_pos ac)
 generalize 2^b*2^600=X at *;generalize 2^b=Y at *;generalize 2^(b+601)=Z at *
 lia
nonrec def fnL (l:List Int):∅:=λj=>l.getD j 0
theorem dY8 (h:l.length=n):aI l=aI (rwF n<|fnL l):=by
 rw[<-h];exact dZ aI (aS6 l)
theorem dJ4 (h:l.length=n): ∀j,n<=j->fnL l j=0:=λj hj=>by
 unfold fnL;rw[aR,fT ad]
 rfl
nonrec def kG (t:Nat->∅):Nat->Nat->∅
 | 0=>λ_ _=>0
 | i+1=>λr=>if r=i then j7 (kG t i) i (t i)else kG t i r
theorem aY0 (t:Nat->∅): ∀{i r:Nat},r<i->kG t i r=j7 (kG t r) r (t r)
 | i+1,r,h=>by
  show(if r=i then j7 (kG t i) i (t i)else kG t i r)=_
  by_cases e:r=i
  .rw[a9 e,e]
  .rw[a7 e];exact aY0 t ad
theorem dY9 (t:Nat->∅){r:Nat}(h:r<i)(h2:r<k):kG t i r=kG t k r:=by rw[aY0 t h,aY0 t h2]
theorem bJ8 (h:i<n):(tbF n m t).getD i .non=aI (rwF m<|t i):=by rw[aR,c74 h];rfl
nonrec def tbX (n m:Nat)(t:Nat->∅):List D:=(List.range n).map λi=> .lst ((rwF m<|t i).map .int)
theorem aJ5 (n m:Nat)(t:Nat->∅):(tbX n m t).length=n:=by simp[tbX]
theorem aY1 (h:i<n):(tbX n m t)[i]? =some (.lst<|(rwF m<|t i).map .int):=by simp[tbX,h]
theorem cT2 (h:i<n):atI (tbX n m t) (i:Int)=some (.lst<|(rwF m<|t i).map .int):=bP (aY1 h)
theorem d02 {u u':Nat->∅}(hi:i<n)(h: ∀r,r≠i->u' r=u r):(tbX n m u).set i (.lst<|(rwF m<|u' i).map .int)=tbX n m u':=by
 apply uE
 intro j
 by_cases e:i=j
 .subst e;rw[iJ (by rw[aJ5];exact hi),aY1 hi]
 .rw[get_set_ne e]
  by_cases hj:j<n
  .rw[aY1 hj,aY1 hj,h j λz=>e z.symm]
  .rw[fT (by rw[aJ5];lia),fT (by rw[aJ5];lia)]
def swp (u:Nat->∅)(l:∅)(i:Nat):Nat->∅:=λr=>if r=i then l else u r
def bJ9 (u:Nat->∅)(l:∅)(m q:Int)(i:Nat):∅:=λj=>if j<i then(u i j-q*l j)%m else if j=i then u i i-q*l i else 0
theorem dZ0 {u:Nat->∅}{l:∅}(hi:i<n)(T:Tri n u)(lz: ∀j,i<j->l j=0)(l1:1<=l i):Tri n (swp u l i):=by
 have nr: ∀r,r≠i->swp u l i r=u r:=λr hr=>a7 hr
 have nl:swp u l i i=l:=a9 rfl;refine⟨λr hr=> ?_,λr hr j hj=> ?_⟩
 .by_cases e:r=i
  .subst e;rw[nl];exact l1
  .rw[nr r e];exact T.pos r hr
 .by_cases e:r=i
  .subst e;rw[nl];exact lz j hj
  .rw[nr r e];exact T.zero r hr j hj
theorem dJ5 {u:Nat->∅}{l:∅}{m q:Int}(hi:i<n):((rwF i λj=>(u i j-q*l j)%m).map D.int++[D.int<|u i i-q*l i]++(replicate (n-1-i) [D.int 0]).flatten:List D)=(rwF n<|bJ9 u l m q i).map .int:=by
 rw[sC];apply uE;intro j
 by_cases h1:j<i
 .rw[nQ (by simp[rwF];lia),nQ (by simp[rwF];lia),nM h1,nM ad]
  congr 2
  unfold bJ9;rw[a9 h1]
 .by_cases h2:j=i
  .subst h2;rw[nQ<|by simp[rwF],lK<|by simp[rwF],bE,o7,nM hi]
   unfold bJ9;rw[a7 h1,a9 rfl];rfl
  .rw[lK (by simp[rwF];lia)]
   simp only[bV,bE,cY,qG];rw[bJ,zW]
   by_cases h3:j<n
   .rw[a9 ad,nM h3]
    unfold bJ9;rw[a7 h1,a7 h2];rfl
   .rw[a7 ad,fT (by rw[bE];lia)]
    rfl
structure Tk (n:Nat)(m:Int)(t:Nat->∅):Prop extends Tri n t where
 lo: ∀i j,0<=t i j
 hi: ∀i j,t i j<=m
structure FK (i:Nat)(T:Nat->∅):Prop where
 tri:Tri i T
 bd: ∀r j,(T r j).natAbs<=2^500
theorem p5':(2:Int)^500=((2^500:Nat):Int):=by norm_cast
theorem c76 {n:Nat}{m:Int}{t:Nat->∅}(ok:Tk n m t)(m2:m.natAbs<=2^500): ∀i,i<=n->FK i (kG t i)
 | 0,_=>⟨⟨λi hi=>absurd hi (Nat.not_lt_zero _),λi hi=>absurd hi (Nat.not_lt_zero _)⟩,λr j=>dM _⟩
 | i+1,hi=>by
  have F:=c76 ok m2 i ad
  have new:kG t (i+1) i=j7 (kG t i) i (t i):=a9 rfl;have old: ∀r,r≠i->kG t (i+1) r=kG t i r:=λr hr=>a7 hr
  have ab: ∀j,i<=j->j7 (kG t i) i (t i) j=t i j:=aD3 F.tri i (t i) (aH _);refine⟨⟨λr hr=> ?_,λr hr j hj=> ?_⟩,λr j=> ?_⟩
  .by_cases e:r=i
   .subst e;rw[new,ab r<|aH _];exact ok.pos r ad
   .rw[old r e];exact F.tri.pos r ad
  .by_cases e:r=i
   .subst e;rw[new,ab j ad];exact ok.zero r ad j hj
   .rw[old r e];exact F.tri.zero r ad j hj
  .by_cases e:r=i
   .subst e;rw[new]
    by_cases hj:j<r
    .have:=b99 F.tri r (t r) (aH _) j hj;have:=F.bd j j
     lia
    .rw[ab j ad]
     have:=ok.lo r j;have:=ok.hi r j
     lia
   .rw[old r e];exact F.bd r j
def aY2:Φ:=λds Q=> ∃(n:Nat) (m:Int) (L:List (List Int)),ds=[.int (n:Int),.int m,.lst<|L.map aI]/\1<=n/\n<=8/\1<=m/\m<=2^500/\(∀l∈L,l.length=n)/\ ∀T,Tri n T->(∀r j,(T r j).natAbs<=2^500)->Q (.pu<|.tup<|tbF n n T)
def yT:US:=(bF 5<|uOp eV (uOp eV (aC 9)<|gA<|a8 (aC 8) aN)<|uOp fG (gA<|a8 @0 aN)<|uOp M.gSub (uOp M.gSub (aC 0)<|@1)<|aC 6)
def qX:US:=(aS (yL 3 (aC 5)<|aC 6) yT)
def qY:US:=(aS (bF 9<|dF [7,1] [none,none,some 7,some 1,none] 4 (dF5<|a8 (aC 9)<|a8 (aC 5) aN) (tI<|fP 0<|fP 1 tH) (λρ Q=>Q true ρ)<|uOp jX (uOp M.gSub (aC 0)<|uOp fG (aC 2)<|aC 1)<|aC 3) qX)
def yU:US:=(aS (bF 9<|uSl (uV<|uIx (aT 3)<|aC 6) j4<|lY<|aC 6) qY)
def qZ:US:=(aS (bF 8<|uOp M.gSub (uIx (uV<|uIx (aT 3)<|aC 6)<|aC 6)<|uOp fG (aC 7)<|uIx (aT 5)<|aC 6) yU)
def r6:US:=(aS (bF 7<|uOp aW5 (uIx (uV<|uIx (aT 3)<|aC 6)<|aC 6)<|uIx (aT 5)<|aC 6) qZ)
def vB:US:=(b35 (cQ<|uOp (gJ true) (uIx (aT 5)<|aC 6)<|@0) r6)
def a49:US:=(gP (b97<|a8 (uOp M.gSub (aC 0)<|@1)<|a8 (lZ<|@1)<|a8 (lZ<|@1) aN) (bO 6) vB)
def a50:US:=(aS (bF 5<|dF [1] [none,some 1,none] 2 (dW<|aC 4) (bO 0) (λρ Q=>Q true ρ)<|uOp jX (aC 0)<|aC 1) a49)
def aD5:US:=(yL 3 (dF [7] [none,none,some 7,none] 3 (dF5<|a8 (uIx (aT 3)<|aC 10)<|a8 (uIx (aT 3)<|aC 11) aN) (tI<|fP 0<|fP 1 tH) (λρ Q=>Q true ρ)<|uOp M.gSub (aC 0)<|uOp fG (aC 2)<|aC 1)<|aC 10)
def vC:US:=(aS (bF 7<|uOp aW5 (uIx (uV<|uIx (aT 3)<|aC 10)<|aC 11)<|uIx (uV<|uIx (aT 3)<|aC 11)<|aC 11) aD5)
def aY3:US:=(gP (b97<|a8 (uOp M.gSub (aC 10)<|@1)<|a8 (lZ<|@1)<|a8 (lZ<|@1) aN) (bO 11) vC)
def bK0:US:=(cW<|aQ cF<|a8 (dF [] [none,none] 1 (dW<|aC 3) (bO 0) (λρ Q=>Q true ρ)<|aQ cF<|a8 (aC 0) aN) aN)
def bK1:US:=(aS (gP (fX<|a8 (aC 0) aN) (bO 10) aY3) bK0)
def aS7:US:=(aS (gP (dW<|aC 2) (bO 4) a50) bK1)
def bK2:US:=(aS (bF 3<|dF [0,1] [none,some 0,some 1,none] 3 (fX<|a8 (aC 0) aN) (bO 0) (λρ Q=>Q true ρ)<|dF [2,0] [none,some 2,some 0,none] 3 (fX<|a8 (aC 1) aN) (bO 0) (λρ Q=>Q true ρ)<|uOp fG (aC 1)<|aQ b39<|a8 (uOp (gJ false) (aC 2)<|aC 0) aN) aS7)
theorem dJ6 {m:Int}{s4:Option B}(n8:n<=8)(hin:i<n)(m1:1<=m)(m2:m<=2^500)
  (h: ∀u l x5 x7 x8 x9,x5=some (B.pu<|.lst<|(rwF n l).map .int)\/x5=some (B.ow<|(rwF n l).map .int)->Tri n u->(∀r j,0<=u r j)->(∀r j,u r j<=m)->(∀j,i<=j->l j=0)->(∀j,0<=l j/\l j<m)->
   E.nx [!(n:Int),!m,~~~.lst (L.map aI),↑(tbX n n u),s4,x5,!(i:Int),x7,x8,x9,s10,s11])
  {u:Nat->∅} {l:∅} {x5 x7 x8 x9:Option B} (hx5:x5=some (B.pu<|.lst<|(rwF n l).map .int)\/x5=some (B.ow<|(rwF n l).map .int)) (T:Tri n u) (lo: ∀r j,0<=u r j) (hi: ∀r j,u r j<=m) (lz: ∀j,i<j->l j=0) (lb: ∀j,0<=l j/\l j<m) :
  vB E [!(n:Int),!m,~~~.lst (L.map aI),↑(tbX n n u),s4,x5,!(i:Int),x7,x8,x9,s10,s11]:=by
 have big:(10000:Nat)<=sizeLine:=ac
 rw[p5']at m2;have t6: ∀x:Int,0<=x->x<=m->Sm x:=λx h1 h2=>vA (e:=500) ad ad
 unfold vB
 refine⟨λk ρ=> ∃u l x5 x7 x8 x9,ρ=[!(n:Int),!m,~~~.lst (L.map aI),↑(tbX n n u),s4,x5,!(i:Int),x7,x8,x9,s10,s11]/\(x5=some (B.pu<|.lst<|(rwF n l).map .int)\/x5=some (B.ow<|(rwF n l).map .int))/\k=(l i).toNat/\Tri n u/\(∀r j,0<=u r j)/\(∀r j,u r j<=m)/\(∀j,i<j->l j=0)/\(∀j,0<=l j/\l j<m),⟨_,u,l,x5,x7,x8,x9,rfl,hx5,rfl,T,lo,hi,lz,lb⟩,?_⟩
 rintro k ρ ⟨u,l,x5,x7,x8,x9,rfl,hx5,rfl,T,lo,hi,lz,lb⟩;have e1:atI ((rwF n l).map D.int) (i:Int)=some (.int<|l i):=hV hin;have e2:atI (tbX n n u) (i:Int)=some (.lst<|(rwF n<|u i).map .int):=cT2 hin;have e3:atI ((rwF n<|u i).map D.int) (i:Int)=some (.int<|u i i):=hV hin
 have body:1<=l i-> ∀(Z:UD),(∀l' x7 x8 x9,l'=bJ9 u l m (u i i/l i) i->Z.nx [!(n:Int),!m,~~~.lst (L.map aI),↑(tbX n n (swp u l i)),s4,↑((rwF n l').map .int),!(i:Int),x7,x8,x9,s10,s11])->
   r6 Z [!(n:Int),!m,~~~.lst (L.map aI),↑(tbX n n u),s4,x5,!(i:Int),x7,x8,x9,s10,s11]:=by
  intro l1 Z hD;have sl:Sm (l i):=t6 _ (lb i).1 (by have:=(lb i).2;lia)
  have sq:Sm (u i i/l i):=vA (e:=500) (aJ (u6 _ _) (by have:=lo i i;have:=hi i i;lia)) ad
  have el: ∀j,Sm (l j):=λj=>t6 _ (lb j).1 (by have:=(lb j).2;lia)
  have fin:qY Z [!(n:Int),!m,~~~.lst (L.map aI),↑(tbX n n u),s4,x5,!(i:Int),!u i i/l i,!u i i-u i i/l i*l i,↑((rwF i<|u i).map .int),s10,s11]:=by
   unfold qY;rw[aM,iP]
   refine aS5 (t0:=0) (t1:=1) i (λj=>((rwF i<|u i).map D.int).getD j .non) (λj=>((rwF n l).map D.int).getD j .non) [!(n:Int),!m,~~~.lst (L.map aI),↑(tbX n n u),s4,~~~.lst ((rwF n l).map .int),!(i:Int),!u i i/l i,!u i i-u i i/l i*l i,~~~.lst ((rwF i<|u i).map .int),s10,s11] ?_ ad
    (λx y z=>[x,y,!u i i/l i,!m,↑z]) none none rfl (λ_ _ _ _ _=>rfl) (λ_ _ _=>⟨ae,ae⟩) (λ_ _ _ _ q=>q) (λ_ _ _ _=>rfl) (λj=> .int ((u i j-u i i/l i*l j)%m)) ?_ ?_
   .intro Q' q;rcases hx5 with rfl|rfl
    .left
     rw[bE,bE,iF ad]
     exact q
    .left
     rw[bE,bE,iF ad]
     exact q
   .intro j z Q' hj q;rw[iK hj,iK ad]at q⊢
    left
    rw[cM _ ad]
    exact⟨.inr ⟨sq,el j⟩,ad,q⟩
   rw[kX];show qX _ [!(n:Int),!m,~~~.lst (L.map aI),↑(tbX n n u),s4,~~~.lst ((rwF n l).map .int),!(i:Int),!u i i/l i,!u i i-u i i/l i*l i,some<|.ow<|(rwF i λj=>(u i j-u i i/l i*l j)%m).map .int,s10,s11]
   unfold qX;rw[aM];left;rw[aJ5,cZ3 hin];right;have es:(tbX n n u).set i (.lst<|(rwF n l).map .int)=tbX n n (swp u l i):=by
    have:=d02 (m:=n) (u:=u) (u':=swp u l i) hin λr hr=>a7 hr
    rw[show swp u l i i=l from a9 rfl]at this
    exact this
   rw[es];unfold yT;left;rw[show((n:Int)-1-(i:Int)).toNat=n-1-i by lia]
   have er:=dJ5 (u:=u) (l:=l) (m:=m) (q:=u i i/l i) hin;have eln:=dZ length er;rw[bE]at eln;simp only[bV,bE,cY,qG]at eln;refine⟨ad,by rw[bE];lia,ad,⟨ad,ad,ad⟩,?_,?_⟩
   .simp only[bV,bE,cY,qG]
    lia
   .rw[er];exact hD _ _ _ _ rfl
  have tail:qZ Z [!(n:Int),!m,~~~.lst (L.map aI),↑(tbX n n u),s4,x5,!(i:Int),!u i i/l i,x8,x9,s10,s11]:=by
   unfold qZ;rw[aM];rcases hx5 with rfl|rfl
   all_goals
    left
    simp only[e1,e2,e3];refine⟨.inr ⟨sq,sl⟩,?_⟩;unfold yU;rw[aM];left;simp only[e2];rw[dY7 ad]
    exact fin
  unfold r6;rw[aM];rcases hx5 with rfl|rfl
  all_goals
   left
   simp only[e1,e2,e3];rw[nJ _ ad]
   exact⟨⟨ad,sl⟩,tail⟩
 have lp:=lb i;have lz0:l i=0-> ∀j,i<=j->l j=0:=λc j hj=>by
  by_cases e:j=i
  .rw[e];exact c
  .exact lz j ad
 have stp:1<=l i-> ∀(l':∅),l'=bJ9 u l m (u i i/l i) i->(l' i).toNat< (l i).toNat/\Tri n (swp u l i)/\(∀r j,0<=swp u l i r j)/\(∀r j,swp u l i r j<=m)/\(∀j,i<j->l' j=0)/\(∀j,0<=l' j/\l' j<m):=λl1 l' e=>by
  subst e;have em:=Int.emod_add_mul_ediv (u i i) (l i);have m0:=cT (u i i) (show l i≠0 by lia)
  have mlt:=cX (u i i) (show 0<l i by lia)
  rw[lU]at em;have ei:bJ9 u l m (u i i/l i) i i=u i i-u i i/l i*l i:=by
   unfold bJ9;rw[a7 ad,a9 rfl]
  have sw: ∀r j,0<=swp u l i r j/\swp u l i r j<=m:=λr j=>by
   unfold swp;split
   .have:=lb j;lia
   .exact⟨lo r j,hi r j⟩
  refine⟨by rw[ei];lia,dZ0 hin T lz l1,λr j=>(sw r j).1,λr j=>(sw r j).2,λj hj=> ?_,λj=> ?_⟩
  .unfold bJ9;rw[a7 ad,a7 ad]
  .by_cases c1:j<i
   .unfold bJ9;rw[a9 c1];exact⟨cT _ ad,cX _ ad⟩
   .by_cases c2:j=i
    .rw[c2,ei];lia
    .unfold bJ9;rw[a7 c1,a7 c2];lia
 rcases hx5 with e5|e5
 all_goals
  subst e5;left;simp only[e1]
  by_cases c:l i=0
  .rw[a7 ad]
   exact h u l _ x7 x8 x9 (by first|exact .inl rfl|exact .inr rfl) T lo hi (lz0 c) lb
  .rw[a9 c];refine body ad _ λl' y7 y8 y9 e=> ?_
   obtain⟨s1,s2,s3,s4',s6,s7⟩:=stp ad l' e
   exact⟨_,s1,swp u l i,l',_,y7,y8,y9,rfl,.inr rfl,rfl,s2,s3,s4',s6,s7⟩
theorem dZ1 {m:Int}{r:List Int}{x5 x6 x7 x8 x9:Option B}(n1:1<=n)(n8:n<=8)(m1:1<=m)(m2:m<=2^500)(ok:Tk n m t)(hr:r.length=n)
  (h: ∀u s4 x5 x6 x7 x8 x9,Tk n m u->E.nx [!(n:Int),!m,~~~.lst (L.map aI),↑(tbX n n u),s4,x5,x6,x7,x8,x9,s10,s11]) :
  a50 E [!(n:Int),!m,~~~.lst (L.map aI),↑(tbX n n t),~~~aI r,x5,x6,x7,x8,x9,s10,s11]:=by
 have big:(10000:Nat)<=sizeLine:=ac
 unfold a50;rw[aM,iP,dY8 hr];simp only[aI]
 refine dC (t0:=0) n (λj=>((rwF n<|fnL r).map D.int).getD j .non) [!(n:Int),!m,~~~.lst (L.map aI),↑(tbX n n t),~~~.tup ((rwF n<|fnL r).map .int),x5,x6,x7,x8,x9,s10,s11] ?_ ad (λx l=>[x,!m,↑l]) none rfl (λ_ _ _=>rfl) (λ_ _=>bW _) (λ_ _ _ q=>q) (λ_ _ _=>rfl) (λj=> .int (fnL r j%m)) ?_ ?_
 .intro Q' q;left;rw[bE];exact q
 .intro j l Q' hj q;rw[iK hj]at q⊢;left;rw[cM _ ad]
  exact⟨ad,q⟩
 rw[kX];show a49 _ [!(n:Int),!m,~~~.lst (L.map aI),↑(tbX n n t),~~~.tup ((rwF n<|fnL r).map .int),some<|.ow<|(rwF n λj=>fnL r j%m).map .int,x6,x7,x8,x9,s10,s11]
 unfold a49;have l0: ∀j,0<=(λj=>fnL r j%m) j/\(λj=>fnL r j%m) j<m:=λj=>⟨cT _ ad,cX _ ad⟩
 have lz: ∀j,n<=j->(λj=>fnL r j%m) j=0:=λj hj=>by
  show fnL r j%m=0
  rw[dJ4 hr j hj];rfl
 generalize (λj=>fnL r j%m)=l00 at l0 lz⊢
 refine bB n (λk=> .int ((n:Int)-1-k)) [!(n:Int),!m,~~~.lst (L.map aI),↑(tbX n n t),~~~.tup ((rwF n<|fnL r).map .int),↑((rwF n l00).map .int),x6,x7,x8,x9,s10,s11] ?_
  (λk ρ=> ∃(u:Nat->∅) (l:∅) (y5 y6 y7 y8 y9:Option B),ρ=[!(n:Int),!m,~~~.lst (L.map aI),↑(tbX n n u),~~~.tup ((rwF n<|fnL r).map .int),y5,y6,y7,y8,y9,s10,s11]/\(y5=some (B.pu<|.lst<|(rwF n l).map .int)\/y5=some (B.ow<|(rwF n l).map .int))/\Tri n u/\(∀r j,0<=u r j)/\(∀r j,u r j<=m)/\(∀j,n-k<=j->l j=0)/\(∀j,0<=l j/\l j<m))
  ⟨t,l00,_,_,_,_,_,rfl,.inr rfl,ok.toTri,ok.lo,ok.hi,lz,l0⟩ ?_ ?_
 .intro Q' q;left;refine⟨trivial,⟨ad,ad,ad,ad⟩,?_⟩
  rw[show((n:Int)-1- -1).toNat=n by lia]
  exact q
 .rintro k ρ hk ⟨u,l,y5,y6,y7,y8,y9,rfl,h5,T,lo,hi,lz,lb⟩;obtain⟨i,hi0⟩: ∃i:Nat,i=n-1-k:=⟨_,rfl⟩;have ei:(n:Int)-1-(k:Int)=(i:Int):=ad
  have eN:n-k=i+1:=ad
  have eN':n-(k+1)=i:=ad
  rw[ei];rw[eN]at lz;refine⟨ae,?_⟩
  refine dJ6 (i:=i) n8 ad m1 m2 ?_ h5 T lo hi (λj hj=>lz j ad) lb
  intro u l z5 z7 z8 z9 h1 h2 h3 h4 h6 h7;exact⟨u,l,z5,!(i:Int),z7,z8,z9,rfl,h1,h2,h3,h4,(by rw[eN'];exact h6),h7⟩
 .rintro ρ ⟨u,l,y5,y6,y7,y8,y9,rfl,h5,T,lo,hi,lz,lb⟩;exact h u _ _ _ _ _ _ ⟨T,lo,hi⟩
theorem cT3 (n:Nat)(it:Nat->D)(ρ1:Ev)(hui: ∀Q:Nat->(Nat->D)->Ev->Prop,Q n it ρ1->ui ρ Q)(hn:n<=1000000)
  (G:Option B->List D->Ev) (x0:Option B) (h0:pP (xC ρ1 js) cap last=G x0 []) (h1: ∀x l b,(G x l).set t0 (some b)=G (some b) l) (h1': ∀x l,t0< (G x l).length) (h2: ∀x l (Q:List D->Prop),Q l->lH (G x l) last Q) (h3: ∀x l l',(G x l).set last (↑l')=G x l')
  (f:Nat->List D) (hte: ∀i l (Q':B->Ev->Prop),i<n->Q' (.ow<|f i) (G (~~~it i) l)->te (G (~~~it i) l) Q') (hq:Q (.ow<|(List.range n).map λi=> .lst (f i)) (xC ρ1 js)) :
  dF js cap last ui (bO t0) (λρ Q=>Q true ρ) te ρ Q:=by
 refine hui _ ⟨λi ρ'=> ∃x,ρ'=G x ((List.range i).map λi=> .lst (f i)),⟨x0,h0⟩,?_,?_⟩
 .rintro i ρ' hi ⟨x,rfl⟩;refine⟨h1' _ _,?_⟩;rw[h1];right;rw[a9 rfl];refine hte i _ _ hi (h2 _ _ _ ⟨?_,~~~it i,?_⟩)
  .rw[aG,jH];exact b9 hi (aJ hn ac)
  .rw[h3,cI,bX];rfl
 .rintro ρ' ⟨x,rfl⟩;exact h2 _ _ _ hq
theorem dJ7 (i:Nat)(t ti:UE)(D:UD)(ρ:Ev):yL i t ti D ρ=t ρ λb ρ1=>lH ρ1 i λ_=>ti ρ1 λj ρ2=>lH ρ2 i λl=>match j.d with
 | .int k=>(match ixN l.length k with
  | some n=>D.nx (ρ2.set i<|↑(l.set n b.d))
  | none=>False)
 | _=>False:=rfl
nonrec def sD (t:Nat->∅)(i:Nat)(g:∅):Nat->∅:=λr=>if r<i then kG t i r else if r=i then g else t r
theorem dJ8: Ra aY2 bK2 ["a","b","c","d","e","f","g","h","i","j","k","l"]:=by
 rintro ds Q ⟨n,m,L,rfl,n1,n8,m1,m2,ok,h⟩;have big:(10000:Nat)<=sizeLine:=ac
 have m2':m.natAbs<=2^500:=by have:=m2;rw[p5']at this;lia
 unfold bK2;show(aS _ _:US) _ [!(n:Int),!m,~~~.lst (L.map aI),none,none,none,none,none,none,none,none,none];rw[aM,iP]
 refine cT3 (t0:=0) n (λk=> .int (0+(k:Int))) [!(n:Int),!m,~~~.lst (L.map aI),none,none,none,none,none,none,none,none,none] ?_ ad (λx l=>[x,!(n:Int),!m,↑l]) none rfl (λ_ _ _=>rfl) (λ_ _=>bW _) (λ_ _ _ q=>q) (λ_ _ _=>rfl) (λk=>(rwF n<|mE m k).map .int) ?_ ?_
 .intro Q' q;left;refine⟨⟨ad,ad⟩,?_⟩
  rw[cD];exact q
 .intro k l Q' hk q;refine dC (t0:=0) n (λj=> .int (0+(j:Int))) [!(0+(k:Int)),!(n:Int),!m,↑l] ?_ ad (λx l=>[x,!m,!(0+(k:Int)),↑l]) none rfl (λ_ _ _=>rfl) (λ_ _=>bW _) (λ_ _ _ q=>q) (λ_ _ _=>rfl) (λj=> .int (mE m k j)) ?_ ?_
  .intro Q' q;left;refine⟨⟨ad,ad⟩,?_⟩
   rw[cD];exact q
  .intro j l Q' hj q;left;have em:(m*if 0+(k:Int)=0+(j:Int)then 1 else 0)=mE m k j:=by
    unfold mE
    by_cases e:j=k
    .subst e;rw[a9 rfl,a9 rfl];lia
    .rw[a7 ad,a7 e];lia
   rw[em];exact⟨.inr ⟨vA m2' ad,by split<;>exact vA (e:=1) ac ac⟩,q⟩
  .rw[kX];exact q
 show aS7 _ [!(n:Int),!m,~~~.lst (L.map aI),↑(tbX n n (mE m)),none,none,none,none,none,none,none,none]
 unfold aS7;rw[aM];have ok0:Tk n m (mE m):=by
  refine⟨⟨λi _=>by unfold mE;rw[a9 rfl];exact m1,λi _ j hj=>by unfold mE;rw[a7 ad]⟩,λi j=> ?_,λi j=> ?_⟩
  .unfold mE;split<;>lia
  .unfold mE;split<;>lia
 refine bB (L.map aI).length (λi=>(L.map aI).getD i .non) _ ?_
  (λi ρ=> ∃(t:Nat->∅) (x4 x5 x6 x7 x8 x9:Option B),ρ=[!(n:Int),!m,~~~.lst (L.map aI),↑(tbX n n t),x4,x5,x6,x7,x8,x9,none,none]/\Tk n m t)
  ⟨_,none,none,none,none,none,none,rfl,ok0⟩ ?_ ?_
 .intro Q' q;left;exact q
 .rintro i ρ hi ⟨t,x4,x5,x6,x7,x8,x9,rfl,okt⟩;rw[aG]at hi;have hm:=cS hi;have ei:(L.map aI).getD i .non=aI L[i]:=by rw[aR,bJ,aU hi];rfl
  rw[ei];refine⟨ae,?_⟩
  refine dZ1 n1 n8 m1 m2 okt (ok _ hm) ?_
  intro u s4 y5 y6 y7 y8 y9 oku;exact⟨u,_,_,_,_,_,_,rfl,oku⟩
 .rintro ρ ⟨t,x4,x5,x6,x7,x8,x9,rfl,okt⟩;have up: ∀{x:Int},x.natAbs<=2^500->x.natAbs<=2^600:=λh=>aJ h (eQ ac ac)
  have tt: ∀r j,(t r j).natAbs<=2^600:=λr j=>up (by have:=okt.lo r j;have:=okt.hi r j;lia)
  try right
  unfold bK1;rw[aM];have mid0: ∀i,sD t i (t i)=λr=>if r<i then kG t i r else t r:=λi=>by
   funext r
   unfold sD;split
   .rfl
   .split
    .rename_i e;rw[e]
    .rfl
  refine bB n (λi=> .int (0+(i:Int))) [!(n:Int),!m,~~~.lst (L.map aI),↑(tbX n n t),x4,x5,x6,x7,x8,x9,none,none] ?_
   (λi ρ=> ∃(y7 y10 y11:Option B),ρ=[!(n:Int),!m,~~~.lst (L.map aI),↑(tbX n n (sD t i (t i))),x4,x5,x6,y7,x8,x9,y10,y11]) ⟨x7,none,none,?_⟩ ?_ ?_
  .intro Q' q;left;refine⟨⟨ad,ad⟩,?_⟩
   rw[cD];exact q
  .rw[mid0];rfl
  .rintro i ρ hi ⟨y7,y10,y11,rfl⟩;refine⟨ae,?_⟩
   have F:=c76 okt m2' i ad
   unfold aY3;show(gP _ _ _:US) _ [!(n:Int),!m,~~~.lst (L.map aI),↑(tbX n n (sD t i (t i))),x4,x5,x6,y7,x8,x9,!(0+(i:Int)),y11]
   refine bB i (λk=> .int (0+(i:Int)-1-k)) [!(n:Int),!m,~~~.lst (L.map aI),↑(tbX n n (sD t i (t i))),x4,x5,x6,y7,x8,x9,!(0+(i:Int)),y11] ?_
    (λk ρ=> ∃(g:∅) (y7 y11:Option B),ρ=[!(n:Int),!m,~~~.lst (L.map aI),↑(tbX n n (sD t i g)),x4,x5,x6,y7,x8,x9,!(0+(i:Int)),y11]/\j7 (kG t i) (i-k) g=j7 (kG t i) i (t i)/\ ∀j,(g j).natAbs<=2^(600+601*k)) ⟨t i,_,_,rfl,rfl,λj=>by rw[Nat.mul_zero];exact tt i j⟩ ?_ ?_
   .intro Q' q;left;refine⟨trivial,⟨ad,ad,ad,ad⟩,?_⟩
    rw[show(0+(i:Int)-1- -1).toNat=i by lia]
    exact q
   .rintro k ρ hk ⟨g,z7,z11,rfl,hr,hb⟩;obtain⟨q,hq⟩: ∃q:Nat,q=i-1-k:=⟨_,rfl⟩;have eq:0+(i:Int)-1-(k:Int)=(q:Int):=ad
    have ez:0+(i:Int)=(i:Int):=ad
    rw[eq,ez];refine⟨ae,?_⟩
    show vC _ [!(n:Int),!m,~~~.lst (L.map aI),↑(tbX n n (sD t i g)),x4,x5,x6,z7,x8,x9,!(i:Int),!(q:Int)]
    have ri:sD t i g i=g:=by unfold sD;rw[a7 ad,a9 rfl]
    have rq:sD t i g q=kG t i q:=by unfold sD;rw[a9 ad]
    have e1:atI (tbX n n<|sD t i g) (i:Int)=some (.lst<|(rwF n g).map .int):=by rw[cT2 ad,ri]
    have e2:atI (tbX n n<|sD t i g) (q:Int)=some (.lst<|(rwF n<|kG t i q).map .int):=by rw[cT2 ad,rq]
    have e3:atI ((rwF n g).map D.int) (q:Int)=some (.int<|g q):=hV ad
    have e4:atI ((rwF n<|kG t i q).map D.int) (q:Int)=some (.int<|kG t i q q):=hV ad
    have dp:=F.tri.pos q ad
    unfold vC;rw[aM];left;simp only[e1,e2,e3,e4];rw[nJ _ ad]
    refine⟨⟨ad,vA (F.bd q q) ad⟩,?_⟩
    unfold aD5;rw[dJ7];refine aS5 (t0:=0) (t1:=1) n (λj=>((rwF n g).map D.int).getD j .non) (λj=>((rwF n<|kG t i q).map D.int).getD j .non) [!(n:Int),!m,~~~.lst (L.map aI),↑(tbX n n (sD t i g)),x4,x5,x6,!g q/kG t i q q,x8,x9,!(i:Int),!(q:Int)] ?_ ad
     (λx y z=>[x,y,!g q/kG t i q q,↑z]) none none rfl (λ_ _ _ _ _=>rfl) (λ_ _ _=>⟨ae,ae⟩) (λ_ _ _ _ q=>q) (λ_ _ _ _=>rfl) (λj=> .int (jP (kG t i) q g j)) ?_ ?_
    .intro Q' q';left;simp only[e1,e2];rw[bE,bE,Nat.min_self];exact q'
    .intro j l Q' hj q';rw[iK hj,iK ad]at q'⊢
     left
     refine⟨.inr ⟨vA (aJ (u6 _ _)<|hb q) ad,vA (F.bd q j) ac⟩,?_⟩
     exact q'
    .left
     rw[kX,aJ5,cZ3 hi];right;have es:(tbX n n<|sD t i g).set i (.lst<|(rwF n<|jP (kG t i) q g).map .int)=tbX n n (sD t i<|jP (kG t i) q g):=by
      have:=d02 (m:=n) (u:=sD t i g) (u':=sD t i (jP (kG t i) q g)) hi λr hr=>by unfold sD;rw[a7 hr,a7 hr]
      rw[show sD t i (jP (kG t i) q g) i=jP (kG t i) q g by unfold sD;rw[a7 ad,a9 rfl]]at this
      exact this
     rw[es];refine⟨jP (kG t i) q g,_,_,rfl,?_,λj=> ?_⟩
     .rw[<-hr,show i-k=q+1 by lia,show i-(k+1)=q by lia]
      rfl
     .have:=aD4 (i:=q) (λj=>up (F.bd q j)) hb j
      rw[show 600+601*(k+1)=600+601*k+601 by lia]
      exact this
   .rintro ρ ⟨g,z7,z11,rfl,hr,hb⟩;refine⟨z7,!(0+(i:Int)),z11,?_⟩;rw[o7]at hr;have eg:g=j7 (kG t i) i (t i):=hr;have:sD t i g=sD t (i+1) (t<|i+1):=by
     rw[mid0,eg]
     funext r
     unfold sD
     by_cases c1:r<i
     .rw[a9 c1,a9 ad]
      exact dY9 t c1 ad
     .by_cases c2:r=i
      .subst c2;rw[a7 c1,a9 rfl,a9 ad]
       exact(aY0 t ad).symm
      .rw[a7 c1,a7 c2,a7 ad]
    rw[this]
  .rintro ρ ⟨y7,y10,y11,rfl⟩;unfold bK0;have F:=c76 okt m2' n (aH _);have ht:tbX n n (sD t n<|t n)=tbX n n (kG t n):=by
    unfold tbX;refine uB λr hr=> ?_
    rw[show sD t n (t n) r=kG t n r from a9 (eI.mp hr)]
   rw[ht];right;rw[jS,dG,d4];refine dC (t0:=0) n (λi=>(tbX n n<|kG t n).getD i .non) [!(n:Int),!m,~~~.lst (L.map aI),~~~.lst (tbX n n (kG t n)),x4,x5,x6,y7,x8,x9,y10,y11] ?_ ad (λx l=>[x,↑l]) none rfl (λ_ _ _=>rfl) (λ_ _=>bW _) (λ_ _ _ q=>q) (λ_ _ _=>rfl) (λi=>aI (rwF n<|kG t n i)) ?_ ?_
   .intro Q' q;left;rw[aJ5];exact q
   .intro i l Q' hi q;have eg:(tbX n n<|kG t n).getD i .non= .lst ((rwF n<|kG t n i).map .int):=by rw[aR,aY1 hi];rfl
    rw[eg]at q⊢;left;exact q
   .left
    exact h _ F.tri F.bd
nonrec def gY (f:∅):Nat->Nat
 | 0=>0
 | n+1=>if f n=0 then gY f n else n+1
theorem a51 (f:∅): ∀n,gY f n<=n
 | 0=>aH _
 | n+1=>by
  unfold gY;split
  .have:=a51 f n;lia
  .exact aH _
theorem bY5 (f:∅): ∀n,gY f n=0\/f (gY f n-1)≠0
 | 0=> .inl rfl
 | n+1=>by
  unfold gY;split
  .exact bY5 f n
  .rename_i h
   exact .inr (by exists h)
theorem bY6 (f:∅): ∀n m,gY f n<=m->m<n->f m=0
 | n+1,m,h1,h2=>by
  unfold gY at h1;split at h1
  .rename_i h
   by_cases e:m=n
   .rw[e];exact h
   .exact bY6 f n m h1 ad
  .lia
theorem wI {f:∅}{k:Nat}: ∀{n:Nat},k<=n->(∀m,k<=m->m<n->f m=0)->(k=0\/f (k-1)≠0)->gY f n=k
 | 0,h,_,_=>by have:k=0:=ad
               rw[this];rfl
 | n+1,h,hz,hl=>by
  unfold gY
  by_cases e:k=n+1
  .subst e;rw[a7];rcases hl with h0|h0
   .lia
   .exists h0
  .rw[a9<|hz n ad ad]
   exact wI ad (λm h1 h2=>hz m h1 ad) hl
theorem bK3 {f g:∅}: ∀{n:Nat},(∀m,m<n->f m=g m)->gY f n=gY g n
 | 0,_=>rfl
 | n+1,h=>by
  unfold gY;rw[h n<|qK n,bK3 λm hm=>h m (lN hm)]
theorem bK4 (n k:Nat)(f:∅)(h:k<=n):(rwF n f).take k=rwF k f:=by
 unfold rwF;rw[<-kQ,List.take_range,iF h]
def aD6:Φ:=λds Q=> ∃(n:Nat) (f:∅),ds=[aI<|rwF n f]/\n<=1000/\Q (.pu<|aI<|rwF (gY f n) f)
def bK5:US:=(aS (bF 1<|kF<|aT 0)<|aS (b35 (b34 (cQ<|uOp (oX λi j=>decide (j<i)) (aC 1)<|@0)<|cQ<|uOp (gJ false) (uIx (aT 0)<|uOp M.gSub (aC 1)<|@1)<|@0)<|cC9 1 (gI2 λi j Q=>Q (.pu<|.int<|i-j))<|@1)<|cW<|uSlT (aC 0) j4<|lY<|aC 1)
theorem dJ9: Ra aD6 bK5 ["r","s"]:=by
 rintro ds Q ⟨n,f,rfl,hn,h⟩;unfold bK5;simp only[aI];show(aS _ _:US) _ [~~~.tup ((rwF n f).map .int),none];rw[aM];left;rw[bE];refine⟨λm ρ=>ρ=[~~~.tup ((rwF n f).map .int),!(m:Int)]/\m<=n/\gY f m=gY f n,⟨n,rfl,aH _,rfl⟩,?_⟩
 rintro m ρ ⟨rfl,hm,hc⟩;left;have fin:gY f m=m->Q (.pu<|.tup<|cutD ((rwF n f).map D.int) none<|some (m:Int)):=λe=>by
  rw[c72 _ _ (by rw[bE];exact hm),<-kQ,bK4 _ _ _ hm]
  rw[<-hc,e]at h;exact h
 split
 .rename_i h0
  obtain⟨m',rfl⟩: ∃m',m=m'+1:=⟨m-1,ad⟩
  rw[show((m'+1:Nat):Int)-1=(m':Int)by lia,hV<|show m'<n by lia]
  right;split
  .rename_i h1
   refine⟨m',ad,?_,ad,?_⟩
   .simp
   .rw[<-hc];show _=if f m'=0 then gY f m' else m'+1;rw[a9 h1]
  .rename_i h1
   refine fin ?_
   show(if f m'=0 then gY f m' else m'+1)=m'+1
   rw[a7 h1]
 .have:m=0:=ad
  subst this;exact fin rfl
nonrec def shF (b:∅)(n m:Nat):Int:=if n<=m then b (m-n)else 0
nonrec def divS (b:∅)(d n:Nat)(f:∅):∅:=λm=>f m-f (n+d)*shF b n m
nonrec def divL (b:∅)(d:Nat):Nat->∅->∅
 | 0,f=>f
 | n+1,f=>divL b d n (divS b d n f)
nonrec def divQ (b:∅)(d:Nat):Nat->∅->∅
 | 0,_=>λ_=>0
 | n+1,f=>λx=>if x=n then f (n+d)else divQ b d n (divS b d n f) x
structure dK0 (L d a e:Nat)(f b:∅):Prop where
 L9:L<=100
 d9:d<=100
 one:b d=1
 beyond: ∀j,d<j->b j=0
 fb: ∀m,m<L->(f m).natAbs<=2^a
 bb: ∀j,(b j).natAbs<=2^e
 room:a+(e+1)*L<8000
 e8:e<8000
theorem cT4 {b:∅}{d a L:Nat}(hn:n+d<L)(hf: ∀m,m<L->(f m).natAbs<=2^a)(hb: ∀j,(b j).natAbs<=2^e): ∀m,m<L->(divS b d n f m).natAbs<=2^(a+(e+1)):=by
 intro m hm;unfold divS;have h1:=hf m hm;have h2:=hf (n+d) hn;have h3:(shF b n m).natAbs<=2^e:=by
  unfold shF;split
  .exact hb _
  .simp
 have h4:(f (n+d)*shF b n m).natAbs<=2^a*2^e:=by rw[eT];exact gF h2 h3
 have h5:=aQ9 (f m) (f (n+d)*shF b n m);have e1:2^(a+(e+1))=2^a*2^e+2^a*2^e:=by rw[<-qN,uI,iI];lia
 have h6:2^a<=2^a*2^e:=Nat.le_mul_of_pos_right _ (Nat.pow_pos ac)
 lia
theorem aJ6 (k:Nat):(replicate k [D.int 0]).flatten=(rwF k λ_=>0).map .int:=by
 rw[sC]
 congr 1
 apply lP<;>simp[rwF]
def gL:Φ:=λds Q=> ∃(L d a e:Nat) (f b:∅),ds=[aI<|rwF L f,aI<|rwF (d+1) b]/\dK0 L d a e f b/\
 Q (.pu<|.tup [aI<|rwF (gY (divQ b d (L-d) f)<|L-d)<|divQ b d (L-d) f,aI<|rwF (gY (divL b d (L-d) f) L)<|divL b d (L-d) f])
def wJ:US:=(cW<|iR<|a8 (aQ aD6<|a8 (aQ cF<|a8 (aC 5) aN) aN)<|a8 (aQ aD6<|a8 (aQ cF<|a8 (aC 4) aN) aN) aN)
def wK:US:=(aS (gP (cY8<|a8 (aC 3) aN) (bO 6)<|aS (bF 7<|uIx (aT 4)<|uOp eV (aC 6)<|aC 2)<|aS (yL 5 (aC 7)<|aC 6)<|gP (dF6<|a8 (aC 1) aN) (tI<|fP 8<|fP 9 tH)<|dF3 4 (λi j=>i-j) (uOp eV (aC 6)<|aC 8)<|uOp fG (aC 7)<|aC 9) wJ)
def r8:US:=(aS (bF 2<|uOp M.gSub (kF<|aT 1)<|@1)<|aS (bF 3<|aQ gMax<|a8 @0<|a8 (uOp M.gSub (kF<|aT 0)<|aC 2) aN)<|aS (bF 4<|aQ aI8<|a8 (aC 0) aN)<|aS (bF 5<|uOp fG (gA<|a8 @0 aN)<|aC 3) wK)
theorem b51: Ra gL r8 ["f","g","d","s","l","q","a","m","j","c"]:=by
 rintro ds Q ⟨L,d,a,e,f,b,rfl,ok,h⟩;have L9:=ok.L9;have d9:=ok.d9;have room:=ok.room;unfold r8;simp only[aI]at h⊢;show(aS _ _:US) _ [~~~.tup ((rwF L f).map .int),~~~.tup ((rwF (d+1) b).map .int),none,none,none,none,none,none,none,none];left;rw[bE,bE];obtain⟨N,hN⟩: ∃N:Nat,N=L-d:=⟨_,rfl⟩;have e1:((d+1:Nat):Int)-1=(d:Int):=ad
 have e2:(if(L:Int)-(d:Int)>0 then(L:Int)-(d:Int)else 0)=(N:Int):=by split<;>lia
 rw[e1,e2,cD,aJ6];refine⟨ac,⟨ad,ad,aJ (show 1*N<=100 by lia) ac⟩,?_⟩
 unfold wK;rw[aM];rw[<-hN]at h;refine bB N (λk=> .int (((N:Int))-1-k)) _ ?_
  (λk ρ=> ∃g q z6 z7 z8 z9,ρ=[~~~.tup ((rwF L f).map .int),~~~.tup ((rwF (d+1) b).map .int),!(d:Int),!(N:Int),↑((rwF L g).map .int),↑((rwF N q).map .int),z6,z7,z8,z9]/\
   divL b d (N-k) g=divL b d N f/\(∀x,x<N->divQ b d N f x=if x<N-k then divQ b d (N-k) g x else q x)/\ ∀m,m<L->(g m).natAbs<=2^(a+(e+1)*k))
  ⟨f,λ_=>0,none,none,none,none,rfl,rfl,λx hx=>by rw[a27,a9 hx],λm hm=>by simpa using ok.fb m hm⟩ ?_ ?_
 .intro Q' q;left;refine⟨⟨ad,ad⟩,?_⟩
  rw[cD];exact q
 .rintro k ρ hk ⟨g,q,z6,z7,z8,z9,rfl,hL,hQ,hb⟩;obtain⟨i,hi⟩: ∃i:Nat,i=N-1-k:=⟨_,rfl⟩;have ei:(N:Int)-1-(k:Int)=(i:Int):=ad
  have hiN:i<N:=ad
  have hid:i+d<L:=ad
  rw[ei];have c1:(i:Int)+(d:Int)=((i+d:Nat):Int):=ad
  left
  rw[c1,hV hid];right;rw[bE,bJ5 hiN];right;rw[wH hiN];refine⟨ae,?_⟩
  have smg:Sm (g<|i+d):=Sm.pow (hb _ hid) (by
   have:(e+1)*k<=(e+1)*L:=a05 _ ad
   lia)
  refine bB (d+1) (λj=> .tup [.int (j:Int),((rwF (d+1) b).map D.int).getD j .non]) [~~~.tup ((rwF L f).map .int),~~~.tup ((rwF (d+1) b).map .int),!(d:Int),!(N:Int),↑((rwF L g).map .int),some<|.ow<|(rwF N λx=>if x=i then g (i+d)else q x).map .int,!(i:Int),!g (i+d),z8,z9] ?_
   (λj ρ=> ∃z8 z9,ρ=[~~~.tup ((rwF L f).map .int),~~~.tup ((rwF (d+1) b).map .int),!(d:Int),!(N:Int),some<|.ow<|(rwF L λm=>if m<i+j then divS b d i g m else g m).map .int,some<|.ow<|(rwF N λx=>if x=i then g (i+d)else q x).map .int,!(i:Int),!g (i+d),z8,z9]) ⟨z8,z9,?_⟩ ?_ ?_
  .intro Q' qq;left;rw[bE];exact qq
  .have:(rwF L λm=>if m<i+0 then divS b d i g m else g m)=rwF L g:=by
    apply jY
    intro m hm
    by_cases c:m<i+0
    .rw[a9 c];unfold divS shF;rw[a7 ad]
     lia
    .rw[a7 c]
   rw[this]
  .rintro j ρ hj ⟨z8,z9,rfl⟩;rw[iK hj];have hij:i+j<L:=ad
   have c2:(i:Int)+(j:Int)=((i+j:Nat):Int):=ad
   simp only[dF3];left;rw[c2,bE];refine⟨ae,ae,trivial,_,i+j,g<|i+j,rfl,bJ5 hij,by rw[nM hij,a7 ad],.inr ⟨smg,Sm.pow (ok.bb j) (by have:=ok.e8;lia)⟩,_,rfl,!(j:Int),!b j,?_⟩
   rw[wH hij];have:(rwF L λx=>if x=i+j then g (i+j)-g (i+d)*b j else if x<i+j then divS b d i g x else g x)=rwF L λm=>if m<i+(j+1)then divS b d i g m else g m:=by
    apply jY
    intro m hm
    by_cases c:m=i+j
    .subst c;rw[a9 rfl,a9 ad]
     unfold divS shF;rw[a9 ad,show i+j-i=j by lia]
    .rw[a7 c]
     by_cases c3:m<i+j
     .rw[a9 c3,a9 ad]
     .rw[a7 c3,a7 ad]
   rw[this]
  .rintro ρ ⟨z8,z9,rfl⟩;have eg:(rwF L λm=>if m<i+(d+1)then divS b d i g m else g m)=rwF L (divS b d i g):=by
    apply jY
    intro m hm
    by_cases c:m<i+(d+1)
    .rw[a9 c]
    .rw[a7 c];unfold divS shF;rw[a9 ad,ok.beyond _ ad]
     lia
   rw[eg];have en:N-k=i+1:=ad
   have en2:N-(k+1)=i:=ad
   rw[en]at hL hQ;refine⟨_,_,_,_,_,_,rfl,by rw[en2];exact hL,λx hx=> ?_,?_⟩
   .rw[en2,hQ x hx]
    by_cases c:x<i
    .rw[a9 c,a9 ad]
     show(if x=i then _ else divQ b d i (divS b d i g) x)=_
     rw[a7 ad]
    .rw[a7 c]
     by_cases c2:x=i
     .subst c2;rw[a9 ad,a9 rfl]
      show(if x=x then _ else _)=_
      rw[a9 rfl]
     .rw[a7 ad,a7 c2]
   .have:=cT4 hid hb ok.bb;rw[show a+(e+1)*(k+1)=a+(e+1)*k+(e+1)by rw[uJ];lia]
    exact this
 .rintro ρ ⟨g,q,z6,z7,z8,z9,rfl,hL,hQ,hb⟩;right;unfold wJ;rw[o7]at hL hQ;have hg:g=divL b d N f:=hL;have hq: ∀x,x<N->divQ b d N f x=q x:=λx hx=>by rw[hQ x hx,a7 ad]
  left
  refine⟨N,q,rfl,ad,?_⟩
  refine⟨L,g,rfl,ad,?_⟩
  left
  refine⟨ac,?_⟩
  have e3:gY (divQ b d N f) N=gY q N:=bK3 λm hm=>hq m hm
  have e4:rwF (gY q N) (divQ b d N f)=rwF (gY q N) q:=jY λm hm=>hq m (by have:=a51 q N;lia)
  rw[e3,e4,<-hg]at h;exact h
nonrec def conv (u b:∅):Nat->∅
 | 0,_=>0
 | n+1,m=>conv u b n m+u n*shF b n m
theorem oN {u b:∅}{d:Nat}(hb: ∀j,d<j->b j=0): ∀(n m:Nat),n+d<=m->conv u b n m=0
 | 0,m,_=>rfl
 | n+1,m,h=>by
  show conv u b n m+u n*shF b n m=0
  rw[oN hb n m ad]
  unfold shF;rw[a9 ad,hb _ ad]
  lia
theorem cG2 {u b low:∅}{d:Nat}(h1:b d=1)(hb: ∀j,d<j->b j=0)(hl: ∀m,d<=m->low m=0): ∀(n:Nat),divL b d n (λm=>conv u b n m+low m)=low/\ ∀x,x<n->divQ b d n (λm=>conv u b n m+low m) x=u x
 | 0=>⟨by funext m;show 0+low m=low m;lia,λx hx=>ad⟩
 | n+1=>by
  have top:conv u b (n+1) (n+d)+low (n+d)=u n:=by
   show conv u b n (n+d)+u n*shF b n (n+d)+low (n+d)=u n
   rw[oN hb n _<|aH _,hl _ ad]
   unfold shF;rw[a9 ad,show n+d-n=d by lia,h1]
   lia
  have st:divS b d n (λm=>conv u b (n+1) m+low m)=λm=>conv u b n m+low m:=by
   funext m
   show(conv u b (n+1) m+low m)-(conv u b (n+1) (n+d)+low (n+d))*shF b n m=_
   rw[top];show conv u b n m+u n*shF b n m+low m-u n*shF b n m=_
   lia
  obtain⟨i1,i2⟩:=cG2 (u:=u) h1 hb hl n;refine⟨?_,λx hx=> ?_⟩
  .show divL b d n (divS b d n _)=low
   rw[st];exact i1
  .show(if x=n then _ else divQ b d n (divS b d n _) x)=u x
   rw[st]
   by_cases c:x=n
   .rw[a9 c,c];exact top
   .rw[a7 c];exact i2 x ad
theorem bA0 (h:0<n):atI ((rwF n f).map D.int) (-1)=some (.int<|f<|n-1):=by
 unfold L2.atI;have e:ixN ((rwF n f).map D.int).length (-1)=some (n-1):=by
  unfold ixN;rw[bE,a7 ac,a9 ad]
  congr 1
  lia
 rw[e];exact nM ad
theorem cT5 (hf: ∀m,n<=m->f m=0): ∀m,gY f n<=m->f m=0:=λm hm=>by
 by_cases c:m<n
 .exact bY6 f n m hm c
 .exact hf m ad
nonrec def md (p:Int)(f:∅):∅:=λj=>f j%p
nonrec def c77 (c p:Int):∅
 | 0=>1
 | n+1=>c77 c p n*c%p
theorem bK6 {c p:Int}(hp:2<=p): ∀n,0<=c77 c p n/\c77 c p n<p
 | 0=>⟨by show(0:Int)<=1;lia,by show(1:Int)<p;lia⟩
 | n+1=>⟨cT _ ad,cX _ ad⟩
structure Pr (p:Int):Prop where
 lo:2<=p
 hi:p<200
 inv: ∀c:Int,0<c->c<p->c77 c p (p.toNat-2)*c%p=1
def Cg (p:Int)(f g:∅):Prop:= ∀m,f m%p=g m%p
theorem Cg.divS {p:Int}{b f g:∅}{d n:Nat}(h:Cg p f g):Cg p (divS b d n f) (divS b d n g):=λm=>by
 show(f m-f (n+d)*shF b n m)%p=(g m-g (n+d)*shF b n m)%p
 have h1:=h m;have h2:f (n+d)*shF b n m%p=g (n+d)*shF b n m%p:=by rw[gI,h<|n+d,<-gI]
 rw[a28,h1,h2,<-a28]
theorem Cg.divL {p:Int}{b:∅}{d:Nat}: ∀(n:Nat) {f g:∅},Cg p f g->Cg p (divL b d n f) (divL b d n g)
 | 0,_,_,h=>h
 | n+1,_,_,h=>Cg.divL n h.divS
theorem Cg.divQ {p:Int}{b:∅}{d:Nat}: ∀(n:Nat) {f g:∅},Cg p f g->Cg p (divQ b d n f) (divQ b d n g)
 | 0,_,_,h=>λ_=>rfl
 | n+1,f,g,h=>λx=>by
  show(if x=n then f (n+d)else M.divQ b d n (M.divS b d n f) x)%p=(if x=n then g (n+d)else M.divQ b d n (M.divS b d n g) x)%p
  by_cases c:x=n
  .rw[a9 c,a9 c];exact h _
  .rw[a7 c,a7 c];exact Cg.divQ n h.divS x
theorem bA1 {b:∅}{d:Nat}: ∀(n:Nat) (f:∅) (x:Nat),n<=x->divQ b d n f x=0
 | 0,_,_,_=>rfl
 | n+1,f,x,h=>by
  show(if x=n then f (n+d)else divQ b d n (divS b d n f) x)=0
  rw[a7 ad]
  exact bA1 n _ x ad
theorem bF0 {p:Int}{u u' b b':∅}(h: ∀i j,u' i*b' j%p=u i*b j%p): ∀n,Cg p (conv u' b' n) (conv u b n)
 | 0,_=>rfl
 | n+1,m=>by
  show(conv u' b' n m+u' n*shF b' n m)%p=(conv u b n m+u n*shF b n m)%p
  have h1:=bF0 h n m;have h2:u' n*shF b' n m%p=u n*shF b n m%p:=by
   unfold shF
   by_cases c:n<=m
   .rw[a9 c,a9 c];exact h _ _
   .rw[a7 c,a7 c,cU,cU]
  rw[iH,h1,h2,<-iH]
theorem cG3 {b:∅}{d:Nat}(hb: ∀j,d<j->b j=0):conv u b (U+1) (U+d)=u U*b d:=by
 show conv u b U (U+d)+u U*shF b U (U+d)=_
 rw[oN hb U _<|aH _];unfold shF;rw[a9 ad,show U+d-U=d by lia]
 lia
theorem dK1 {t:Int}{B0 low A:∅}{d:Nat}(hp:2<=p)(hB: ∀j,d<j->B0 j=0)(hU:U=0\/u (U-1)≠0)(uR: ∀j,0<=u j/\u j<p)(uz: ∀j,U<=j->u j=0)(lz: ∀j,d<=j->low j=0)(lR: ∀j,0<=low j/\low j<p)
  (ht:t*B0 d%p=1) (hA: ∀m,A m=(conv u B0 U m+low m)%p) (hn:U+d<=n) :
  let b:=λj=>t*B0 j%p
  let LA:=gY A n
  LA<=U+d/\(∀j,t*divQ b d (LA-d) A j%p=u j)/\(∀j,divL b d (LA-d) A j%p=low j)/\(∀m,LA<=m->divL b d (LA-d) A m%p=0):=by
 intro b LA;have b1:b d=1:=ht;have bz: ∀j,d<j->b j=0:=λj hj=>by
  show t*B0 j%p=0
  rw[hB j hj,cU,fU]
 have tc: ∀x:Int,t*(B0 d*x)%p=x%p:=λx=>by
  rw[<-qO,gI,ht,one_mul,kR]
 have cg:Cg p A (λm=>conv (λi=>B0 d*u i) b U m+low m):=λm=>by
  rw[hA m,kR];have:=bF0 (p:=p) (u:=u) (b:=B0) (u':=λi=>B0 d*u i) (b':=b) (λi j=>by
   show B0 d*u i*(t*B0 j%p)%p=u i*B0 j%p
   rw[gI,kR,<-gI];have e:B0 d*u i*(t*B0 j)=t*(B0 d*(u i*B0 j)):=by
    simp only[lU,Int.mul_left_comm,qO]
   rw[e,tc]) U m
  show(conv u B0 U m+low m)%p=(conv (λi=>B0 d*u i) b U m+low m)%p
  rw[iH,<-this,<-iH]
 obtain⟨e1,e2⟩:=cG2 (u:=λi=>B0 d*u i) (low:=low) b1 bz lz U
 have Az: ∀m,U+d<=m->A m=0:=λm hm=>by
  rw[hA m,oN hB U m hm,lz m ad]
  exact fU _
 have hL:(U=0/\LA<=d)\/(0<U/\LA=U+d):=by
  have hle:LA<=U+d:=by
   rcases bY5 A n with h|h
   .show gY A n<=U+d
    lia
   .exact zU λq=>h (Az _ (by show U+d<=LA-1;lia))
  by_cases c:U=0
  .exact .inl ⟨c,ad⟩
  .refine .inr ⟨ad,?_⟩
   refine wI hn (λm m1 m2=>Az m m1) (.inr λq=> ?_)
   obtain⟨U',rfl⟩: ∃U',U=U'+1:=⟨U-1,ad⟩
   rw[show U'+1+d-1=U'+d by lia,hA,cG3 hB,lz _ ad,iG]at q
   have h1:=tc (u U');rw[gI,show B0 d*u U'=u U'*B0 d from lU _ _,q,cU,fU,fL (uR _).1 (uR _).2]at h1
   rcases hU with h|h
   .lia
   .exact h (by exists h1.symm)
 have hN:LA-d=U:=ad
 have r: ∀j,divL b d U A j%p=low j:=λj=>by
  rw[Cg.divL U cg j,e1,fL (lR j).1 (lR j).2]
 refine⟨ad,λj=> ?_,λj=>by rw[hN];exact r j,λm hm=> ?_⟩
 .rw[hN]
  by_cases c:j<U
  .have h1:=Cg.divQ (b:=b) (d:=d) U cg j;rw[e2 j c]at h1;rw[gI,h1,<-gI];show t*(B0 d*u j)%p=u j;rw[tc,fL (uR _).1 (uR _).2]
  .rw[bA1 U A j ad,uz j ad,cU,fU]
 .rw[hN];rcases hL with⟨h1,h2⟩| ⟨h1,h2⟩
  .subst h1;show A m%p=0;rw[cT5 (λm hm=>Az m ad) m hm]
   exact fU _
  .rw[r m];exact lz m ad
def jO:Φ:=λds Q=> ∃(n:Nat) (f:∅) (p:Int),ds=[aI<|rwF n f,.int p]/\n<=1000/\0<p/\Q (.pu<|aI<|rwF (gY (md p f) n)<|md p f)
def xF:US:=(cW<|aQ aD6<|a8 (aQ cF<|a8 (dF [1] [none,some 1,none] 2 (dW<|aC 0) (bO 0) (λρ Q=>Q true ρ)<|uOp jX (aC 0)<|aC 1) aN) aN)
theorem dZ2 (Q:B->Ev->Prop)(n:Nat)(f:∅)(p:Int)(hn:n<=1000)(hp:0<p)(k:Nat->D)(iS:Ev)(x0:D)(hx:x0=aI (rwF n f)\/x0= .lst ((rwF n f).map .int))(h:Q (.ow<|(rwF n<|md p f).map .int) (some (.pu x0)::some (.pu<|.int p)::iS)) :
  (dF [1] [none,some 1,none] 2 (dW<|aC 0) (bO 0) (λρ Q=>Q true ρ) (uOp jX (aC 0)<|aC 1):UE) (some (.pu x0)::some (.pu<|.int p)::iS) Q:=by
 refine dC (t0:=0) n (λk=>((rwF n f).map D.int).getD k .non) (some (.pu x0)::some (.pu<|.int p)::iS) ?_ ad (λx l=>[x,!p,↑l]) none rfl (λ_ _ _=>rfl) (λ_ _=>bW _) (λ_ _ _ q=>q) (λ_ _ _=>rfl) (λk=> .int (md p f k)) ?_ ?_
 .intro Q' q;rcases hx with rfl|rfl
  .simp only[aI]at q⊢;left;rw[bE];exact q
  .left
   rw[bE];exact q
 .intro k l Q' hk q;rw[iK hk]at q⊢;left;refine⟨ad,?_⟩
  rw[cM _ hp];exact q
 .rw[kX];exact h
theorem bS2: Ra jO xF ["r","p"]:=by
 rintro ds Q ⟨n,f,p,rfl,hn,hp,h⟩;unfold xF;show(cW _:US) _ [~~~aI (rwF n f),!p];rw[jS,dG,d4,dG,d4];refine dZ2 _ n f p hn hp (λ_=> .non) [] _ (.inl rfl) ?_
 left
 exact⟨n,md p f,rfl,hn,h⟩
theorem cT6 (u b:∅)(i N:Nat):(rwF N λm=>if m<i+0 then conv u b (i+1) m else conv u b i m)=rwF N (conv u b i):=by
 apply jY
 intro m hm
 by_cases c:m<i+0
 .rw[a9 c];show conv u b i m+u i*shF b i m=_;unfold shF;rw[a7 ad]
  lia
 .rw[a7 c]
theorem cT7 {b:∅}{V N:Nat}(hz: ∀j,V<=j->b j=0):(rwF N λm=>if m<i+V then conv u b (i+1) m else conv u b i m)=rwF N (conv u b (i+1)):=by
 apply jY
 intro m hm
 by_cases c:m<i+V
 .rw[a9 c]
 .rw[a7 c];show _=conv u b i m+u i*shF b i m;unfold shF;rw[a9 ad,hz _ ad]
  lia
theorem cT8 (u b:∅)(i j N:Nat):(rwF N λx=>if x=i+j then conv u b i (i+j)+u i*b j else if x<i+j then conv u b (i+1) x else conv u b i x)=rwF N λm=>if m<i+(j+1)then conv u b (i+1) m else conv u b i m:=by
 apply jY
 intro m hm
 by_cases c:m=i+j
 .subst c;rw[a9 rfl,a9 ad]
  show _=conv u b i (i+j)+u i*shF b i (i+j)
  unfold shF;rw[a9 ad,show i+j-i=j by lia]
 .rw[a7 c]
  by_cases c3:m<i+j
  .rw[a9 c3,a9 ad]
  .rw[a7 c3,a7 ad]
theorem aY4 {u b:∅}{U:Nat}: ∀n,(∀j,U<=j->j<n->u j=0)->U<=n-> ∀m,conv u b n m=conv u b U m
 | 0,h,h2,m=>by rw[show U=0 by lia]
 | n+1,h,h2,m=>by
  by_cases c:U=n+1
  .rw[c]
  .show conv u b n m+u n*shF b n m=_
   rw[h n ad ad,aY4 n (λj a c=>h j a ad) ad m]
   lia
theorem md_nat (h1:2<=p)(h2:p<200)(f:∅)(j:Nat):(md p f j).natAbs<=2^8:=by
 unfold md;have a1:=cT (f j) (show p≠0 by lia)
 have a2:=cX (f j) (show 0<p by lia)
 show _<=256
 lia
def wL:Φ:=λds Q=> ∃(n:Nat) (f:∅) (k p:Int),ds=[aI<|rwF n f,.int k,.int p]/\n<=1000/\0<=k/\k<200/\0<p/\Q (.pu<|aI<|rwF (gY (λj=>k*f j%p) n) λj=>k*f j%p)
def aD7:US:=(cW<|aQ jO<|a8 (aQ cF<|a8 (dF [1] [none,some 1,none] 2 (dW<|aC 0) (bO 0) (λρ Q=>Q true ρ)<|uOp fG (aC 1)<|aC 0) aN)<|a8 (aC 2) aN)
theorem cG4: Ra wL aD7 ["f","k","p"]:=by
 rintro ds Q ⟨n,f,k,p,rfl,hn,k0,k9,hp,h⟩;unfold aD7;show(cW _:US) _ [~~~aI (rwF n f),!k,!p];rw[jS,dG,d4,dG,d4]
 refine dC (t0:=0) n (λi=>((rwF n f).map D.int).getD i .non) [~~~aI (rwF n f),!k,!p] ?_ ad (λx l=>[x,!k,↑l]) none rfl (λ_ _ _=>rfl) (λ_ _=>bW _) (λ_ _ _ q=>q) (λ_ _ _=>rfl) (λi=> .int (k*f i)) ?_ ?_
 .intro Q' q;simp only[aI]at q⊢;left;rw[bE];exact q
 .intro i l Q' hk q;rw[iK hk]at q⊢;left;exact⟨cmL ad ad,q⟩
 .rw[kX];left;exact⟨n,λi=>k*f i,p,rfl,hn,hp,h⟩
def sT:Φ:=λds Q=> ∃c p:Int,ds=[.int c,.int p]/\0<=c/\c<p/\2<=p/\p<200/\Q (.pu<|.int<|c77 c p<|p.toNat-2)
def sU:US:=(aS (bF 2<|@1)<|aS (gP (fX<|a8 (uOp M.gSub (aC 1)<|@2) aN) (bO 3)<|bF 2<|uOp jX (uOp fG (aC 2)<|aC 0)<|aC 1)<|oK 2)
theorem bC0: Ra sT sU ["c","p","v","s"]:=by
 rintro ds Q ⟨c,p,rfl,c0,c1,p2,p9,h⟩;unfold sU;show(aS _ _:US) _ [!c,!p,none,none];left;refine bB (p.toNat-2) (λk=> .int (0+k)) _ ?_
  (λk ρ=> ∃z,ρ=[!c,!p,!c77 c p k,z]) ⟨none,rfl⟩ ?_ ?_
 .intro Q' q;left;refine⟨⟨ad,ad⟩,?_⟩
  rw[show(p-2).toNat=p.toNat-2 by lia]
  exact q
 .rintro k ρ hk ⟨z,rfl⟩;have:=bK6 (c:=c) p2 k;left;refine⟨ae,cmL ad ad,ad,!(0+(k:Int)),?_⟩
  rw[cM _ ad]
  rfl
 .rintro ρ ⟨z,rfl⟩;left;exact h
def sV:Φ:=λds Q=> ∃(n k d:Nat) (f g:∅) (p:Int),ds=[aI<|rwF n f,aI<|rwF k g,.int p]/\n<=50/\k<=50/\Pr p/\(∀j,k<=j->g j=0)/\d<k/\(∀j,d<j->md p g j=0)/\md p g d≠0/\
 ∀t,t*md p g d%p=1->0<=t->t<p->
  let b:=λj=>t*md p g j%p
  let LA:=gY (md p f) n
  let q:=divQ b d (LA-d) (md p f)
  let r:=divL b d (LA-d) (md p f)
  Q (.pu<|.tup [aI<|rwF (gY (λj=>t*q j%p)<|gY q<|LA-d) λj=>t*q j%p,aI<|rwF (gY (md p r)<|gY r LA)<|md p r])
def yV:US:=(cW<|iR<|a8 (aQ wL<|a8 (aC 5)<|a8 (aC 4)<|a8 (aC 2) aN)<|a8 (aQ jO<|a8 (aC 6)<|a8 (aC 2) aN) aN)
def rA:US:=(aS (dD5 (aQ gL<|a8 (aQ jO<|a8 (aC 0)<|a8 (aC 2) aN)<|a8 (aQ wL<|a8 (aC 3)<|a8 (aC 4)<|a8 (aC 2) aN) aN)<|tI<|fP 5<|fP 6 tH) yV)
def sW:US:=(aS (bF 3<|aQ jO<|a8 (aC 1)<|a8 (aC 2) aN)<|aS (bF 4<|aQ sT<|a8 (uIx (aT 3)<|lZ<|@1)<|a8 (aC 2) aN) rA)
theorem bC1: Ra sV sW ["a","b","p","l","t","q","r"]:=by
 rintro ds Q ⟨n,k,d,f,g,p,rfl,hn,hk,pp,gz,dk,dz,d0,h⟩;have p2:=pp.lo;have p9:=pp.hi;unfold sW;show(aS _ _:US) _ [~~~aI (rwF n f),~~~aI (rwF k g),!p,none,none,none,none];have ed:gY (md p g) k=d+1:=wI ad (λm m1 m2=>dz m ad) (.inr<|by exists d0)
 have c1:=cT (g d) (show p≠0 by lia)
 have c2:=cX (g d) (show 0<p by lia)
 have c3:0<md p g d:=by
  have:md p g d=g d%p:=rfl
  lia
 have tR:=bK6 (c:=md p g d) p2 (p.toNat-2);have ht:=pp.inv _ c3 c2;generalize et:c77 (md p g d) p (p.toNat-2)=t at tR ht;have bA: ∀j,0<=t*md p g j%p/\t*md p g j%p<p:=λj=>⟨cT _ ad,cX _ ad⟩
 have hc:gY (λj=>t*md p g j%p) (d+1)=d+1:=wI (aH _) (λm a b=>ad) (.inr (by
  show t*md p g d%p≠0
  rw[ht];decide))
 have LA9:=a51 (md p f) n;have low:aI (rwF (gY (md p g) k)<|md p g)= .tup ((rwF (d+1)<|md p g).map .int):=by rw[ed];rfl
 left
 refine⟨k,g,p,rfl,ad,ad,?_⟩
 rw[low];left;rw[bA0 ad]
 left
 refine⟨md p g d,p,rfl,ad,c2,p2,p9,?_⟩
 rw[et];show rA _ [~~~aI (rwF n f),~~~aI (rwF k g),!p,~~~aI (rwF (d+1) (md p g)),!t,none,none];unfold rA;left;refine⟨n,f,p,rfl,ad,ad,?_⟩
 refine⟨d+1,md p g,t,p,rfl,ad,ad,ad,ad,?_⟩
 rw[hc];refine⟨gY (md p f) n,d,8,8,md p f,λj=>t*md p g j%p,rfl,⟨ad,ad,ht,λj hj=>by
  show t*md p g j%p=0
  rw[dz j hj,cU,fU],λm _=>md_nat p2 p9 f m,λj=>by
   have:=bA j;show(t*md p g j%p).natAbs<=256
   lia,ad,ac⟩,?_⟩
 have hh:=h t ht tR.1 tR.2;have q9:=a51 (divQ (λj=>t*md p g j%p) d (gY (md p f) n-d)<|md p f) (gY (md p f) n-d)
 have r9:=a51 (divL (λj=>t*md p g j%p) d (gY (md p f) n-d)<|md p f) (gY (md p f) n)
 simp only[]at hh;left;refine⟨ae,ae,trivial,?_⟩
 unfold yV;left;refine⟨_,_,t,p,rfl,ad,ad,ad,ad,?_⟩
 refine⟨_,_,p,rfl,ad,ad,?_⟩
 left
 exact⟨ac,hh⟩
theorem a52 {tt:UT}(n:Nat)(it:Nat->D)(ρ1:Ev)(hui: ∀Q:Nat->(Nat->D)->Ev->Prop,Q n it ρ1->ui ρ Q)(hn:n<=1000)
  (G:Option B->List D->Ev) (x0:Option B) (h0:pP (xC ρ1 js) cap last=G x0 []) (h1: ∀x l b,(G x l).set t0 (some b)=G (some b) l) (h1': ∀x l,t0< (G x l).length) (h2: ∀x l (Q:List D->Prop),Q l->lH (G x l) last Q) (h3: ∀x l l',(G x l).set last (↑l')=G x l')
  (c:Nat->Bool) (f:Nat->D) (htt: ∀i l (Q':Bool->Ev->Prop),i<n->Q' (c i) (G (~~~it i) l)->tt (G (~~~it i) l) Q')
  (hte: ∀i l (Q':B->Ev->Prop),i<n->Q' (.pu<|f i) (G (~~~it i) l)->te (G (~~~it i) l) Q') (hq:Q (.ow<|((List.range n).filter c).map f) (xC ρ1 js)) :
  dF js cap last ui (bO t0) tt te ρ Q:=by
 refine hui _ ⟨λi ρ'=> ∃x,ρ'=G x (((List.range i).filter c).map f),⟨x0,h0⟩,?_,?_⟩
 .rintro i ρ' hi ⟨x,rfl⟩;refine⟨h1' _ _,?_⟩;rw[h1];right;refine htt i _ _ hi ?_
  by_cases hc:c i=true
  .rw[a9 hc];refine hte i _ _ hi (h2 _ _ _ ⟨?_,~~~it i,?_⟩)
   .rw[aG];exact iC (a01 ..) (by rw[jH];exact b9 hi (aJ hn ac))
   .rw[h3,cI,List.filter_append,bX];simp[hc];rfl
  .rw[a7 hc];refine⟨~~~it i,?_⟩;rw[cI,List.filter_append,bX];simp[hc]
 .rintro ρ' ⟨x,rfl⟩;exact h2 _ _ _ hq
nonrec def prB (i k:Nat):Bool:=if(2:Int)+(i:Int)=2+(k:Int)then true else not<|decide (((2:Int)+(i:Int))%(2+(k:Int))=0)
nonrec def prC (i:Nat):Bool:=((List.range 13).map<|prB i).all id
nonrec def prL:List Int:=((List.range 198).filter prC).map λi:Nat=>(2:Int)+(i:Int)
theorem cG5 {c p:Nat}(hp:2<=p): ∀n,c77 (c:Int) (p:Int) n=((c^n%p:Nat):Int)
 | 0=>by
  show(1:Int)=_
  rw[Nat.pow_zero,Nat.mod_eq_of_lt ad]
  rfl
 | n+1=>by
  show c77 (c:Int) (p:Int) n*(c:Int)%(p:Int)=_
  rw[cG5 hp n,<-aR7,<-Int.natCast_emod,uI,Nat.mod_mul_mod]
theorem pr_all:prL.all (λp=>decide (2<=p)&&decide (p<200)&&(List.range p.toNat).all λc=>decide (c=0)||decide (c^(p.toNat-2)%p.toNat*c%p.toNat=1))=true:=af
theorem b52 (h:p∈prL):Pr p:=by
 have h1:=eR.mp pr_all p h;simp only[eG,gD,eR,eI,a18]at h1;obtain⟨⟨a,b⟩,c⟩:=h1;refine⟨a,b,λx x0 x1=> ?_⟩
 obtain⟨q,rfl⟩: ∃q:Nat,p=(q:Int):=⟨p.toNat,ad⟩
 obtain⟨y,rfl⟩: ∃y:Nat,x=(y:Int):=⟨x.toNat,ad⟩
 have h2:=c y ad
 rw[cD]at h2⊢;rw[cG5 ad,<-aR7,<-Int.natCast_emod]
 rcases h2 with h2|h2
 .lia
 .rw[h2];rfl
nonrec def T_SMALL_PRIMES:List Int:=[2,3,5,7,11,13,17,19,23,29,31,37,41,43,47,53,59,61,67,71,73,79,83,89,97,101,103,107,109,113,127,131,137,139,149,151,157,163,167,173,179,181,191,193,197,199]
theorem tp_ok: ∀p∈T_SMALL_PRIMES,2<=p/\p<200:=af
theorem c78:T_SMALL_PRIMES.length=46:=rfl
def lJ:Φ:=λds Q=>ds=[]/\Q (.ow<|T_SMALL_PRIMES.map .int)
def oZ:US:=(cW<|aQ aI8<|a8 (uC<|.tup<|T_SMALL_PRIMES.map .int) aN)
theorem aY5: Ra lJ oZ []:=by
 rintro ds Q ⟨rfl,h⟩;unfold oZ;show(cW _:US) _ [];left;exact h
theorem dK2:prL=T_SMALL_PRIMES:=af
nonrec def ps (f:∅)(z:Int):∅
 | 0=>0
 | n+1=>ps f z n+f n*z^n
nonrec def hor (f:∅)(n:Nat)(z:Int):∅
 | 0=>0
 | k+1=>hor f n z k*z+f (n-1-k)
theorem dK3 (f:∅)(n:Nat)(z:Int): ∀k,k<=n->hor f n z k*z^(n-k)+ps f z (n-k)=ps f z n
 | 0,_=>by show(0:Int)*_+_=_;rw[jL,cK];rfl
 | k+1,h=>by
  have ih:=dK3 f n z k ad
  obtain⟨m,hm⟩: ∃m,n-k=m+1:=⟨n-k-1,ad⟩
  have e1:n-(k+1)=m:=ad
  have e2:n-1-k=m:=ad
  rw[hm]at ih;show(hor f n z k*z+f (n-1-k))*z^(n-(k+1))+ps f z (n-(k+1))=_;rw[e1,e2,<-ih];show _=hor f n z k*z^(m+1)+(ps f z m+f m*z^m);rw[a29,a33];have e3:hor f n z k*z*z^m=hor f n z k*(z^m*z):=by rw[qO,lU z]
  lia
theorem d03 (f:∅)(n:Nat)(z:Int):hor f n z n=ps f z n:=by
 have:=dK3 f n z n (aH _);rw[o7]at this;have e:hor f n z n*z^0+ps f z 0=hor f n z n:=by
  show hor f n z n*z^0+0=_
  rw[qQ,o8,iG]
 lia
theorem b53 {f:∅}{n a b:Nat}{z:Int}(hf: ∀j,(f j).natAbs<=2^a)(hz:z.natAbs<=2^b): ∀k,(hor f n z k).natAbs<=2^(a+(b+1)*k)
 | 0=>by simp[hor]
 | k+1=>by
  show(hor f n z k*z+f (n-1-k)).natAbs<=_
  have ih:=b53 (n:=n) hf hz k;have h1:(hor f n z k*z).natAbs<=2^(a+(b+1)*k)*2^b:=by rw[eT];exact gF ih hz
  have h2:=hf (n-1-k);have h3:=a09 (hor f n z k*z) (f<|n-1-k);have e1:2^(a+(b+1)*(k+1))=2^(a+(b+1)*k)*2^b+2^(a+(b+1)*k)*2^b:=by
   rw[uJ,<-qN,<-qN,uI,iI 2 (a+(b+1)*k) b];lia
  have h4:2^a<=2^(a+(b+1)*k)*2^b:=by
   rw[<-iI];exact eQ ac ad
  lia
theorem dK4 (f g:∅)(z:Int): ∀n,ps (λj=>f j+g j) z n=ps f z n+ps g z n
 | 0=>rfl
 | n+1=>by
  show ps (λj=>f j+g j) z n+(f n+g n)*z^n=ps f z n+f n*z^n+(ps g z n+g n*z^n)
  rw[dK4 f g z n,a33]
  lia
theorem dK5 (c:Int)(f:∅)(z:Int): ∀n,ps (λj=>c*f j) z n=c*ps f z n
 | 0=>by show(0:Int)=c*0;rw[cU]
 | n+1=>by
  show ps (λj=>c*f j) z n+c*f n*z^n=c*(ps f z n+f n*z^n)
  rw[dK5 c f z n,a34,qO]
theorem c79 {f:∅}{z:Int}{n:Nat}: ∀m,n<=m->(∀j,n<=j->j<m->f j=0)->ps f z m=ps f z n
 | 0,h,_=>by rw[show n=0 by lia]
 | m+1,h,hz=>by
  by_cases c:n=m+1
  .rw[c]
  .show ps f z m+f m*z^m=_
   rw[hz m ad ad,jL,iG]
   exact c79 m ad λj a b=>hz j a ad
theorem bY7 (b:∅)(z:Int)(U:Nat): ∀n,n<=U->ps (shF b U) z n=0
 | 0,_=>rfl
 | n+1,h=>by
  show ps (shF b U) z n+shF b U n*z^n=0
  rw[bY7 b z U n aa]
  unfold shF;rw[a7 aa,jL]
  rfl
theorem cG6 (b:∅)(z:Int)(U:Nat): ∀m,ps (shF b U) z (U+m)=z^U*ps b z m
 | 0=>by rw[Nat.add_zero,bY7 b z U U<|aH _];show(0:Int)=z^U*0;rw[cU]
 | m+1=>by
  show ps (shF b U) z (U+m)+shF b U (U+m)*z^(U+m)=z^U*(ps b z m+b m*z^m)
  rw[cG6 b z U m];unfold shF;rw[a9 ad,show U+m-U=m by lia,Int.pow_add,a34,Int.mul_left_comm]
theorem d04 {u b:∅}{z:Int}{V:Nat}(hb: ∀j,V<=j->b j=0): ∀U N,U+V<=N->ps (conv u b U) z N=ps u z U*ps b z V
 | 0,N,_=>by
  have:ps (conv u b 0) z N=0:=by
   have e:ps (conv u b 0) z N=ps (conv u b 0) z 0:=c79 N (dM _) λ_ _ _=>rfl
   rw[e];rfl
  rw[this];show(0:Int)=0*_;rw[jL]
 | U+1,N,h=>by
  have e:conv u b (U+1)=λm=>conv u b U m+u U*shF b U m:=rfl
  rw[e,dK4 (conv u b U) λm=>u U*shF b U m,d04 hb U N ad,dK5]
  obtain⟨m,rfl⟩: ∃m,N=U+m:=⟨N-U,ad⟩
  rw[cG6,c79 (n:=V) m ad λj a _=>hb j a]
  show _=(ps u z U+u U*z^U)*ps b z V
  rw[a33,qO<|u U]
structure e53 (n a b:Nat)(f:∅)(z:Int):Prop where
 fb: ∀j,(f j).natAbs<=2^a
 zb:z.natAbs<=2^b
 room:a+(b+1)*n<8000
 b8:b<8000
 n9:n<=200
def tP:Φ:=λds Q=> ∃(n a b:Nat) (f:∅) (z:Int),ds=[aI<|rwF n f,.int z]/\e53 n a b f z/\Q (.pu<|.int<|ps f z n)
def a53:US:=(aS (bF 2<|@0)<|aS (gP (cZ0<|a8 (aC 0) aN) (bO 3)<|bF 2<|uOp eV (uOp fG (aC 2)<|aC 1)<|aC 3)<|oK 2)
theorem c80: Ra tP a53 ["f","z","v","c"]:=by
 rintro ds Q ⟨n,a,b,f,z,rfl,ok,h⟩;unfold a53;simp only[aI];show(aS _ _:US) _ [~~~.tup ((rwF n f).map .int),!z,none,none];left;refine bB n (λk=>((rwF n f).map D.int).getD (n-1-k) .non) _ ?_
  (λk ρ=> ∃c,ρ=[~~~.tup ((rwF n f).map .int),!z,!hor f n z k,c]) ⟨none,rfl⟩ ?_ ?_
 .intro Q' q;left;rw[bE];exact q
 .rintro k ρ hk ⟨c,rfl⟩;rw[iK aa]
  left
  have room:=ok.room;have:(b+1)*k<=(b+1)*n:=a05 _ aa
  exact⟨ae,.inr ⟨Sm.pow (b53 ok.fb ok.zb k) aa,Sm.pow ok.zb (by have:=ok.b8;omega)⟩,_,rfl⟩
 .rintro ρ ⟨c,rfl⟩;left;rw[d03];exact h
theorem d05 (f g:∅)(n m:Nat):shF (λj=>f j+g j) n m=shF f n m+shF g n m:=by
 unfold shF;right;split<;>lia
theorem dZ3 (c:Int)(f:∅)(n m:Nat):shF (λj=>c*f j) n m=c*shF f n m:=by
 unfold shF;right;split
 .rfl
 .rw[cU]
theorem shF_sh (h:∅)(n k m:Nat):shF (shF h n) k m=shF h (n+k) m:=by
 unfold shF
 by_cases c:k<=m
 .rw[a9 c]
  by_cases d:n<=m-k
  .rw[a9 d,a9 ad,show m-k-n=m-(n+k)by lia]
  .rw[a7 d,a7 ad]
 .rw[a7 c,a7 ad]
theorem bY8 (f g b:∅)(m:Nat): ∀n,conv (λj=>f j+g j) b n m=conv f b n m+conv g b n m
 | 0=>rfl
 | n+1=>by
  show conv (λj=>f j+g j) b n m+(f n+g n)*shF b n m=conv f b n m+f n*shF b n m+(conv g b n m+g n*shF b n m)
  rw[bY8 f g b m n,a33]
  lia
theorem bY9 (c:Int)(f b:∅)(m:Nat): ∀n,conv (λj=>c*f j) b n m=c*conv f b n m
 | 0=>by show(0:Int)=c*0;rw[cU]
 | n+1=>by
  show conv (λj=>c*f j) b n m+c*f n*shF b n m=c*(conv f b n m+f n*shF b n m)
  rw[bY9 c f b m n,a34,qO]
theorem cG7 (f b:∅)(k m:Nat): ∀n,conv (shF f k) b (k+n) m=shF (conv f b n) k m
 | 0=>by
  have e: ∀j,j<=k->conv (shF f k) b j m=0:=by
   intro j
   induction j with
   | zero=>intro _;rfl
   | succ j ih=>
    intro hj;show conv (shF f k) b j m+shF f k j*shF b j m=0;rw[ih ad]
    unfold shF;rw[a7 ad,jL]
    rfl
  rw[Nat.add_zero,e k<|aH _];unfold shF;split<;>rfl
 | n+1=>by
  show conv (shF f k) b (k+n) m+shF f k (k+n)*shF b (k+n) m=shF (λm=>conv f b n m+f n*shF b n m) k m
  rw[cG7 f b k m n,d05,dZ3,shF_sh,add_comm n k]
  congr 2
  unfold shF;rw[a9 ad,show k+n-k=n by lia]
theorem bK7 {u b c:∅}{V:Nat}(hb: ∀j,V<=j->b j=0)(m:Nat): ∀U,conv u (conv b c V) U m=conv (conv u b U) c (U+V) m
 | 0=>by
  have e: ∀n,conv (conv u b 0) c n m=0:=by
   intro n
   induction n with
   | zero=>rfl
   | succ n ih=>
    show conv (conv u b 0) c n m+0*shF c n m=0
    rw[ih,jL];rfl
  rw[e];rfl
 | U+1=>by
  show conv u (conv b c V) U m+u U*shF (conv b c V) U m=conv (λm=>conv u b U m+u U*shF b U m) c (U+1+V) m
  rw[bY8,bY9,bK7 hb m U];have z1: ∀j,U+V<=j->j<U+1+V->conv u b U j=0:=λj h1 h2=>by
   have: ∀i,V<i+1->b i=0:=λi hi=>hb i ad
   by_cases v:V=0
   .subst v;have e:b=λ_=>0:=funext λj=>hb j (dM _)
    rw[e];have nul: ∀n,conv u (λ_=>0) n j=0:=by
     intro n
     induction n with
     | zero=>rfl
     | succ n ih=>
      show conv u (λ_=>0) n j+u n*shF (λ_=>0) n j=0
      rw[ih];unfold shF;split<;>rw[cU]<;>rfl
    exact nul U
   .exact oN (d:=V-1) (λi hi=>hb i ad) U j ad
  rw[aY4 (u:=conv u b U) (b:=c) (U:=U+V) (U+1+V) z1 ad]
  have z2: ∀j,U+V<=j->j<U+1+V->shF b U j=0:=λj h1 h2=>by
   unfold shF;rw[a9 ad]
   exact hb _ ad
  rw[aY4 (u:=shF b U) (b:=c) (U:=U+V) (U+1+V) z2 ad,cG7]
theorem b54 (u f g:∅)(m:Nat): ∀n,conv u (λj=>f j+g j) n m=conv u f n m+conv u g n m
 | 0=>rfl
 | n+1=>by
  show conv u (λj=>f j+g j) n m+u n*shF (λj=>f j+g j) n m=conv u f n m+u n*shF f n m+(conv u g n m+u n*shF g n m)
  rw[b54 u f g m n,d05,a34]
  lia
theorem aY6 (c:Int)(k:Nat)(hu: ∀j,n<=j->u j=0)(m:Nat):conv u (λj=>if j=k then c else 0) n m=c*shF u k m:=by
 have e: ∀n,conv u (λj=>if j=k then c else 0) n m=if k<=m/\m-k<n then c*u (m-k)else 0:=by
  intro n
  induction n with
  | zero=>rw[a7 aa];rfl
  | succ n ih=>
   show conv u (λj=>if j=k then c else 0) n m+u n*shF (λj=>if j=k then c else 0) n m=_
   have sh:shF (λj=>if j=k then c else 0) n m=if n<=m/\m-n=k then c else 0:=by
    unfold shF;right
    by_cases h3:n<=m
    .rw[a9 h3]
     by_cases h4:m-n=k
     .rw[a9 h4,a9 ⟨h3,h4⟩]
     .rw[a7 h4,a7 λz=>h4 z.2]
    .rw[a7 h3,a7 λz=>h3 z.1]
   rw[ih,sh]
   by_cases h1:k<=m/\m-k<n
   .rw[a9 h1,a7<|show ¬(n<=m/\m-n=k)by omega,a9<|show k<=m/\m-k<n+1 by omega,cU,iG]
   .rw[a7 h1]
    by_cases h2:k<=m/\m-k=n
    .rw[a9<|show n<=m/\m-n=k by omega,a9<|show k<=m/\m-k<n+1 by omega,h2.2,cK,lU]
    .rw[a7<|show ¬(n<=m/\m-n=k)by omega,a7<|show ¬(k<=m/\m-k<n+1)by omega,cU]
     rfl
 rw[e n];unfold shF
 by_cases h1:k<=m
 .rw[a9 h1]
  by_cases h2:m-k<n
  .rw[a9 ⟨h1,h2⟩]
  .rw[a7 aa,hu _ aa,cU]
 .rw[a7 h1,a7 aa,cU]
theorem bZ0 {b:∅}{V:Nat}(hu: ∀j,U<=j->u j=0)(hb: ∀j,V<=j->b j=0)(m:Nat):conv u b U m=conv b u V m:=by
 have e: ∀n,conv u b n m=conv b (λj=>if j<n then u j else 0) V m:=by
  intro n
  induction n with
  | zero=>
   have:(λj=>if j<0 then u j else 0)=λj=>if j=0 then(0:Int)else 0:=funext λj=>ae
   rw[this,aY6 0 0 hb,jL];rfl
  | succ n ih=>
   have:(λj=>if j<n+1 then u j else 0)=λj=>(if j<n then u j else 0)+(if j=n then u n else 0):=funext λj=>by
    by_cases h1:j<n
    .rw[a9 ad,a9 h1,a7 ad,iG]
    .by_cases h2:j=n
     .subst h2;rw[a9 ad,a7 h1,a9 rfl,cK]
     .rw[a7 ad,a7 h1,a7 h2];rfl
   rw[this,b54 b (λj=>if j<n then u j else 0) λj=>if j=n then u n else 0,aY6 _ _ hb,<-ih]
   rfl
 rw[e U]
 congr 1
 funext j
 by_cases h:j<U
 .rw[a9 h]
 .rw[a7 h,hu j ad]
theorem emL (a b p:Int):a%p*b%p=a*b%p:=by rw[gI,kR,<-gI]
theorem emR (a b p:Int):a*(b%p)%p=a*b%p:=by rw[gI,kR,<-gI]
structure MP (p:Int)(n:Nat)(f:∅):Prop where
 top:f n=1
 hi: ∀j,n<j->f j=0
 rng: ∀j,0<=f j/\f j<p
nonrec def tm (p:Int)(a b:Nat×∅):Nat×∅:=(a.1+b.1,md p<|conv a.2 b.2 (a.1+1))
theorem cG8 (u b:∅)(n m:Nat):conv (md p u) b n m%p=conv u b n m%p:=bF0 (λi j=>by show u i%p*b j%p=_;rw[emL]) n m
theorem dK6 (u b:∅)(n m:Nat):conv u (md p b) n m%p=conv u b n m%p:=bF0 (λi j=>by show u i*(b j%p)%p=_;rw[emR]) n m
theorem MP.tm {b:Nat×∅}(hp:2<=p)(ha:MP p a.1 a.2)(hb:MP p b.1 b.2):MP p (M.tm p a b).1 (M.tm p a b).2:=by
 refine⟨?_,λj hj=> ?_,λj=>⟨cT _ ad,cX _ ad⟩⟩
 .show conv a.2 b.2 (a.1+1) (a.1+b.1)%p=1
  rw[cG3 hb.hi,ha.top,hb.top];exact fL ac ad
 .show conv a.2 b.2 (a.1+1) j%p=0
  have hj':a.1+b.1<j:=hj;rw[oN (d:=b.1) hb.hi (a.1+1) j ad,fU]
theorem aD8 {b c:Nat×∅}(hb: ∀j,b.1<j->b.2 j=0):tm p a (tm p b c)=tm p (tm p a b) c:=by
 refine kT (qN _ _ _).symm (funext λm=> ?_)
 show conv a.2 (md p<|conv b.2 c.2 (b.1+1)) (a.1+1) m%p=conv (md p<|conv a.2 b.2 (a.1+1)) c.2 (a.1+b.1+1) m%p
 rw[dK6,cG8,bK7 (V:=b.1+1) (λj hj=>hb j hj) m<|a.1+1]
 rw[aY4 (u:=conv a.2 b.2 (a.1+1)) (b:=c.2) (U:=a.1+b.1+1) (a.1+1+(b.1+1)) (λj h1 h2=>oN (d:=b.1) hb (a.1+1) j ad) ad]
theorem bF1 {b:Nat×∅}(ha: ∀j,a.1<j->a.2 j=0)(hb: ∀j,b.1<j->b.2 j=0):tm p a b=tm p b a:=by
 refine kT (add_comm _ _) (funext λm=> ?_)
 show conv a.2 b.2 (a.1+1) m%p=conv b.2 a.2 (b.1+1) m%p
 rw[bZ0 (U:=a.1+1) (V:=b.1+1) (λj hj=>ha j hj) λj hj=>hb j hj]
nonrec def tQ:Nat×∅:=(0,λj=>if j=0 then 1 else 0)
theorem MP.one (hp:2<=p):MP p tQ.1 tQ.2:=⟨rfl,λj hj=>a7 (by have:0<j:=hj;lia),λj=>by show 0<=(if j=0 then(1:Int)else 0)/\(if j=0 then(1:Int)else 0)<p;split<;>lia⟩
theorem dK7 (ha:MP p a.1 a.2):tm p tQ a=a:=by
 refine kT (Nat.zero_add _) (funext λm=> ?_)
 show(0+(if(0:Nat)=0 then(1:Int)else 0)*shF a.2 0 m)%p=a.2 m
 rw[a9 rfl,one_mul,cK];unfold shF;rw[a9<|dM _,a27];exact fL (ha.rng m).1 (ha.rng m).2
nonrec def vD (c:Int):Nat×∅:=(1,λj=>if j=0 then c else if j=1 then 1 else 0)
theorem MP.lin (hp:2<=p)(h0:0<=c)(h1:c<p):MP p (vD c).1 (vD c).2:=⟨rfl,λj hj=>by
  have:1<j:=hj;show(if j=0 then c else if j=1 then 1 else 0)=0;rw[a7 ad,a7 ad],λj=>by
  show 0<=(if j=0 then c else if j=1 then 1 else 0)/\(if j=0 then c else if j=1 then 1 else 0)<p
  split
  .lia
  .split<;>lia⟩
nonrec def va (p:Int)(a:Nat×∅)(z:Int):Int:=ps a.2 z (a.1+1)%p
theorem e54 (p:Int)(f:∅)(z:Int): ∀n,ps (md p f) z n%p=ps f z n%p
 | 0=>rfl
 | n+1=>by
  show(ps (md p f) z n+f n%p*z^n)%p=(ps f z n+f n*z^n)%p
  rw[iH,e54 p f z n,emL,<-iH]
theorem va_tm {b:Nat×∅}(hb: ∀j,b.1<j->b.2 j=0)(z:Int):va p (tm p a b) z=va p a z*va p b z%p:=by
 show ps (md p<|conv a.2 b.2 (a.1+1)) z (a.1+b.1+1)%p=ps a.2 z (a.1+1)%p*(ps b.2 z (b.1+1)%p)%p
 rw[e54,<-gI];have h:=d04 (u:=a.2) (b:=b.2) (z:=z) (V:=b.1+1) (λj hj=>hb j hj) (a.1+1) (a.1+1+(b.1+1)) (aH _)
 rw[<-h,c79 (n:=a.1+b.1+1) (a.1+1+(b.1+1)) ad λj h1 h2=>oN (d:=b.1) hb (a.1+1) j ad]
nonrec def hqA (c:Int)(f:∅)(n:Nat):∅
 | 0=>f n
 | k+1=>f (n-1-k)-c*hqA c f n k
nonrec def hq (c:Int)(f:∅)(n:Nat):∅:=λj=>if j<n then hqA c f n (n-1-j)else 0
theorem d06 (hf: ∀j,n<j->f j=0)(j:Nat)(hj:1<=j):f j=hq c f n (j-1)+c*hq c f n j:=by
 unfold hq
 by_cases h1:j<n
 .rw[a9<|show j-1<n by lia,a9 h1,show n-1-(j-1)=(n-1-j)+1 by lia]
  show f j=f (n-1-(n-1-j))-c*hqA c f n (n-1-j)+c*hqA c f n (n-1-j)
  rw[show n-1-(n-1-j)=j by lia]
  lia
 .by_cases h2:j=n
  .subst h2;rw[a9<|show j-1<j by lia,a7 h1,show j-1-(j-1)=0 by lia,cU,iG]
   rfl
  .rw[a7<|show ¬j-1<n by lia,a7 h1,hf j ad,cU]
   rfl
theorem e55 {c:Int}{f:∅}{n:Nat}(hf: ∀j,n<j->f j=0): ∀m,ps f (-c) (m+1)=f 0-c*hq c f n 0+c*hq c f n m*(-c)^m
 | 0=>by
  show 0+f 0*(-c)^0=_
  rw[qQ,o8,o8]
  lia
 | m+1=>by
  show ps f (-c) (m+1)+f (m+1)*(-c)^(m+1)=_
  rw[e55 hf m,d06 (c:=c) hf (m+1) ad,qF,a29]
  grind
theorem hq_at (hf: ∀j,n<j->f j=0):ps f (-c) (n+1)=f 0-c*hq c f n 0:=by
 rw[e55 hf n];have:hq c f n n=0:=by unfold hq;rw[a7<|dJ _]
 rw[this,cU,jL,iG]
theorem dK8 (c:Int)(hu: ∀j,n<=j->u j=0)(m:Nat):conv u (vD c).2 n m=c*u m+(if m=0 then 0 else u (m-1)):=by
 have e:(vD c).2=λj=>(if j=0 then c else 0)+(if j=1 then 1 else 0):=funext λj=>by
  show(if j=0 then c else if j=1 then 1 else 0)=_
  by_cases h0:j=0
  .subst h0;simp
  .rw[a7 h0,a7 h0,cK]
 rw[e,b54 u (λj=>if j=0 then c else 0) λj=>if j=1 then 1 else 0,aY6 c 0 hu,aY6 1 1 hu,one_mul]
 unfold shF;rw[a9<|dM _,a27]
 congr 1
 by_cases h0:m=0
 .rw[a9 h0,a7 ad]
 .rw[a7 h0,a9 ad]
theorem dZ4 (hf: ∀j,n<j->f j=0)(m:Nat):f m=conv (hq c f n) (vD c).2 n m+(if m=0 then f 0-c*hq c f n 0 else 0):=by
 rw[dK8 c (λj hj=>by unfold hq;rw[a7 ad])]
 by_cases h0:m=0
 .subst h0;rw[a9 rfl,a9 rfl];lia
 .rw[a7 h0,a7 h0,d06 (c:=c) hf m ad];lia
nonrec def powT (p:Int)(a g:Nat×∅):Nat->Nat×∅
 | 0=>a
 | k+1=>tm p (powT p a g k) g
theorem MP.powT {p:Int}{a g:Nat×∅}(hp:2<=p)(ha:MP p a.1 a.2)(hg:MP p g.1 g.2): ∀k,MP p (M.powT p a g k).1 (M.powT p a g k).2
 | 0=>ha
 | k+1=>MP.tm hp (MP.powT hp ha hg k) hg
theorem aY7 (p:Int)(a g:Nat×∅): ∀k,(powT p a g k).1=a.1+g.1*k
 | 0=>rfl
 | k+1=>by
  show(powT p a g k).1+g.1=_
  rw[aY7 p a g k,uJ,qN]
nonrec def allT (p:Int)(a:Nat×∅):List ((Nat×∅)×Nat)->Nat×∅
 | []=>a
 | x::l=>allT p (powT p a x.1 x.2) l
theorem wM (p:Int): ∀(l m:List ((Nat×∅)×Nat)) (a:Nat×∅),allT p a (l++m)=allT p (allT p a l) m
 | [],m,a=>rfl
 | x::l,m,a=>wM p l m _
theorem MP.allT {p:Int}(hp:2<=p): ∀(l:List ((Nat×∅)×Nat)) {a:Nat×∅},MP p a.1 a.2->(∀x∈l,MP p x.1.1 x.1.2)->MP p (M.allT p a l).1 (M.allT p a l).2
 | [],a,ha,_=>ha
 | x::l,a,ha,h=>MP.allT hp l (MP.powT hp ha (h x<|.head _) x.2) λy hy=>h y (.tail _ hy)
theorem cG9 (p:Int): ∀(l:List ((Nat×∅)×Nat)) (a:Nat×∅) (x:(Nat×∅)×Nat),x∈l->a.1+x.1.1*x.2<=(allT p a l).1
 | y::l,a,x,hx=>by
  show _<=(allT p (powT p a y.1 y.2) l).1
  have mono: ∀(l:List ((Nat×∅)×Nat)) (a:Nat×∅),a.1<=(allT p a l).1:=by
   intro l
   induction l with
   | nil=>intro a;exact aH _
   | cons z l ih=>intro a;exact aJ (by rw[aY7];lia) (ih<|powT p a z.1 z.2)
  rcases aZ.mp hx with rfl|hx
  .have:=mono l (powT p a x.1 x.2);rw[aY7]at this;exact this
  .have:=cG9 p l (powT p a y.1 y.2) x hx;rw[aY7]at this
   lia
nonrec def aD9 (x:(Nat×∅)×Nat):D:= .tup [aI<|rwF (x.1.1+1) x.1.2,.int (x.2:Int)]
nonrec def lnP (x:Int×Nat):(Nat×∅)×Nat:=(vD x.1,x.2)
structure LK (p:Int)(F:Nat×∅)(C:Nat)(cs:List (Int×Nat))(L:Nat×∅):Prop where
 prod:F=tm p (allT p tQ<|cs.map lnP) L
 mp:MP p L.1 L.2
 asc:cs.Pairwise λa b=>a.1<b.1
 mem: ∀x∈cs,0<=x.1/\x.1< (C:Int)/\1<=x.2
 nr: ∀c:Nat,c<C->va p L (-(c:Int))≠0
 len:cs.length<=C
theorem d07 (hp:2<=p){cs:List (Int×Nat)}(h: ∀x∈cs,0<=x.1/\x.1<p): ∀y∈cs.map lnP,MP p y.1.1 y.1.2:=by
 intro y hy;obtain⟨x,hx,rfl⟩:=dL.mp hy;exact MP.lin hp (h x hx).1 (h x hx).2
def vE:Φ:=λds Q=> ∃(n:Nat) (f:∅) (p:Int),ds=[aI<|rwF (n+1) f,.int p]/\n<=40/\Pr p/\MP p n f/\ ∀cs L,LK p (n,f) p.toNat cs L->Q (.pu<|.tup [.lst<|cs.map λx=>aD9 (lnP x),aI<|rwF (L.1+1) L.2])
def a94:US:=(cW<|iR<|a8 (aC 2)<|a8 (aC 3) aN)
def a95:US:=(aS (gP (fX<|a8 (aC 1) aN) (bO 4)<|aS (bF 5<|@0)<|aS (b35 (cQ<|uOp (gJ false) (uOp jX (aQ tP<|a8 (aC 3)<|a8 (lZ<|aC 4) aN)<|aC 1)<|@0)<|aS (bF 3<|uIx (uV<|aQ sV<|a8 (aC 3)<|a8 (iR<|a8 (aC 4)<|a8 @1 aN)<|a8 (aC 1) aN)<|@0)<|cC9 5 (gI2 λi j Q=>Q (.pu<|.int<|i+j))<|@1)<|fS (cQ<|uOp (oX λi j=>decide (j<i)) (aC 5)<|@0) (aK9 2<|iR<|a8 (iR<|a8 (aC 4)<|a8 @1 aN)<|a8 (aC 5) aN) dD) a94)
def a96:US:=(aS (bF 3<|aC 0) a95)
def vF:US:=(aS (bF 2<|gA aN) a96)
theorem dK9 (pp:Pr p){L:Nat×∅}(mp:MP p L.1 L.2)(c0:0<=c)(c1:c<p)(hz:va p L (-c)=0){t:Int}(ht:t*md p (vD c).2 1%p=1)(t0:0<=t)(t1:t<p) :
  1<=L.1/\ ∃u:∅,MP p (L.1-1) u/\L=tm p (L.1-1,u) (vD c)/\
   (let b:=λj=>t*md p (vD c).2 j%p
    let LA:=gY (md p L.2) (L.1+1)
    let q:=divQ b 1 (LA-1) (md p L.2)
    rwF (gY (λj=>t*q j%p)<|gY q<|LA-1) (λj=>t*q j%p)=rwF L.1 u):=by
 have p2:=pp.lo;have mdL:md p L.2=L.2:=funext λj=>fL (mp.rng j).1 (mp.rng j).2
 have ml:=MP.lin p2 c0 c1;have mdG:md p (vD c).2=(vD c).2:=funext λj=>fL (ml.rng j).1 (ml.rng j).2
 have l1:1<=L.1:=by
  refine Nat.pos_of_ne_zero λz=> ?_
  unfold va at hz;rw[z]at hz;have e:ps L.2 (-c) (0+1)=L.2 0*(-c)^0:=by show 0+L.2 0*(-c)^0=_;lia
  have e2:L.2 0=1:=by have:=mp.top;rw[z]at this;exact this
  rw[e,e2,qQ,o8,fL ac ad]at hz
  cases hz
 have r0:(L.2 0-c*hq c L.2 L.1 0)%p=0:=by rw[<-hq_at mp.hi];exact hz
 have fm: ∀m,L.2 m=conv (md p<|hq c L.2 L.1) (vD c).2 L.1 m%p:=λm=>by
  have h:=dZ4 (c:=c) mp.hi m;rw[cG8];have e:L.2 m%p=L.2 m:=fL (mp.rng m).1 (mp.rng m).2;rw[<-e]
  conv=>lhs;rw[h]
  by_cases h0:m=0
  .rw[a9 h0,iH,r0,iG,kR]
  .rw[a7 h0,iG]
 have ut:md p (hq c L.2 L.1) (L.1-1)=1:=by
  show hq c L.2 L.1 (L.1-1)%p=1
  unfold hq;rw[a9 ad,o7]
  show L.2 L.1%p=1
  rw[mp.top];exact fL ac ad
 have uz: ∀j,L.1<=j->md p (hq c L.2 L.1) j=0:=λj hj=>by
  show hq c L.2 L.1 j%p=0
  unfold hq;rw[a7 ad,fU]
 have ur: ∀j,0<=md p (hq c L.2 L.1) j/\md p (hq c L.2 L.1) j<p:=λj=>⟨cT _ ad,cX _ ad⟩
 refine⟨l1,md p<|hq c L.2 L.1,⟨ut,λj hj=>uz j ad,ur⟩,?_,?_⟩
 .refine kT (show L.1=L.1-1+1 by lia) (funext λm=> ?_)
  show L.2 m=conv (md p<|hq c L.2 L.1) (vD c).2 (L.1-1+1) m%p
  rw[show L.1-1+1=L.1 by lia]
  exact fm m
 .have mm:=dK1 (p:=p) (t:=t) (B0:=md p (vD c).2) (u:=md p (hq c L.2 L.1)) (low:=λ_=>0) (A:=md p L.2) (d:=1) (U:=L.1) (n:=L.1+1) p2 (λj hj=>by rw[mdG];exact ml.hi j hj) (.inr (by rw[ut];decide)) ur uz (λ_ _=>rfl) (λ_=>⟨ac,ad⟩) ht (λm=>by rw[mdL,mdG,iG];exact fm m) (aH _)
  obtain⟨_,e1,_,_⟩:=mm;have eLA:gY (md p L.2) (L.1+1)=L.1+1:=wI (aH _) (λm h1 h2=>ad) (.inr (by rw[mdL,qF,mp.top];decide))
  rw[eLA]at e1⊢;have eu:(λj=>t*divQ (λj=>t*md p (vD c).2 j%p) 1 (L.1+1-1) (md p L.2) j%p)=md p (hq c L.2 L.1):=funext e1
  right;rw[eu];have eq:gY (divQ (λj=>t*md p (vD c).2 j%p) 1 (L.1+1-1)<|md p L.2) (L.1+1-1)=L.1:=by
   rw[qF];refine wI (aH _) (λm h1 h2=>ad) (.inr λz=> ?_)
   have h:=e1 (L.1-1);rw[qF]at h;rw[z,cU,fU,ut]at h;cases h
  rw[eq,wI (k:=L.1) (aH _) (λm h1 h2=>ad)<|.inr (by rw[ut];decide)]
theorem dL0 {b:Nat×∅}(hb: ∀j,b.1<j->b.2 j=0)(h:va p (tm p a b) z≠0):va p a z≠0/\va p b z≠0:=by
 rw[va_tm hb]at h;refine⟨λe=>h ?_,λe=>h ?_⟩
 .rw[e,jL,fU]
 .rw[e,cU,fU]
theorem dL1 (pp:Pr p)(h:MP p n f)(j:Nat):(f j).natAbs<=2^8:=by
 have h1:=h.rng j;have h2:=pp.hi;have:(2:Nat)^8=256:=rfl
 lia
theorem bK8: Ra vE vF ["f","p","a","l","c","o"]:=by
 rintro ds Q ⟨n,f,p,rfl,n4,pp,mp,h⟩;have p2:=pp.lo;have p3:=pp.hi;unfold vF;show(aS _ _:US) _ [~~~aI (rwF (n+1) f),!p,none,none,none,none];rw[aM];left;refine⟨ac,?_⟩
 unfold a96;rw[aM];left;unfold a95;rw[aM];refine bB p.toNat (λi=> .int (0+i)) _ ?_
  (λi ρ=> ∃(cs:List (Int×Nat)) (L:Nat×∅) (x y:Option B),ρ=[~~~aI (rwF (n+1) f),!p,some<|.ow<|cs.map λx=>aD9 (lnP x),~~~aI (rwF (L.1+1) L.2),x,y]/\LK p (n,f) i cs L)
  ⟨[],(n,f),none,none,rfl,(dK7 (p:=p) (a:=(n,f)) mp).symm,mp,.nil,ae,ae,aH _⟩ ?_ ?_
 .intro Q' q;left;refine⟨⟨ad,ad⟩,?_⟩
  exact q
 .rintro i ρ hi ⟨cs,L,x,y,rfl,lk⟩;have hLn:L.1<=n:=by
   have:=dZ Prod.fst lk.prod;have e:n=(allT p tQ<|cs.map lnP).1+L.1:=this
   lia
  have mcs:=d07 p2 (cs:=cs) (λx hx=>⟨(lk.mem x hx).1,by have:=(lk.mem x hx).2.1;lia⟩)
  have mA:=MP.allT p2 (cs.map lnP) (MP.one p2) mcs;have mlin:=MP.lin p2 (c:=(i:Int)) ad ad
  rw[cK];left;refine⟨ae,?_⟩
  refine⟨λk ρ=> ∃(o:Nat) (L':Nat×∅),ρ=[~~~aI (rwF (n+1) f),!p,some<|.ow<|cs.map λx=>aD9 (lnP x),~~~aI (rwF (L'.1+1) L'.2),!(i:Int),!(o:Int)]/\k=L'.1/\L'.1<=n/\(n,f)=tm p (powT p (allT p tQ<|cs.map lnP) (vD (i:Int)) o) L'/\MP p L'.1 L'.2/\ ∀c:Nat,c<i->va p L' (-(c:Int))≠0,⟨L.1,0,L,rfl,rfl,hLn,lk.prod,lk.mp,lk.nr⟩,?_⟩
  rintro k ρ ⟨o,L',rfl,rfl,hL',e,mp',nr⟩;left;refine⟨L'.1+1,8,8,L'.2,-(i:Int),rfl,⟨dL1 pp mp',by have:(2:Nat)^8=256:=rfl;lia,ad,ac,ad⟩,?_⟩
  left
  refine⟨ad,?_⟩
  rw[cM _ ad]
  by_cases c:va p L' (-(i:Int))=0
  .rw[a9<|show ps L'.2 (-(i:Int)) (L'.1+1)%p=0 from c]
   refine⟨ac,L'.1+1,2,1,L'.2,(vD (i:Int)).2,p,rfl,ad,ac,pp,λj hj=>mlin.hi j hj,ac,λj hj=>by show(vD (i:Int)).2 j%p=0;rw[mlin.hi j hj,fU],by show(1:Int)%p≠0;rw[fL ac ad];decide,λt ht t0 t1=> ?_⟩
   obtain⟨l1,u,mu,eu,er⟩:=dK9 pp mp' (c:=(i:Int)) ad ad c ht t0 t1
   dsimp only at er⊢;rw[er,aC9];right;have eL:rwF L'.1 u=rwF (L'.1-1+1) u:=by rw[show L'.1-1+1=L'.1 by lia]
   rw[eL];refine⟨L'.1-1,ad,o+1,(L'.1-1,u),by rw[Int.natCast_succ],rfl,by show L'.1-1<=n;lia,?_,mu,λc' hc'=> ?_⟩
   .show(n,f)=tm p (tm p (powT p (allT p tQ<|cs.map lnP) (vD (i:Int)) o)<|vD (i:Int)) (L'.1-1,u)
    rw[e]
    conv=>lhs;rw[eu]
    rw[bF1 (a:=(L'.1-1,u)) (λj hj=>mu.hi j hj) mlin.hi,aD8 mlin.hi]
   .have:=nr c' hc';rw[eu]at this;exact(dL0 mlin.hi this).1
  .rw[a7<|show ¬ps L'.2 (-(i:Int)) (L'.1+1)%p=0 from c]
   have nr': ∀c:Nat,c<i+1->va p L' (-(c:Int))≠0:=λc' hc'=>by
    by_cases h1:c'<i
    .exact nr c' h1
    .rw[show c'=i by lia];exact c
   by_cases c2:(0:Int)< (o:Int)
   .rw[a9 c2];refine⟨ac,ac,?_,cs++[((i:Int),o)],L',_,_,by rw[bX];rfl,?_,mp',?_,?_,nr',?_⟩
    .rw[aG];exact iC lk.len (b9 hi<|aJ (show p.toNat<=200 by lia) ac)
    .rw[bX,wM];exact e
    .rw[List.pairwise_append];refine⟨lk.asc,zX _ _,λa ha b hb=> ?_⟩
     rw[cR.mp hb];exact(lk.mem a ha).2.1
    .intro z hz;rcases dI.mp hz with hz|hz
     .have:=lk.mem z hz;exact⟨this.1,ad,this.2.2⟩
     .rw[cR.mp hz];exact⟨by show(0:Int)<=(i:Int);lia,by show(i:Int)< ((i+1:Nat):Int);lia,by show 1<=o;lia⟩
    .rw[bV];exact Nat.succ_le_succ lk.len
   .rw[a7 c2];have o0:o=0:=ad
    subst o0;exact⟨cs,L',_,_,rfl,e,mp',lk.asc,λz hz=>⟨(lk.mem z hz).1,by have:=(lk.mem z hz).2.1;lia,(lk.mem z hz).2.2⟩,nr',aQ8 lk.len⟩
 .rintro ρ ⟨cs,L,x,y,rfl,lk⟩;right;unfold a94;left;exact⟨ac,h cs L lk⟩
nonrec def quF (v u:Int):Nat×∅:=(2,λj=>if j=0 then v else if j=1 then u else if j=2 then 1 else 0)
theorem MP.qu {u:Int}(hp:2<=p)(v0:0<=v)(v1:v<p)(u0:0<=u)(u1:u<p):MP p (quF v u).1 (quF v u).2:=⟨rfl,λj hj=>by
  have:2<j:=hj;show(if j=0 then v else if j=1 then u else if j=2 then 1 else 0)=0;rw[a7 ad,a7 ad,a7 ad],λj=>by
  show 0<=(if j=0 then v else if j=1 then u else if j=2 then 1 else 0)/\(if j=0 then v else if j=1 then u else if j=2 then 1 else 0)<p
  split
  .lia
  .split
   .lia
   .split<;>lia⟩
theorem dZ5 (v u w s:Int):conv (quF v u).2 (quF w s).2 3 0=v*w/\conv (quF v u).2 (quF w s).2 3 1=v*s+u*w/\conv (quF v u).2 (quF w s).2 3 2=v+u*s+w/\conv (quF v u).2 (quF w s).2 3 3=u+s:=by
 refine⟨?_,?_,?_,?_⟩<;>simp[conv,shF,quF]
theorem e56 (mp:MP p 4 f){u w:Int}(m1:MP p (quF v u).1 (quF v u).2)(m2:MP p (quF w s).1 (quF w s).2)(hp:2<=p) :
  ((4,f):Nat×∅)=tm p (quF v u) (quF w s)↔f 0=v*w%p/\f 1=(v*s+u*w)%p/\f 2=(v+u*s+w)%p/\f 3=(u+s)%p:=by
 obtain⟨e0,e1,e2,e3⟩:=dZ5 v u w s;have mt:=MP.tm hp m1 m2;constructor
 .intro e;have h: ∀m,f m=conv (quF v u).2 (quF w s).2 3 m%p:=λm=>congrFun (dZ Prod.snd e) m
  exact⟨by rw[h 0,e0],by rw[h 1,e1],by rw[h 2,e2],by rw[h 3,e3]⟩
 .rintro⟨h0,h1,h2,h3⟩;refine kT rfl (funext λm=> ?_)
  show f m=conv (quF v u).2 (quF w s).2 3 m%p
  match m with
  | 0=>rw[h0,e0]
  | 1=>rw[h1,e1]
  | 2=>rw[h2,e2]
  | 3=>rw[h3,e3]
  | 4=>exact mp.top.trans mt.top.symm
  | m+5=>exact(mp.hi _ ad).trans (mt.hi (m+5)<|show 2+2<m+5 by lia).symm
def NoQ (p:Int)(F:Nat×∅):Prop:= ∀v u w s:Int,0<=v->v<p->0<=u->u<p->0<=w->w<p->0<=s->s<p->F≠tm p (quF v u) (quF w s)
def sX:Φ:=λds Q=> ∃(f:∅) (p:Int),ds=[aI<|rwF 5 f,.int p]/\Pr p/\MP p 4 f/\
 (∀v u w s:Int,0<=v->v<p->0<=u->u<p->0<=w->w<p->0<=s->s<p->((4,f):Nat×∅)=tm p (quF v u) (quF w s)->Q (.ow [aI [v,u,1],aI [w,s,1]]))/\(NoQ p (4,f)->Q (.ow []))
def yW:US:=(cW<|gA aN)
def sY:US:=(aS (gP (fX<|a8 (aC 1) aN) (bO 2)<|aS (bF 3<|uOp jX (uOp M.gSub (uIx (aT 0)<|@3)<|aC 2)<|aC 1)<|aS (bF 4<|uOp M.gSub (uIx (aT 0)<|@2)<|uOp fG (aC 2)<|aC 3)<|gP (fX<|a8 (aC 1) aN) (bO 5)<|aS (bF 6<|uOp jX (uOp M.gSub (aC 4)<|aC 5)<|aC 1)<|fS (b34 (cQ<|uOp (gJ false) (uOp jX (uOp fG (aC 5)<|aC 6)<|aC 1)<|uIx (aT 0)<|@0)<|cQ<|uOp (gJ false) (uOp jX (uOp eV (uOp fG (aC 2)<|aC 6)<|uOp fG (aC 5)<|aC 3)<|aC 1)<|uIx (aT 0)<|@1) (cW<|gA<|a8 (iR<|a8 (aC 5)<|a8 (aC 2)<|a8 @1 aN)<|a8 (iR<|a8 (aC 6)<|a8 (aC 3)<|a8 @1 aN) aN) dD) yW)
def d66 (p:Int)(f:∅)(u v:Int):Prop:=v*((f 2-u*((f 3-u)%p)-v)%p)%p=f 0/\(u*((f 2-u*((f 3-u)%p)-v)%p)+v*((f 3-u)%p))%p=f 1
theorem cH0 {a:Int}(h0:0<=a)(h1:a<p)(h:x=(a+b)%p):(x-b)%p=a:=by
 rw[h,a28,kR,<-a28,Int.add_sub_cancel];exact fL h0 h1
theorem bC2: Ra sX sY ["f","p","u","s","t","v","w"]:=by
 rintro ds Q ⟨f,p,rfl,pp,mp,yes,no⟩;have p2:=pp.lo;have p3:=pp.hi;have a0:atI ((rwF 5 f).map D.int) 0=some (.int<|f 0):=hV (i:=0) ac
 have a1:atI ((rwF 5 f).map D.int) 1=some (.int<|f 1):=hV (i:=1) ac
 have a2:atI ((rwF 5 f).map D.int) 2=some (.int<|f 2):=hV (i:=2) ac
 have a3:atI ((rwF 5 f).map D.int) 3=some (.int<|f 3):=hV (i:=3) ac
 unfold sY;simp only[aI];show(aS _ _:US) _ [~~~.tup ((rwF 5 f).map .int),!p,none,none,none,none,none];rw[aM];refine bB p.toNat (λi=> .int (0+i)) _ ?_
  (λi ρ=> ∃x y z a b,ρ=[~~~.tup ((rwF 5 f).map .int),!p,x,y,z,a,b]/\ ∀u v:Nat,u<i->v<p.toNat-> ¬d66 p f (u:Int) (v:Int))
  ⟨none,none,none,none,none,rfl,λu v hu=>ad⟩ ?_ ?_
 .intro Q' q;left;refine⟨⟨ad,ad⟩,?_⟩
  exact q
 .rintro i ρ hi ⟨x,y,z,a,b,rfl,nh⟩;rw[cK];left;rw[a3];right;refine⟨ae,ad,?_⟩
  rw[cM _ ad,a2]
  right;have s0:=cT (f 3-(i:Int)) (show p≠0 by lia)
  have s1:=cX (f 3-(i:Int)) (show 0<p by lia)
  generalize hS:(f 3-(i:Int))%p=S at *;refine⟨cmL ad ad,?_⟩
  refine bB p.toNat (λi=> .int (0+i)) _ ?_
   (λj ρ=> ∃a b,ρ=[~~~.tup ((rwF 5 f).map .int),!p,!(i:Int),!S,!(f 2-(i:Int)*S),a,b]/\ ∀v:Nat,v<j-> ¬d66 p f (i:Int) (v:Int))
   ⟨a,b,rfl,λv hv=>ad⟩ ?_ ?_
  .intro Q' q;left;refine⟨⟨ad,ad⟩,?_⟩
   exact q
  .rintro j ρ hj ⟨a,b,rfl,nj⟩;rw[cK];left;refine⟨ae,ad,?_⟩
   rw[cM _ ad]
   have w0:=cT (f 2-(i:Int)*S-(j:Int)) (show p≠0 by lia)
   have w1:=cX (f 2-(i:Int)*S-(j:Int)) (show 0<p by lia)
   generalize hW:(f 2-(i:Int)*S-(j:Int))%p=W at *;refine⟨cmL ad ad,ad,?_⟩
   rw[cM _ ad,a0]
   right
   have step: ¬d66 p f (i:Int) (j:Int)-> ∃a b,[some<|B.pu<|.tup<|(rwF 5 f).map .int,!p,!(i:Int),!S,!(f 2-(i:Int)*S),!(j:Int),!W]=[~~~.tup ((rwF 5 f).map .int),!p,!(i:Int),!S,!(f 2-(i:Int)*S),a,b]/\ ∀v:Nat,v<j+1-> ¬d66 p f (i:Int) (v:Int):=λnh'=>⟨_,_,rfl,λv hv=>by
    by_cases h1:v<j
    .exact nj v h1
    .rw[show v=j by lia];exact nh'⟩
   by_cases c1:(j:Int)*W%p=f 0
   .rw[a9 c1];refine⟨cmL ad ad,cmL ad ad,ad,?_⟩
    rw[cM _ ad,a1]
    right
    by_cases c2:((i:Int)*W+(j:Int)*S)%p=f 1
    .rw[a9 c2];refine⟨ac,ac,ac,yes (j:Int) (i:Int) W S ad ad ad ad w0 w1 s0 s1<|(e56 mp (MP.qu p2 ad ad ad ad) (MP.qu p2 w0 w1 s0 s1) p2).mpr ⟨c1.symm,by rw[<-c2,a30],?_,?_⟩⟩
     .rw[<-hW,iH,kR,<-iH];have:(j:Int)+(i:Int)*S+(f 2-(i:Int)*S-(j:Int))=f 2:=ad
      rw[this];exact(fL (mp.rng 2).1 (mp.rng 2).2).symm
     .rw[<-hS,iH,kR,<-iH];have:(i:Int)+(f 3-(i:Int))=f 3:=ad
      rw[this];exact(fL (mp.rng 3).1 (mp.rng 3).2).symm
    .rw[a7 c2];exact step λz=>c2 (by have:=z.2;unfold d66 at z;rw[hS,hW]at this;exact this)
   .rw[a7 c1];exact step λz=>c1 (by have:=z.1;rw[hS,hW]at this;exact this)
  .rintro ρ ⟨a,b,rfl,nj⟩;refine⟨_,_,_,_,_,rfl,λu v hu hv=> ?_⟩
   by_cases h1:u<i
   .exact nh u v h1 hv
   .rw[show u=i by lia];exact nj v hv
 .rintro ρ ⟨x,y,z,a,b,rfl,nh⟩;right;unfold yW;left;refine⟨ac,no ?_⟩
  intro v u w s v0 v1 u0 u1 w0 w1 s0 s1 e;obtain⟨h0,h1,h2,h3⟩:=(e56 mp (MP.qu p2 v0 v1 u0 u1) (MP.qu p2 w0 w1 s0 s1) p2).mp e;obtain⟨v',rfl⟩: ∃v':Nat,v=(v':Int):=⟨v.toNat,ad⟩
  obtain⟨u',rfl⟩: ∃u':Nat,u=(u':Int):=⟨u.toNat,ad⟩
  refine nh u' v' ad ad ?_
  have es:(f 3-(u':Int))%p=s:=cH0 s0 s1 (by rw[h3,a30])
  have ew:(f 2-(u':Int)*s-(v':Int))%p=w:=by
   have:=cH0 (x:=f 2) (b:=(v':Int)+(u':Int)*s) w0 w1 (by rw[h2,a30 w])
   rw[<-this]
   congr 1
   lia
  unfold d66;rw[es,ew];exact⟨h0.symm,by rw[h1,a30]⟩
theorem at0 {a b:D}:atI [a,b] 0=some a:=bP (j:=0) rfl
theorem at1 {a b:D}:atI [a,b] 1=some b:=bP (j:=1) rfl
def NoR (p:Int)(F:Nat×∅):Prop:= ∀c:Nat,c<p.toNat->va p F (-(c:Int))≠0
def ltP (x y:(Nat×∅)×Nat):Prop:=x.1.1<y.1.1\/(x.1.1=y.1.1/\ltL (rwF (x.1.1+1) x.1.2) (rwF (y.1.1+1) y.1.2)=true)
structure RL (p:Int)(F:Nat×∅)(rs:List ((Nat×∅)×Nat)):Prop where
 prod: ∀a:Nat×∅,MP p a.1 a.2->allT p a rs=tm p a F
 mem: ∀x∈rs,MP p x.1.1 x.1.2/\2<=x.1.1/\x.1.1<=4/\1<=x.2/\x.2<=2/\NoR p x.1/\(x.1.1=4->NoQ p x.1)
 ord:rs.Pairwise ltP
 len:rs.length<=2
theorem dZ6 (hp:2<=p)(ha:MP p a.1 a.2):tm p a tQ=a:=by
 rw[bF1 ha.hi (MP.one hp).hi,dK7 ha]
theorem RL.single (mp:MP p F.1 F.2)(h2:2<=F.1)(h4:F.1<=4)(nr:NoR p F)(nq:F.1=4->NoQ p F):RL p F [(F,1)]:=
 ⟨λa _=>rfl,λx hx=>by rw[cR.mp hx];exact⟨mp,h2,h4,aH _,show 1<=2 by decide,nr,nq⟩,zX _ _,show 1<=2 by decide⟩
theorem row_lt {u w:Int}(h: ¬(v=w/\u=s)):ltL [w,s,1] [v,u,1]=false->ltL [v,u,1] [w,s,1]=true:=by
 unfold ltL
 by_cases c:v=w
 .rw[a9 c,a9 c.symm];unfold ltL;have:u≠s:=λz=>h ⟨c,z⟩
  rw[a7 this,a7 λz=>this z.symm]
  simp only[aO1,gD]
  lia
 .rw[a7 c,a7 λz=>c z.symm]
  simp only[aO1,gD]
  lia
def n6:Φ:=λds Q=> ∃(n:Nat) (f:∅) (p:Int),ds=[aI<|rwF (n+1) f,.int p]/\n<=4/\Pr p/\MP p n f/\NoR p (n,f)/\ ∀rs,RL p (n,f) rs->Q (.ow<|rs.map aD9)
def sE:US:=(cW<|dF [] [none,none] 1 (dW<|aQ cR6<|a8 (aC 2) aN) (bO 0) (λρ Q=>Q true ρ)<|iR<|a8 (aC 0)<|a8 @1 aN)
def sF:US:=(aS (fS (cQ<|uOp (c56 false) (uIx (aT 2)<|@0)<|uIx (aT 2)<|@1) (cW<|gA<|a8 (iR<|a8 (uIx (aT 2)<|@0)<|a8 @2 aN) aN) dD) sE)
def j8:US:=(aS (fS (cQ<|uOp (gJ false) (kF<|aT 2)<|@0) (cW<|gA<|a8 (iR<|a8 (aC 0)<|a8 @1 aN) aN) dD) sF)
def sG:US:=(aS (bF 2<|uIf (cQ<|uOp (gJ false) (kF<|aT 0)<|@5) (aQ sX<|a8 (aC 0)<|a8 (aC 1) aN)<|gA aN) j8)
def nA:US:=(aS (fS (cQ<|uOp (gJ false) (kF<|aT 0)<|@1) (cW<|gA aN) dD) sG)
theorem dL2 (pp:Pr p)(mp:MP p F.1 F.2)(h1:F.1=1)(nr:NoR p F):False:=by
 have p2:=pp.lo;have r:=mp.rng 0;refine nr (F.2 0).toNat ad ?_
 unfold va;rw[h1,show(((F.2 0).toNat:Nat):Int)=F.2 0 by lia]
 have t:F.2 1=1:=by have:=mp.top;rw[h1]at this;exact this
 show(0+F.2 0*(-F.2 0)^0+F.2 1*(-F.2 0)^1)%p=0
 rw[t,qQ,a29,qQ];have:0+F.2 0*1+1*(1* -F.2 0)=0:=ad
 rw[this,fU]
theorem aL0: Ra n6 nA ["f","p","a"]:=by
 rintro ds Q ⟨n,f,p,rfl,n4,pp,mp,nr,h⟩;have p2:=pp.lo;unfold nA;simp only[aI];show(aS _ _:US) _ [~~~.tup ((rwF (n+1) f).map .int),!p,none];rw[aM];left;rw[bE]
 by_cases n0:n=0
 .rw[a9 ad]
  subst n0;refine⟨ac,h [] ⟨λa ha=> ?_,ae,.nil,ac⟩⟩
  have e:((0,f):Nat×∅)=tQ:=kT rfl (funext λj=>by
   show f j=if j=0 then 1 else 0
   by_cases c:j=0
   .rw[a9 c,c];exact mp.top
   .rw[a7 c];exact mp.hi j ad)
  rw[e,dZ6 p2 ha];rfl
 rw[a7 ad]
 have n1:n≠1:=λz=>dL2 pp (F:=(n,f)) mp z nr
 have alone:(n=4->NoQ p (n,f))->j8 {Q with} [~~~.tup ((rwF (n+1) f).map .int),!p,↑[]]:=λnq=>by
  unfold j8;rw[aM];left;rw[a9<|by rfl]
  exact⟨ac,ac,h [((n,f),1)]<|RL.single mp (by show 2<=n;lia) n4 nr nq⟩
 unfold sG;rw[aM];left;simp only[uIf,kF,aT,cC5,uC,isB,B.d,pO,gJ,u8,bE]
 by_cases c:n=4
 .subst c;rw[a9<|by rfl]
  refine⟨f,p,rfl,pp,mp,λv u w s v0 v1 u0 u1 w0 w1 s0 s1 e=> ?_,λnq=> ?_⟩
  .have m1:=MP.qu p2 v0 v1 u0 u1;have m2:=MP.qu p2 w0 w1 s0 s1;have k1:NoR p (quF v u):=λc hc=>by have:=nr c hc;rw[e]at this;exact(dL0 m2.hi this).1
   have k2:NoR p (quF w s):=λc hc=>by have:=nr c hc;rw[e]at this;exact(dL0 m2.hi this).2
   right;simp only[aI];unfold j8;rw[aM];left;rw[a7 ac]
   unfold sF;rw[aM];left;rw[at0,at1];right;refine cG0 ?_
   by_cases c:[v,u,(1:Int)]=[w,s,1]
   .have c1:v=w:=by simp at c;exact c.1
    have c2:u=s:=by simp at c;exact c.2
    subst c1 c2;rw[kO rfl];right;rw[a9 ac]
    refine⟨ac,ac,h [(quF v u,2)] ⟨λa ha=> ?_,λx hx=> ?_,zX _ _,show 1<=2 by decide⟩⟩
    .show tm p (tm p a<|quF v u) (quF v u)=tm p a (4,f)
     rw[e,aD8 m1.hi]
    .rw[cR.mp hx];exact⟨m1,aH _,show 2<=4 by decide,show 1<=2 by decide,aH _,k1,λz=>by cases z⟩
   .rw[gE c];right;rw[a7 ac]
    have nc: ¬(v=w/\u=s):=λz=>c (by rw[z.1,z.2])
    unfold sE;rw[jS];have fin2: ∀(v u w s:Int),MP p (quF v u).1 (quF v u).2->MP p (quF w s).1 (quF w s).2->NoR p (quF v u)->NoR p (quF w s)->((4,f):Nat×∅)=tm p (quF v u) (quF w s)->ltL [v,u,1] [w,s,1]=true->Q (.ow [.tup [.tup<|[v,u,1].map D.int,.int 1],.tup [.tup<|[w,s,1].map D.int,.int 1]]):=λv u w s m1 m2 k1 k2 e lt=>by
     refine h [(quF v u,1),(quF w s,1)] ⟨λa ha=> ?_,λx hx=> ?_,?_,aH _⟩
     .show tm p (tm p a<|quF v u) (quF w s)=tm p a (4,f)
      rw[e,aD8 m1.hi]
     .rcases aZ.mp hx with rfl|hx
      .exact⟨m1,aH _,show 2<=4 by decide,aH _,show 1<=2 by decide,k1,λz=>by cases z⟩
      .rw[cR.mp hx];exact⟨m2,aH _,show 2<=4 by decide,aH _,show 1<=2 by decide,k2,λz=>by cases z⟩
     .refine List.pairwise_cons.mpr ⟨λy hy=> ?_,zX _ _⟩
      rw[cR.mp hy];exact .inr ⟨rfl,lt⟩
    refine dC (t0:=0) 2 (λk=>(if ltL [w,s,1] [v,u,1]=true then [D.tup<|[w,s,1].map D.int,.tup<|[v,u,1].map D.int]else [.tup<|[v,u,1].map D.int,.tup<|[w,s,1].map D.int]).getD k .non) [~~~.tup ((rwF (4+1) f).map .int),!p,~~~.lst [.tup<|[v,u,1].map D.int,.tup<|[w,s,1].map D.int]] ?_ ac (λx l'=>[x,↑l']) none rfl (λ_ _ _=>rfl) (λ_ _=>bW _) (λ_ _ _ q=>q) (λ_ _ _=>rfl)
     (λk=> .tup [(if ltL [w,s,1] [v,u,1]=true then [D.tup<|[w,s,1].map D.int,.tup<|[v,u,1].map D.int]else [.tup<|[v,u,1].map D.int,.tup<|[w,s,1].map D.int]).getD k .non,.int 1]) ?_ ?_
    .intro Q' q;left;refine⟨v,w,[u,1],[s,1],rfl,?_⟩;cases l:ltL [w,s,1] [v,u,1]
     .rw[l]at q;exact q
     .rw[l]at q;exact q
    .intro k l' Q' hk q;left;exact⟨ac,q⟩
    .cases l:ltL [w,s,1] [v,u,1]
     .exact fin2 v u w s m1 m2 k1 k2 e (row_lt nc l)
     .exact fin2 w s v u m2 m1 k2 k1 (by rw[e,bF1 m1.hi m2.hi]) l
  .exact alone λ_=>nq
 .rw[a7 (by simp;lia)]
  refine⟨ac,?_⟩
  exact alone λz=>absurd z c
structure SP (p:Int)(F:Nat×∅)(xs:List ((Nat×∅)×Nat)):Prop where
 prod:allT p tQ xs=F
 mem: ∀x∈xs,MP p x.1.1 x.1.2/\1<=x.1.1/\x.1.1<=4/\1<=x.2/\x.2<=4/\(2<=x.1.1->NoR p x.1)/\(x.1.1=4->NoQ p x.1)
 ord:xs.Pairwise ltP
 len:xs.length<=300
theorem SP.of (pp:Pr p){L:Nat×∅}{cs:List (Int×Nat)}{rs:List ((Nat×∅)×Nat)}(h4:F.1<=4)(lk:LK p F p.toNat cs L)(rl:RL p L rs):SP p F (cs.map lnP++rs):=by
 have p2:=pp.lo;have p3:=pp.hi;have rg: ∀x∈cs,0<=x.1/\x.1<p:=λx hx=>⟨(lk.mem x hx).1,by have:=(lk.mem x hx).2.1;lia⟩
 have mcs:=d07 p2 rg;have mA:=MP.allT p2 (cs.map lnP) (MP.one p2) mcs;refine⟨by rw[wM,rl.prod _ mA];exact lk.prod.symm,λx hx=> ?_,?_,?_⟩
 .rcases dI.mp hx with hx|hx
  .obtain⟨y,hy,rfl⟩:=dL.mp hx;have hd:=cG9 p (cs.map lnP) tQ (lnP y) hx;have e:F.1=(allT p tQ<|cs.map lnP).1+L.1:=dZ Prod.fst lk.prod;have hd':0+1*y.2<=(allT p tQ<|cs.map lnP).1:=hd;refine⟨mcs _ hx,aH _,show 1<=4 by decide,(lk.mem y hy).2.2,show y.2<=4 by lia,λz=> ?_,λz=> ?_⟩
   .have:2<=1:=z
    lia
   .have:1=4:=z
    lia
  .obtain⟨a,b,c,d,e,f,g⟩:=rl.mem x hx;exact⟨a,ad,c,d,ad,λ_=>f,g⟩
 .rw[List.pairwise_append];refine⟨?_,rl.ord,λx hx y hy=> ?_⟩
  .rw[List.pairwise_map];refine lk.asc.imp λ{a b} h=> .inr ⟨rfl,?_⟩
   show ltL [a.1,1] [b.1,1]=true
   unfold ltL;rw[a7 ad,kO h]
  .obtain⟨z,hz,rfl⟩:=dL.mp hx;have:=(rl.mem y hy).2.1;exact .inl (show 1<y.1.1 by lia)
 .have a:=lk.len;have b:=rl.len;rw[bV,aG]
  lia
def xG:Φ:=λds Q=> ∃(n:Nat) (g:∅) (p:Int),ds=[aI<|rwF (n+1) g,.int p]/\n<=4/\p∈prL/\MP p n (md p g)/\ ∀xs,SP p (n,md p g) xs->Q (.ow<|xs.map aD9)
def aE0:US:=(cW<|uOp eV (aC 2)<|aQ n6<|a8 (aC 3)<|a8 (aC 1) aN)
def aE1:US:=(aS (dD5 (aQ vE<|a8 (aQ jO<|a8 (aC 0)<|a8 (aC 1) aN)<|a8 (aC 1) aN)<|tI<|fP 2<|fP 3 tH) aE0)
def xH:US:=(aS (fS (cQ<|uOp (gIn true) (aC 1)<|aQ lJ aN) (λ_ _=>False) dD) aE1)
theorem bS3: Ra xG xH ["f","p","a","l"]:=by
 rintro ds Q ⟨n,g,p,rfl,n4,hp,mp,h⟩;have pp:=b52 hp;have p2:=pp.lo;unfold xH;show(aS _ _:US) _ [~~~aI (rwF (n+1) g),!p,none,none];rw[aM];left;refine⟨rfl,p,T_SMALL_PRIMES,rfl,.inr<|.inl rfl,?_⟩;rw[kO (show p∈T_SMALL_PRIMES by rw[<-dK2];exact hp)]
 right;rw[a7 ac]
 unfold aE1;rw[aM];left;refine⟨n+1,g,p,rfl,ad,ad,?_⟩
 left
 have e:gY (md p g) (n+1)=n+1:=wI (aH _) (λm h1 h2=>ad) (.inr (by rw[qF,mp.top];decide))
 rw[e];refine⟨n,md p g,p,rfl,ad,pp,mp,λcs L lk=> ?_⟩
 left
 refine⟨ac,ac,trivial,?_⟩
 unfold aE0;rw[jS,aD2];left;have hL:L.1<=4:=by
  have e:n=(allT p tQ<|cs.map lnP).1+L.1:=dZ Prod.fst lk.prod
  lia
 refine⟨L.1,L.2,p,rfl,hL,pp,lk.mp,lk.nr,λrs rl=> ?_⟩
 have sp:=SP.of pp (F:=(n,md p g)) n4 lk rl;have e2:(cs.map λx=>aD9 (lnP x))++rs.map aD9=(cs.map lnP++rs).map aD9:=by rw[bX,gH];rfl
 left
 rw[e2];refine⟨?_,h _ sp⟩;rw[<-bV,e2,aG];exact aJ sp.len ac
nonrec def stB (xs:List ((Nat×∅)×Nat)):Bool:=match xs with
 | [x]=>decide (x.2=1)
 | _=>false
theorem bZ1 {p:Int}(hp:2<=p){g a h:Nat×∅}(ma:MP p a.1 a.2)(mh:MP p h.1 h.2): ∀k,powT p (tm p g a) h k=tm p g (powT p a h k)
 | 0=>rfl
 | k+1=>by
  show tm p (powT p (tm p g a) h k) h=tm p g (tm p (powT p a h k) h)
  rw[bZ1 hp ma mh k,aD8 (MP.powT hp ma mh k).hi]
theorem bZ2 {p:Int}(hp:2<=p){g:Nat×∅}: ∀(l:List ((Nat×∅)×Nat)) {a:Nat×∅},MP p a.1 a.2->(∀x∈l,MP p x.1.1 x.1.2)->allT p (tm p g a) l=tm p g (allT p a l)
 | [],a,_,_=>rfl
 | x::l,a,ma,h=>by
  show allT p (powT p (tm p g a) x.1 x.2) l=tm p g (allT p (powT p a x.1 x.2) l)
  rw[bZ1 hp ma<|h x<|.head _,bZ2 hp l (MP.powT hp ma (h x<|.head _) x.2) λy hy=>h y (.tail _ hy)]
theorem mp_two (mp:MP p F.1 F.2)(h2:F.1=2):F=quF (F.2 0) (F.2 1):=by
 refine kT h2 (funext λj=> ?_)
 show F.2 j=if j=0 then F.2 0 else if j=1 then F.2 1 else if j=2 then 1 else 0
 by_cases c0:j=0
 .rw[a9 c0,c0]
 .by_cases c1:j=1
  .rw[a7 c0,a9 c1,c1]
  .by_cases c2:j=2
   .rw[a7 c0,a7 c1,a9 c2,c2];have:=mp.top;rw[h2]at this;exact this
   .rw[a7 c0,a7 c1,a7 c2];exact mp.hi j ad
theorem cH1 {t1:Nat}(n:Nat)(it i1 i2:Nat->D)(hit: ∀i,i<n->it i= .tup [i1 i,i2 i])(ρ1:Ev)(hui: ∀Q:Nat->(Nat->D)->Ev->Prop,Q n it ρ1->ui ρ Q)(hn:n<=1000000)
  (G:Option B->Option B->List D->Ev) (x0 y0:Option B) (h0:pP (xC ρ1 js) cap last=G x0 y0 []) (h1: ∀x y l b c,((G x y l).set t0<|some b).set t1 (some c)=G (some b) (some c) l) (h1': ∀x y l,t0< (G x y l).length/\t1< (G x y l).length)
  (h2: ∀x y l (Q:List D->Prop),Q l->lH (G x y l) last Q) (h3: ∀x y l l',(G x y l).set last (↑l')=G x y l')
  (f:Nat->D) (hte: ∀i l (Q':B->Ev->Prop),i<n->Q' (.pu<|f i) (G (~~~i1 i) (~~~i2 i) l)->te (G (~~~i1 i) (~~~i2 i) l) Q') (hq:Q (.ow<|(List.range n).map f) (xC ρ1 js)) :
  dF js cap last ui (tI<|fP t0<|fP t1 tH) (λρ Q=>Q true ρ) te ρ Q:=by
 refine hui _ ⟨λi ρ'=> ∃x y,ρ'=G x y ((List.range i).map f),⟨x0,y0,h0⟩,?_,?_⟩
 .rintro i ρ' hi ⟨x,y,rfl⟩;rw[hit i hi];refine⟨(h1' _ _ _).1,by rw[eH];exact(h1' _ _ _).2,rfl,?_⟩
  rw[h1];right;rw[a9 rfl];refine hte i _ _ hi (h2 _ _ _ _ ⟨?_,~~~i1 i,~~~i2 i,?_⟩)
  .rw[aG,jH];exact b9 hi (aJ hn ac)
  .rw[h3,cI,bX];rfl
 .rintro ρ' ⟨x,y,rfl⟩;exact h2 _ _ _ _ hq
theorem cH2 {tt:UT}(n:Nat)(it:Nat->D)(ρ1:Ev)(hui: ∀Q:Nat->(Nat->D)->Ev->Prop,Q n it ρ1->ui ρ Q)(hn:n<=1000)
  (G:Option B->List D->Ev) (x0:Option B) (h0:pP (xC ρ1 js) cap last=G x0 []) (h1: ∀x l b,(G x l).set t0 (some b)=G (some b) l) (h1': ∀x l,t0< (G x l).length) (h2: ∀x l (Q:List D->Prop),Q l->lH (G x l) last Q) (h3: ∀x l l',(G x l).set last (↑l')=G x l')
  (c:Nat->Bool) (P:D->Prop) (htt: ∀i l (Q':Bool->Ev->Prop),i<n->Q' (c i) (G (~~~it i) l)->tt (G (~~~it i) l) Q')
  (hte: ∀i l (Q':B->Ev->Prop),i<n->c i=true->(∀d,P d->Q' (.pu d) (G (~~~it i) l))->te (G (~~~it i) l) Q') (hq: ∀l:List D,l.length<=n->(∀d∈l,P d)->Q (.ow l) (xC ρ1 js)) :
  dF js cap last ui (bO t0) tt te ρ Q:=by
 refine hui _ ⟨λi ρ'=> ∃x l,l.length<=i/\(∀d∈l,P d)/\ρ'=G x l,⟨x0,[],aH _,ae,h0⟩,?_,?_⟩
 .rintro i ρ' hi ⟨x,l,hl,hP,rfl⟩;refine⟨h1' _ _,?_⟩;rw[h1];right;refine htt i _ _ hi ?_
  by_cases hc:c i=true
  .rw[a9 hc];refine hte i _ _ hi hc λd hd=>h2 _ _ _ ⟨?_,~~~it i,l++[d],?_,?_,?_⟩
   .exact iC hl (b9 hi<|aJ hn ac)
   .rw[bV];exact Nat.succ_le_succ hl
   .intro e he;rcases dI.mp he with he|he
    .exact hP e he
    .have:e=d:=by exists he
     rw[this];exact hd
   .rw[h3];rfl
  .rw[a7 hc];exact⟨~~~it i,l,aQ8 hl,hP,rfl⟩
 .rintro ρ' ⟨x,l,hl,hP,rfl⟩;exact h2 _ _ _ (hq l hl hP)
nonrec def bK9 (n:Nat)(f:∅)(g:Nat×∅):List Int:=rwF (gY (divL g.2 g.1 (n+1-g.1) f)<|n+1) (divL g.2 g.1 (n+1-g.1) f)
nonrec def ptD (n:Nat)(f:∅)(x:(Nat×∅)×Nat):D:= .tup [aI<|rwF (x.1.1+1) x.1.2,.int (x.2:Int),aI<|bK9 n f x.1]
def xI:Φ:=λds Q=> ∃(n:Nat) (f:∅) (p:Int),ds=[aI<|rwF (n+1) f,.int p]/\n<=4/\p∈prL/\MP p n (md p f)/\(∀j,(f j).natAbs<=2^9)/\ ∀xs,SP p (n,md p f) xs->Q (.ow<|xs.map<|ptD n f)
def xJ:US:=(cW<|dF [0] [none,none,some 0,none] 3 (dW<|aQ xG<|a8 (aC 0)<|a8 (aC 1) aN) (tI<|fP 0<|fP 1 tH) (λρ Q=>Q true ρ)<|iR<|a8 (aC 0)<|a8 (aC 1)<|a8 (uIx (uV<|aQ gL<|a8 (aC 2)<|a8 (aC 0) aN)<|@1) aN)
theorem d08 (pp:Pr p)(n4:n<=4)(fb: ∀j,(f j).natAbs<=2^9){g:Nat×∅}(mg:MP p g.1 g.2)(g4:g.1<=4):dK0 (n+1) g.1 9 8 f g.2:=
 ⟨ad,ad,mg.top,mg.hi,λm _=>fb m,λj=>dL1 pp mg j,ad,ac⟩
theorem bS4: Ra xI xJ ["f","p"]:=by
 rintro ds Q ⟨n,f,p,rfl,n4,hp,mp,fb,h⟩;have pp:=b52 hp;unfold xJ;show(cW _:US) _ [~~~aI (rwF (n+1) f),!p];rw[jS]
 have key: ∀xs,SP p (n,md p f) xs->dF [0] [none,none,some 0,none] 3 (λρ Q=>Q (xs.map aD9).length (λi=>(xs.map aD9).getD i .non) ρ) (tI<|fP 0<|fP 1 tH) (λρ Q=>Q true ρ) (iR<|a8 (aC 0)<|a8 (aC 1)<|a8 (uIx (uV<|aQ gL<|a8 (aC 2)<|a8 (aC 0) aN)<|@1) aN) [~~~aI (rwF (n+1) f),!p] λb _=>Q b:=by
  intro xs sp
  refine cH1 (t0:=0) (t1:=1) xs.length (λi=>(xs.map aD9).getD i .non) (λi=>aI (rwF ((xs.getD i (tQ,0)).1.1+1) (xs.getD i (tQ,0)).1.2)) (λi=> .int ((xs.getD i (tQ,0)).2:Int)) (λi hi=> ?_) [~~~aI (rwF (n+1) f),!p] (λQ' q=> ?_) (aJ sp.len ac) (λx y l=>[x,y,~~~aI (rwF (n+1) f),↑l]) none none rfl (λ_ _ _ _ _=>rfl) (λ_ _ _=>⟨ae,ae⟩) (λ_ _ _ _ q=>q) (λ_ _ _ _=>rfl) (λi=>ptD n f (xs.getD i (tQ,0))) ?_ ?_
  .rw[aR,bJ,aR,aU hi];rfl
  .rw[aG];exact q
  .intro i l Q' hi q;have hm:xs.getD i (tQ,0)∈xs:=by
    rw[aR,aU hi];exact cS hi
   obtain⟨mx,x1,x4,_⟩:=sp.mem _ hm;generalize xs.getD i (tQ,0)=x at *;left;refine⟨n+1,x.1.1,9,8,f,x.1.2,rfl,d08 pp n4 fb mx x4,?_⟩;left;rw[at1];exact⟨ac,q⟩
  .have e:(List.range xs.length).map (λi=>ptD n f (xs.getD i (tQ,0)))=xs.map (ptD n f):=by
    apply lP
    .simp
    .intro i h1 h2;simp at h1;simp[aR,h1]
   rw[e];exact h xs sp
 exact⟨n,f,p,rfl,n4,hp,mp,λxs sp=>key xs sp⟩
structure RF (n:Nat)(f:∅):Prop where
 n1:1<=n
 n4:n<=4
 top:f n=1
 hi: ∀j,n<j->f j=0
 fb: ∀j,(f j).natAbs<=2^9
theorem RF.mp (h:RF n f)(hp:2<=p):MP p n (md p f):=by
 refine⟨?_,λj hj=> ?_,λj=>⟨cT _ ad,cX _ ad⟩⟩
 .show f n%p=1
  rw[h.top];exact fL ac ad
 .show f j%p=0
  rw[h.hi j hj,fU]
def PRow (n:Nat)(f:∅)(size:Int)(d:D):Prop:= ∃(p:Int) (xs:List ((Nat×∅)×Nat)),p∈prL/\size%(p*p)=0/\SP p (n,md p f) xs/\d= .tup [.int p,.lst<|xs.map<|ptD n f]
def vG:Φ:=λds Q=> ∃(n:Nat) (f:∅) (size:Int),ds=[aI<|rwF (n+1) f,.int size]/\RF n f/\ ∀l:List D,l.length<=46->(∀d∈l,PRow n f size d)->Q (.ow l)
def vH:US:=(cW<|dF [0,1] [none,some 0,some 1,none] 3 (dW<|aQ lJ aN) (bO 0) (cQ<|uOp (gJ false) (uOp jX (aC 2)<|uOp fG (aC 0)<|aC 0)<|@0)<|iR<|a8 (aC 0)<|a8 (aQ xI<|a8 (aC 1)<|a8 (aC 0) aN) aN)
theorem bL0: Ra vG vH ["f","s"]:=by
 rintro ds Q ⟨n,f,size,rfl,rf,h⟩;unfold vH;show(cW _:US) _ [~~~aI (rwF (n+1) f),!size];rw[jS]
 refine cH2 (t0:=0) 46 (λi=>(T_SMALL_PRIMES.map D.int).getD i .non) [~~~aI (rwF (n+1) f),!size] (λQ' q=> ?_) ac (λx l=>[x,~~~aI (rwF (n+1) f),!size,↑l]) none rfl (λ_ _ _=>rfl) (λ_ _=>bW _) (λ_ _ _ q=>q) (λ_ _ _=>rfl)
  (λi=>decide (size%(T_SMALL_PRIMES.getD i 0*T_SMALL_PRIMES.getD i 0)=0)) (PRow n f size) ?_ ?_ (λl hl hP=>h l hl hP)
 .exact⟨rfl,q⟩
 .intro i l Q' hi q;have e:(T_SMALL_PRIMES.map D.int).getD i .non= .int (T_SMALL_PRIMES.getD i 0):=by
   have hi':i<T_SMALL_PRIMES.length:=by rw[c78];exact hi
   rw[aR,bJ,aR,aU hi'];rfl
  have hm:T_SMALL_PRIMES.getD i 0∈T_SMALL_PRIMES:=by
   have hi':i<T_SMALL_PRIMES.length:=by rw[c78];exact hi
   rw[aR,aU hi'];exact cS hi'
  obtain⟨p2,p3⟩:=tp_ok _ hm;rw[e]at q⊢;generalize T_SMALL_PRIMES.getD i 0=p at *;have pq:0<p*p:=uN ad ad
  left
  refine⟨cmL ad ad,ad,?_⟩
  rw[cM _ pq];exact q
 .intro i l Q' hi hc q;have e:(T_SMALL_PRIMES.map D.int).getD i .non= .int (T_SMALL_PRIMES.getD i 0):=by
   have hi':i<T_SMALL_PRIMES.length:=by rw[c78];exact hi
   rw[aR,bJ,aR,aU hi'];rfl
  have hm:T_SMALL_PRIMES.getD i 0∈prL:=by
   have hi':i<T_SMALL_PRIMES.length:=by rw[c78];exact hi
   rw[dK2,aR,aU hi'];exact cS hi'
  have pp:=b52 hm;have hc':=a10 hc;rw[e]at q⊢;generalize T_SMALL_PRIMES.getD i 0=p at *;left;refine⟨n,f,p,rfl,rf.n4,hm,rf.mp pp.lo,rf.fb,λxs sp=> ?_⟩
  left
  exact⟨ac,q _ ⟨p,xs,hm,hc',sp,rfl⟩⟩
theorem d67 (hp:2<=p){xs:List ((Nat×∅)×Nat)}(sp:SP p F xs){x:(Nat×∅)×Nat}(hx:x∈xs)(h2:2<=x.2): ∃R:Nat×∅,MP p R.1 R.2/\F=tm p (tm p x.1 x.1) R:=by
 obtain⟨l,m,rfl⟩:=List.append_of_mem hx;obtain⟨k,hk⟩: ∃k,x.2=k+2:=⟨x.2-2,aa⟩
 have mx:=(sp.mem x hx).1;have ml: ∀y∈l,MP p y.1.1 y.1.2:=λy hy=>(sp.mem y<|a02 _ hy).1
 have mm: ∀y∈m,MP p y.1.1 y.1.2:=λy hy=>(sp.mem y<|dX _<|.tail _ hy).1
 have mA:=MP.allT hp l (MP.one hp) ml;have mP:=MP.powT hp mA mx k;have mxx:=MP.tm hp mx mx;refine⟨allT p (powT p (allT p tQ l) x.1 k) m,MP.allT hp m mP mm,?_⟩;rw[<-sp.prod,wM];show allT p (powT p (allT p tQ l) x.1 x.2) m=_;rw[hk];show allT p (tm p (tm p (powT p (allT p tQ l) x.1 k) x.1) x.1) m=_;rw[<-aD8 mx.hi,bF1 mP.hi mxx.hi,bZ2 hp m mP mm]
structure dZ7 (n:Nat)(f:∅)(size p:Int)(g:Nat×∅):Prop where
 pr:p∈prL
 sq:size%(p*p)=0
 mg:MP p g.1 g.2
 g1:1<=g.1
 g4:g.1<=4
 tw: ∃R:Nat×∅,MP p R.1 R.2/\(n,md p f)=tm p (tm p g g) R
 all: ∀c∈bK9 n f g,c%(p*p)=0
nonrec def dZ8 (n:Nat)(f:∅)(g:Nat×∅):List Int:=rwF (gY (divQ g.2 g.1 (n+1-g.1) f)<|n+1-g.1) (divQ g.2 g.1 (n+1-g.1) f)
def sZ:Φ:=λds Q=> ∃(n:Nat) (f:∅) (size:Int) (l:List D),ds=[aI<|rwF (n+1) f,.lst l]/\RF n f/\l.length<=46/\(∀d∈l,PRow n f size d)/\Q (.pu .non)/\ ∀p g,dZ7 n f size p g->Q (.pu<|.tup [.int p,aI<|dZ8 n f g])
def b55:US:=(cW<|uC .non)
def t7:US:=(aS (gP (dW<|aC 1) (tI<|fP 2<|fP 3 tH)<|gP (dW<|aC 3) (tI<|fP 4<|fP 5<|fP 6 tH)<|fS (b34 (cQ<|uOp (oX λi j=>decide (j<=i)) (aC 5)<|@2)<|cQ<|aQ cD6<|a8 (dF [2] [none,some 2,none] 2 (dW<|aC 6) (bO 0) (λρ Q=>Q true ρ)<|uOp (gJ false) (uOp jX (aC 0)<|uOp fG (aC 1)<|aC 1)<|@0) aN) (cW<|iR<|a8 (aC 2)<|a8 (uIx (uV<|aQ gL<|a8 (aC 0)<|a8 (aC 4) aN)<|@0) aN) dD) b55)
theorem bC3: Ra sZ t7 ["f","r","p","a","g","o","c"]:=by
 rintro ds Q ⟨n,f,size,l,rfl,rf,l46,hP,h0,h1⟩;unfold t7;show(aS _ _:US) _ [~~~aI (rwF (n+1) f),~~~.lst l,none,none,none,none,none];rw[aM];refine bB l.length (λi=>l.getD i .non) _ (λQ' q=>q)
  (λi ρ=> ∃a b c d e,ρ=[~~~aI (rwF (n+1) f),~~~.lst l,a,b,c,d,e]) ⟨none,none,none,none,none,rfl⟩ ?_ ?_
 .rintro i ρ hi ⟨a,b,c,d,e,rfl⟩;have hm:l.getD i .non∈l:=by
   rw[aR,aU hi];exact cS hi
  obtain⟨p,xs,hp,hs,sp,e1⟩:=hP _ hm;have pp:=b52 hp;rw[e1];refine⟨ae,ae,rfl,?_⟩
  show(gP _ _ _:US) _ [~~~aI (rwF (n+1) f),~~~.lst l,!p,~~~.lst (xs.map (ptD n f)),c,d,e]
  refine bB xs.length (λi=>(xs.map<|ptD n f).getD i .non) _ (λQ' q=> ?_)
   (λj ρ=> ∃c d e,ρ=[~~~aI (rwF (n+1) f),~~~.lst l,!p,~~~.lst (xs.map (ptD n f)),c,d,e]) ⟨c,d,e,rfl⟩ ?_ ?_
  .left
   rw[aG];exact q
  .rintro j ρ hj ⟨c,d,e,rfl⟩;have hx:xs[j]∈xs:=cS hj;have e2:(xs.map<|ptD n f).getD j .non=ptD n f xs[j]:=by
    rw[aR,bJ,aU hj];rfl
   rw[e2];obtain⟨mx,x1,x4,_⟩:=sp.mem _ hx;have tw:2<=xs[j].2->_:=λh2=>d67 pp.lo sp hx h2
   generalize xs[j]=x at *;refine⟨ae,ae,ae,rfl,?_⟩
   show(fS _ _ _:US) _ [~~~aI (rwF (n+1) f),~~~.lst l,!p,~~~.lst (xs.map (ptD n f)),~~~aI (rwF (x.1.1+1) x.1.2),!(x.2:Int),~~~aI (bK9 n f x.1)]
   simp only[aI];left
   by_cases c2:(2:Int)<=(x.2:Int)
   .rw[a9 c2];have p2:=pp.lo;have p3:=pp.hi;have pq:0<p*p:=uN ad ad
    generalize hr:bK9 n f x.1=r at *;have rl:r.length<=1000:=by
     rw[<-hr];unfold bK9;rw[wG];have:=a51 (divL x.1.2 x.1.1 (n+1-x.1.1) f) (n+1);have:=rf.n4
     lia
    refine dC (t0:=0) r.length (λk=>(r.map D.int).getD k .non) [~~~.tup ((rwF (n+1) f).map .int),~~~.lst l,!p,~~~.lst (xs.map (ptD n f)),~~~.tup ((rwF (x.1.1+1) x.1.2).map .int),!(x.2:Int),~~~.tup (r.map .int)] (λQ' q=> ?_) ad (λx l'=>[x,!p,↑l']) none rfl (λ_ _ _=>rfl) (λ_ _=>bW _) (λ_ _ _ q=>q) (λ_ _ _=>rfl) (λk=> .bl (decide (r.getD k 0%(p*p)=0))) ?_ ?_
    .left
     rw[aG];exact q
    .intro k l' Q' hk q;have e3:(r.map D.int).getD k .non= .int (r.getD k 0):=by
      rw[aR,bJ,aR,aU hk];rfl
     rw[e3]at q⊢;left;refine⟨cmL ad ad,ad,?_⟩
     rw[cM _ pq];exact q
    .have e4:(List.range r.length).map (λk=>D.bl (decide (r.getD k 0%(p*p)=0)))=((List.range r.length).map λk=>decide (r.getD k 0%(p*p)=0)).map D.bl:=by rw[gH];rfl
     rw[e4];right;rw[uX];right
     by_cases c3:(((List.range r.length).map λk=>decide (r.getD k 0%(p*p)=0)).all id)=true
     .rw[a9 c3];left;refine⟨n+1,x.1.1,9,8,f,x.1.2,rfl,d08 pp rf.n4 rf.fb mx x4,?_⟩;left;rw[at0];refine⟨ac,h1 p x.1 ⟨hp,hs,mx,x1,x4,tw ad,λc hc=> ?_⟩⟩
      rw[hr]at hc;obtain⟨k,hk,rfl⟩:=List.mem_iff_getElem.mp hc;rw[eR]at c3;have:=c3 (decide (r.getD k 0%(p*p)=0)) (dL.mpr ⟨k,eI.mpr hk,rfl⟩);have:=a10 (show decide (r.getD k 0%(p*p)=0)=true from this)
      rw[aR,aU hk]at this;exact this
     .rw[a7 c3];exact⟨_,_,_,rfl⟩
   .rw[a7 c2];exact⟨_,_,_,rfl⟩
  .rintro ρ ⟨c,d,e,rfl⟩;exact⟨_,_,_,_,_,rfl⟩
 .rintro ρ ⟨a,b,c,d,e,rfl⟩;exact h0
theorem dL3 (t:UE)(D:UD)(ρ:Ev):aC1 t D ρ=t ρ (λ_ ρ1=>D.nx ρ1):=rfl
structure dQ (p:List Int):Prop where
 ok:bE9 p
 one: ∃q,p=q++[1]
nonrec def cH3 (c:Int):Bool:=decide ((if c<0 then -c else c)<=499)
nonrec def dZ9 (p:List Int):Bool:=decide (3<=p.length)&&(decide (p.length<=5)&&(decide (p.getD (p.length-1) 0=1)&&p.all cH3))
theorem b56: ∀(q:List Int) (x:Int),(q++[x]).getD ((q++[x]).length-1) 0=x:=λq x=>by
 rw[bV,aR,lK ae]
 simp
theorem dL4 (p:List Int):dZ9 p=true↔dQ p:=by
 unfold dZ9;simp only[eG,gD,eR];constructor
 .rintro⟨h1,h2,h3,h4⟩;refine⟨⟨h1,h2,λx hx=> ?_⟩,?_⟩
  .have:=a10 (h4 x hx);split at this<;>lia
  .rcases List.eq_nil_or_concat p with rfl| ⟨q,x,rfl⟩
   .simp at h1
   .rw[List.concat_eq_append]at h3⊢;rw[b56]at h3;exact⟨q,by rw[h3]⟩
 .intro h;refine⟨h.ok.lo,h.ok.hi,?_,λx hx=>kO ?_⟩
  .obtain⟨q,rfl⟩:=h.one;exact b56 q 1
  .have:=h.ok.small x hx;split<;>lia
theorem d68 {p:List Int}(h:0<p.length):atI (p.map D.int) (-1)=some (.int<|p.getD (p.length-1) 0):=by
 rcases List.eq_nil_or_concat p with rfl| ⟨q,x,rfl⟩
 .simp at h
 .rw[List.concat_eq_append,b56,bX];exact dC5 _ _
def pA:Φ:=λds Q=> ∃p:List Int,ds=[aI p]/\p.length<=1000/\Q (.pu<|.bl<|dZ9 p)
def vI:US:=(cW<|aQ cD6<|a8 (dF [] [none,none] 1 (dW<|aC 0) (bO 0) (λρ Q=>Q true ρ)<|uOp (oX λi j=>decide (i<=j)) (aQ bB6<|a8 (aC 0) aN)<|@499) aN)
def pB:US:=(aS (fS (uOr (cQ<|uOp (oX λi j=>decide (i<j)) (kF<|aT 0)<|@3)<|uOr (cQ<|uOp (oX λi j=>decide (j<i)) (kF<|aT 0)<|@5)<|cQ<|uOp (gJ true) (uIx (aT 0)<|lZ<|@1)<|@1) (cW<|uC<|.bl false) dD) vI)
theorem aY8: Ra pA pB ["r"]:=by
 rintro ds Q ⟨p,rfl,hn,h⟩;have lp:(p.map D.int).length=p.length:=aG _;unfold pB;simp only[aI];show(aS _ _:US) _ [~~~.tup (p.map .int)];rw[aM];left;rw[lp];unfold dZ9 at h
 by_cases h3:(p.length:Int)<3
 .rw[a9 h3];rw[gE ad]at h
  exact h
 rw[a7 h3];rw[kO<|show 3<=p.length by lia,a23]at h
 by_cases h5:(5:Int)< (p.length:Int)
 .rw[a9 h5];rw[gE<|show ¬p.length<=5 by lia]at h
  exact h
 rw[a7 h5];rw[kO<|show p.length<=5 by lia,a23]at h
 rw[d68 ad]
 right
 by_cases h1:p.getD (p.length-1) 0=1
 .rw[kO h1,a23]at h;rw[a7 λz=>z h1]
  unfold vI;rw[jS,dG,d4];refine dC (t0:=0) p.length (λk=>(p.map D.int).getD k .non) [~~~.tup (p.map .int)] ?_ ad (λx l=>[x,↑l]) none rfl (λ_ _ _=>rfl) (λ_ _=>bW _) (λ_ _ _ q=>q) (λ_ _ _=>rfl) (λk=> .bl (cH3<|p.getD k 0)) ?_ ?_
  .intro Q' q;simp only[dW];left;rw[lp];exact q
  .intro k l Q' hk q;have ek:(p.map D.int).getD k .non= .int (p.getD k 0):=by
    rw[aR,bJ,aR,aU hk];rfl
   rw[ek]at q⊢;left;exact q
  .have e:((List.range p.length).map λk=>D.bl (cH3<|p.getD k 0))=(p.map cH3).map D.bl:=by
    rw[gH];refine lP ae λi h1 h2=> ?_
    simp at h1
    simp[h1]
   rw[e];left;rw[uX];show Q (.pu<|.bl<|(p.map cH3).all id);rw[a31];exact h
 .rw[gE h1]at h;rw[a9 h1];exact h
def hJ:Φ:=λds Q=> ∃p:List Int,ds=[aI p]/\dQ p/\Q (.pu .non)
def nB:US:=(fS (c46<|cQ<|aQ pA<|a8 (aC 0) aN) (λ_ _=>False) dD)
theorem aL1: Ra hJ nB ["r"]:=by
 rintro ds Q ⟨p,rfl,hp,h⟩;have hi:=hp.ok.hi;unfold nB;show(fS _ _ _:US) _ [~~~aI p];left;refine⟨p,rfl,ad,?_⟩
 rw[(dL4 p).mpr hp]
 exists h
nonrec def jZ (p:List Int):List (List Int):=(List.range<|p.length-1).map λi=>((eW p<|2*(p.length-1)-2).drop i).take (p.length-1)
def a54:Φ:=λds Q=> ∃p:List Int,ds=[aI p]/\dQ p/\Q (.pu<|.int<|nL 4<|jZ p)
def a55:US:=(aS (aC1<|aQ hJ<|a8 (aC 0) aN)<|aS (bF 1<|uOp M.gSub (kF<|aT 0)<|@1)<|aS (bF 2<|aQ v8<|a8 (aC 0)<|a8 (uOp M.gSub (uOp fG @2<|aC 1)<|@1) aN)<|cW<|aQ (gB 4)<|a8 (aQ cF<|a8 (dF [1] [none,some 2,some 1,none] 3 (fX<|a8 (aC 1) aN) (bO 0) (λρ Q=>Q true ρ)<|aQ cF<|a8 (uSl (aT 1) (lY<|aC 0)<|lY<|uOp eV (aC 0)<|aC 2) aN) aN) aN)
theorem d69 {p:List Int}(hp:bE9 p):Sq 4 (jZ p):=by
 have hlo:=hp.lo;have hhi:=hp.hi;have bn:=a47 hp (2*(p.length-1)-2) aa
 have nl:=v7 p (2*(p.length-1)-2);have hl:(jZ p).length=p.length-1:=by unfold jZ;simp
 refine⟨aa,aa,λr hr=> ?_,λr hr x hx=> ?_⟩
 .unfold jZ at hr;obtain⟨i,hi,rfl⟩:=dL.mp hr;have:=eI.mp hi;rw[hl,nU,a11,nl];omega
 .unfold jZ at hr;obtain⟨i,hi,rfl⟩:=dL.mp hr;refine iC (bn x<|List.mem_of_mem_drop<|List.mem_of_mem_take hx) ?_;exact aP4 ac aa
theorem e00 (l:List D)(i n:Nat)(h:i+n<=l.length):cutD l (some (i:Int)) (some ((i+n:Nat):Int))=(l.drop i).take n:=by
 unfold cutD;rw[HT.sIx_nat,HT.sIx_nat,iF<|show i<=l.length by lia,iF h]
 congr 1
 lia
theorem c81: Ra a54 a55 ["p","n","s"]:=by
 rintro ds Q ⟨p,rfl,hp,h⟩;have hlo:=hp.ok.lo;have hhi:=hp.ok.hi;have lp:(p.map D.int).length=p.length:=aG _;have en:(p.length:Int)-1=((p.length-1:Nat):Int):=ad
 have nl:=v7 p (2*(p.length-1)-2);have fin:(cW (aQ (gB 4)<|a8 (aQ cF<|a8 (dF [1] [none,some 2,some 1,none] 3 (fX<|a8 (aC 1) aN) (bO 0) (λρ Q=>Q true ρ)<|aQ cF<|a8 (uSl (aT 1) (lY<|aC 0)<|lY<|uOp eV (aC 0)<|aC 2) aN) aN) aN):US) {Q with}
   [~~~.tup (p.map .int),!((p.length-1:Nat):Int),↑((eW p<|2*(p.length-1)-2).map .int)]:=by
  rw[jS,dG,d4,dG,d4];refine dC (t0:=0) (p.length-1) (λi=> .int (0+i)) [~~~.tup (p.map .int),!((p.length-1:Nat):Int),↑((eW p<|2*(p.length-1)-2).map .int)] ?_ ad
   (λx l=>[x,some<|.bo<|(eW p<|2*(p.length-1)-2).map .int,!((p.length-1:Nat):Int),↑l]) none rfl (λ_ _ _=>rfl) (λ_ _=>bW _) (λ_ _ _ q=>q) (λ_ _ _=>rfl)
   (λi=>aI (((eW p<|2*(p.length-1)-2).drop i).take<|p.length-1)) ?_ ?_
  .intro Q' q;simp only[fX];left;refine⟨ad,?_⟩
   rw[cD];exact q
  .intro i l Q' hi q;left;have e:cutD ((eW p<|2*(p.length-1)-2).map D.int) (some<|0+(i:Int)) (some<|0+(i:Int)+((p.length-1:Nat):Int))=(((eW p<|2*(p.length-1)-2).drop i).take<|p.length-1).map D.int:=by
    rw[cK,show(i:Int)+((p.length-1:Nat):Int)=((i+(p.length-1):Nat):Int)by lia,e00 _ _ _ (by rw[aG,nl];lia),kQ,a22]
   rw[e];exact q
  .simp only[cF,g1,B.d,aN,pO];refine⟨jZ p,?_,d69 hp.ok,h⟩;unfold cF7 jZ;rw[gH];rfl
 unfold a55;show(aS _ _:US) _ [~~~.tup (p.map .int),none,none];rw[aM,dL3,dG,d4];simp only[aC,aB2,aN,B.d,u8];refine⟨p,rfl,hp,?_⟩;rw[aM,iP];simp only[uOp,kF,aT,cC5,uC,pO,M.gSub,gI2,B.d,u8,lp,bG0,bF9,en];rw[aM,iP,dG];simp only[a8,aN,uOp,aC,aB2,uC,M.gSub,fG,gI2,B.d,u8,List.getElem?_cons_succ];refine⟨cmL ac ac,?_⟩
 refine⟨p,2*(p.length-1)-1,?_,hp.ok,ad,ad,?_⟩
 .rw[show(2:Int)*((p.length-1:Nat):Int)-1=((2*(p.length-1)-1:Nat):Int)by lia];rfl
 .rw[show 2*(p.length-1)-1-1=2*(p.length-1)-2 by lia]
  exact fin
nonrec def one4 (e d c b:Int):Int:=12*e-3*b*d+c*c
nonrec def two4 (e d c b:Int):Int:=72*c*e+9*b*c*d-27*d*d-27*b*b*e-2*c*c*c
nonrec def e01:List Int->Int
 | [c0,c1,_]=>c1*c1-4*c0
 | [d,c,b,_]=>b*b*c*c-4*c*c*c-4*b*b*b*d-27*d*d+18*b*c*d
 | [e,d,c,b,_]=>(4*one4 e d c b*one4 e d c b*one4 e d c b-two4 e d c b*two4 e d c b).fdiv 27
 | _=>0
theorem dQ.cases {p:List Int}(h:dQ p):(∃a b:Int,p=[a,b,1]/\a.natAbs<=499/\b.natAbs<=499)\/(∃a b c:Int,p=[a,b,c,1]/\a.natAbs<=499/\b.natAbs<=499/\c.natAbs<=499)\/
  ∃a b c d:Int,p=[a,b,c,d,1]/\a.natAbs<=499/\b.natAbs<=499/\c.natAbs<=499/\d.natAbs<=499:=by
 obtain⟨q,rfl⟩:=h.one;have lo:=h.ok.lo;have hi:=h.ok.hi;have sm: ∀x∈q,x.natAbs<=499:=λx hx=>h.ok.small x (a02 _ hx)
 rw[bV,aO7]at lo hi
 match q,lo,hi,sm with
 | [a,b],_,_,sm=>exact .inl ⟨a,b,rfl,sm a ae,sm b ae⟩
 | [a,b,c],_,_,sm=>exact .inr (.inl ⟨a,b,c,rfl,sm a ae,sm b ae,sm c ae⟩)
 | [a,b,c,d],_,_,sm=>exact .inr (.inr ⟨a,b,c,d,rfl,sm a ae,sm b ae,sm c ae,sm d ae⟩)
 | [],lo,_,_=>simp at lo
 | [_],lo,_,_=>simp at lo
 | _::_::_::_::_::_,_,hi,_=>simp at hi
nonrec def rts3 (a b c:Int):List Int:=[-(a*b*c),a*b+a*c+b*c,-a-b-c]
nonrec def sqIn (rs:List Int)(i:Nat)(t:Int):∅
 | 0=>t
 | j+1=>sqIn rs i t j*(rs.getD i 0-rs.getD j 0)*(rs.getD i 0-rs.getD j 0)
nonrec def sqK (rs:List Int):∅
 | 0=>1
 | i+1=>sqIn rs i (sqK rs i) i
nonrec def okR (q rs:List Int):Bool:=(q.all λx=>decide (x.natAbs<=499))&&decide (e01 (q++[1])=sqK rs rs.length)
nonrec def sh3 (a b c s:Int):List Int:=[a+s*b+s*s*c+s*s*s,b+2*s*c+3*s*s,c+3*s]
nonrec def sh4 (a b c d s:Int):List Int:=[a+s*b+s*s*c+s*s*s*d+s*s*s*s,b+2*s*c+3*s*s*d+4*s*s*s,c+3*s*d+6*s*s,d+4*s]
nonrec def e02 (row:List Int)(r:Int):Nat->List Int
 | 0=>0::row
 | k+1=>(e02 row r k).set k ((e02 row r k).getD k 0-r*row.getD k 0)
nonrec def e57 (rs:List Int):List Int:=rs.foldl (λrow r=>e02 row r row.length) [1]
theorem fr3 (a b c:Int):e57 [a,b,c]=rts3 a b c++[1]:=by
 simp[e57,e02,rts3]
 grind
nonrec def b57 (row:List Int)(s:Int):Nat->List Int
 | 0=>row
 | k+1=>(b57 row s k).set (row.length-2-k) ((b57 row s k).getD (row.length-2-k) 0+s*(b57 row s k).getD (row.length-1-k) 0)
nonrec def shK (p:List Int)(s:Int):Nat->List Int
 | 0=>p
 | low+1=>b57 (shK p s low) s (p.length-1-low)
theorem she3 (a b c s:Int):shK [a,b,c,1] s 3=sh3 a b c s++[1]:=by
 simp[shK,b57,sh3]
 grind
theorem she4 (a b c d s:Int):shK [a,b,c,d,1] s 4=sh4 a b c d s++[1]:=by
 simp[shK,b57,sh4]
 grind
def b58:Φ:=λds Q=> ∃m:Int,ds=[.int m]/\0<=m/\Sm m/\ ∀r:Int,0<=r->r<=m->Q (.pu<|.int r)
def b59:US:=(aS (bF 1<|aC 0)<|aS (bF 2<|uOp aW5 (uOp eV (aC 0)<|@1)<|@2)<|aS (b35 (cQ<|uOp (oX λi j=>decide (i<j)) (aC 2)<|aC 1)<|aS (bF 1<|aC 2)<|bF 2<|uOp aW5 (uOp eV (aC 1)<|uOp aW5 (aC 0)<|aC 1)<|@2)<|oK 1)
theorem Sm.le {i m:Int}(h:Sm m)(h0:0<=i)(h1:i<=m):Sm i:=by
 unfold Sm at h⊢;exact iC ad h
theorem d70: Ra b58 b59 ["m","g","b"]:=by
 rintro ds Q ⟨m,rfl,m0,ms,h⟩;unfold b59;show(aS _ _:US) _ [!m,none,none];left;rw[nJ _ ac]
 refine⟨⟨ac,bI7 ac ac⟩,?_⟩
 refine⟨λn ρ=> ∃g b:Int,ρ=[!m,!g,!b]/\n=g.toNat/\0<=g/\g<=m/\((m=0/\b=0)\/(1<=g/\b=(g+m/g)/2)),⟨_,m,(m+1)/2,rfl,rfl,m0,Int.le_refl _,?_⟩,?_⟩
 .by_cases z:m=0
  .subst z;exact .inl ⟨rfl,rfl⟩
  .right
   rw[Int.ediv_self z];exact⟨ad,rfl⟩
 .rintro n ρ ⟨g,b,rfl,rfl,g0,gm,hb⟩;left;split
  .rcases hb with⟨rfl,rfl⟩| ⟨g1,rfl⟩
   .lia
   .have b1:1<=(g+m/g)/2:=by
     have:1<=m/g:=Int.le_ediv_of_mul_le ad ad
     lia
    rw[nJ _<|show 0< (g+m/g)/2 by lia,nJ _ ac]
    refine⟨⟨ad,ms.le ad ad⟩,⟨ac,bI7 ac ac⟩,_,?_,_,_,rfl,rfl,ad,ad,.inr ⟨b1,rfl⟩⟩
    lia
  .exact h g g0 gm
nonrec def ev (p:List Int)(z:Int):Int:=ps (λj=>p.getD j 0) z p.length
theorem ev2 (a b z:Int):ev [a,b,1] z=a+b*z+z*z:=by simp[ev,ps];grind
theorem ev3 (a b c z:Int):ev [a,b,c,1] z=a+b*z+c*(z*z)+z*z*z:=by simp[ev,ps];grind
theorem ev4 (a b c d z:Int):ev [a,b,c,d,1] z=a+b*z+c*(z*z)+d*(z*z*z)+z*z*z*z:=by simp[ev,ps];grind
nonrec def qq (v u w s:Int):List Int:=[v*w,u*w+v*s,v+w+u*s,u+s,1]
def Red (p:List Int):Prop:=(∃z,ev p z=0)\/ ∃v u w s,p=qq v u w s
theorem dQ.cs {p:List Int}(h:dQ p):(∃a b,p=[a,b,1])\/(∃a b c,p=[a,b,c,1])\/ ∃a b c d,p=[a,b,c,d,1]:=by
 obtain⟨q,rfl⟩:=h.one;have lo:=h.ok.lo;have hi:=h.ok.hi;rw[bV,aO7]at lo hi
 match q,lo,hi with
 | [a,b],_,_=>exact .inl ⟨a,b,rfl⟩
 | [a,b,c],_,_=>exact .inr (.inl ⟨a,b,c,rfl⟩)
 | [a,b,c,d],_,_=>exact .inr (.inr ⟨a,b,c,d,rfl⟩)
 | [],h,_=>simp at h
 | [_],h,_=>simp at h
 | _::_::_::_::_::_,_,h=>simp at h
theorem e03 {p:List Int}(h:dQ p):ev p 0=p.getD 0 0:=by
 rcases h.cs with⟨a,b,rfl⟩| ⟨a,b,c,rfl⟩| ⟨a,b,c,d,rfl⟩
 .rw[ev2];simp
 .rw[ev3];simp
 .rw[ev4];simp
nonrec def linB (z:Int):∅:=λj=>[-z,1].getD j 0
theorem bS5 {a:Int}(h1:a.natAbs<=m)(h2:b.natAbs<=n):(a*b).natAbs<=m*n:=by rw[eT];exact gF h1 h2
def rT:Φ:=λds Q=> ∃m:Int,ds=[.int m]/\m.natAbs<=499/\ ∀l:List Int,(m=0->l=[0])->(∀x∈l,x∣m/\x.natAbs<=499)->Q (.ow<|l.map .int)
def aE2:US:=(aS (bF 1<|gA aN)<|aS (gP (bG8<|a8 @1<|a8 (uOp eV (aQ bB6<|a8 (aC 0) aN)<|@1) aN) (bO 2)<|fS (cQ<|uOp (gJ false) (uOp jX (aC 0)<|aC 2)<|@0) (aS (aK9 1<|aC 2)<|aK9 1<|lZ<|aC 2) dD)<|oK 1)
def xK:US:=(aS (fS (cQ<|uOp (gJ false) (aC 0)<|@0) (cW<|gA<|a8 @0 aN) dD) aE2)
theorem bS6: Ra rT xK ["m","f","d"]:=by
 rintro ds Q ⟨m,rfl,m9,h⟩;unfold xK;show(aS _ _:US) _ [!m,none,none];rw[aM];left
 by_cases m0:m=0
 .rw[a9 m0];exact⟨ac,h [0] (λ_=>rfl)<|by simp[m0]⟩
 rw[a7 m0];unfold aE2;rw[aM];left;refine⟨ac,?_⟩
 refine bB m.natAbs (λk=> .int (1+k)) _ ?_
  (λi ρ=> ∃(l:List Int) (z:Option B),ρ=[!m,↑(l.map .int),z]/\l.length<=2*i/\ ∀x∈l,x∣m/\x.natAbs<=i) ⟨[],none,rfl,ae,ae⟩ ?_ ?_
 .intro Q' q;left;have e:(if m<0 then -m else m)=(m.natAbs:Int):=by split<;>lia
  rw[e];refine⟨ad,?_⟩
  rw[show((m.natAbs:Int)+1-1).toNat=m.natAbs by lia]
  exact q
 .rintro i ρ hi ⟨l,z,rfl,ll,hl⟩;left;refine⟨ae,ad,?_⟩
  rw[cM _<|show(0:Int)<1+(i:Int)by lia]
  split
  .rename_i hd
   have dv:(1+(i:Int))∣m:=Int.dvd_of_emod_eq_zero hd;refine⟨?_,?_,l++[1+(i:Int),-(1+(i:Int))],!(1+(i:Int)),?_,?_,λx hx=> ?_⟩
   .rw[aG];exact b9 (show _<2000 by lia) ac
   .rw[bV,aG];exact b9 (show _<2000 by simp;lia) ac
   .rw[bX];simp
   .rw[bV];simp;lia
   .rcases dI.mp hx with hx|hx
    .have:=hl x hx;exact⟨this.1,ad⟩
    .rcases aZ.mp hx with rfl|hx
     .exact⟨dv,ad⟩
     .rw[cR.mp hx];exact⟨Int.neg_dvd.mpr dv,ad⟩
  .exact⟨l,_,rfl,ad,λx hx=>⟨(hl x hx).1,by have:=(hl x hx).2;lia⟩⟩
 .rintro ρ ⟨l,z,rfl,ll,hl⟩;left;exact h l (λz=>absurd z m0) λx hx=>⟨(hl x hx).1,by have:=(hl x hx).2;lia⟩
def oB:Φ:=λds Q=> ∃p:List Int,ds=[aI p]/\dQ p/\(p.getD 0 0≠0->Q (.pu .non))/\((∃z,ev p z=0)-> ∀d e,Q<|.pu<|.tup [d,e])
def tJ:US:=(cW<|uC .non)
def oC:US:=(aS (gP (dW<|aQ rT<|a8 (uIx (aT 0)<|@0) aN) (bO 1)<|fS (cQ<|uOp (gJ false) (aQ tP<|a8 (aC 0)<|a8 (aC 1) aN)<|@0) (aS (bF 2<|iR<|a8 (lZ<|aC 1)<|a8 @1 aN)<|cW<|iR<|a8 (aC 2)<|a8 (uIx (uV<|aQ gL<|a8 (aC 0)<|a8 (aC 2) aN)<|@0) aN) dD) tJ)
theorem cH4 (p:List Int)(j:Nat)(h:p.length<=j):p.getD j 0=0:=by rw[aR,fT h];rfl
theorem aS8: Ra oB oC ["p","z","l"]:=by
 rintro ds Q ⟨p,rfl,hp,hn,hy⟩;have hlo:=hp.ok.lo;have hhi:=hp.ok.hi;have er:aI p=aI (rwF p.length λj=>p.getD j 0):=dZ aI (aS6 p)
 unfold oC;show(aS _ _:US) _ [~~~.tup (p.map .int),none,none];rw[aM];have p0:(p.getD 0 0).natAbs<=499:=eX hp.ok.small 0;unfold gP;simp only[dW];left;rw[aD0 ad]
 refine⟨p.getD 0 0,rfl,p0,λl l0 lb=> ?_⟩
 right;rw[aG];refine⟨λi ρ=> ∃z1 z2,ρ=[~~~.tup (p.map .int),z1,z2]/\(p.getD 0 0=0->i=0),⟨none,none,rfl,λ_=>rfl⟩,?_,?_⟩
 .rintro i ρ hi ⟨z1,z2,rfl,hk⟩;have e3:(l.map D.int).getD i .non= .int (l.getD i 0):=by
   rw[aR,bJ,aU hi,aR,aU hi];rfl
  rw[e3];have mem:l.getD i 0∈l:=by rw[aR,aU hi];exact cS hi
  have zb:=(lb _ mem).2;have z0:p.getD 0 0=0->ev p (l.getD i 0)=0:=λc=>by
   rw[l0 c]at hi⊢;have:i=0:=by simp at hi;exact hi
   subst this;show ev p 0=0;rw[e03 hp,c]
  generalize l.getD i 0=z at zb z0;left;refine⟨ae,?_⟩
  refine⟨p.length,9,9,λj=>p.getD j 0,z,by rw[<-aS6];rfl,⟨λj=>aJ (eX hp.ok.small j) ac,aJ zb ac,ad,ac,ad⟩,?_⟩
  show(if ev p z=0 then _ else _)
  by_cases c:ev p z=0
  .rw[a9 c];refine⟨ac,?_⟩
   refine⟨p.length,1,9,9,λj=>p.getD j 0,linB z,?_,⟨ad,ac,rfl,λj hj=> ?_,λm hm=>aJ (eX hp.ok.small m) ac,λj=> ?_,ad,ac⟩,?_⟩
   .rw[<-er];rfl
   .unfold linB;rw[cH4];simp;lia
   .unfold linB;refine eX (b:=2^9) (λx hx=> ?_) j
    simp at hx
    rcases hx with rfl|rfl
    .rw[natAbs_neg];exact aJ zb ac
    .decide
   .left
    rw[show ∀a b:D,atI [a,b] 0=some a from λa b=>bP (j:=0) rfl]
    exact⟨ac,hy ⟨z,c⟩ _ _⟩
  .rw[a7 c];exact⟨_,_,rfl,λq=>absurd (z0 q) c⟩
 .rintro ρ ⟨z1,z2,rfl,hk⟩;unfold tJ;left;refine hn λc=> ?_
  have:=hk c;rw[l0 c]at this;simp at this
def xL:Φ:=λds Q=> ∃t m:Int,ds=[.int t,.int m]/\t.natAbs<=2^20/\m.natAbs<=2^20/\ ∀l:List Int,(∀u∈l,u*(t-u)=m)->Q (.ow<|l.map .int)
def aE3:US:=(aS (fS (cQ<|uOp (gJ true) (uOp fG (aC 3)<|aC 3)<|aC 2) (cW<|gA aN) dD)<|cW<|gA<|a8 (uOp aW5 (uOp eV (aC 0)<|aC 3)<|@2)<|a8 (uOp aW5 (uOp M.gSub (aC 0)<|aC 3)<|@2) aN)
def aE4:US:=(aS (bF 3<|aQ b58<|a8 (aC 2) aN) aE3)
def aE5:US:=(aS (fS (cQ<|uOp (oX λi j=>decide (i<j)) (aC 2)<|@0) (cW<|gA aN) dD) aE4)
def xM:US:=(aS (bF 2<|uOp M.gSub (uOp fG (aC 0)<|aC 0)<|uOp fG @4<|aC 1) aE5)
theorem par {t g m:Int}(h:g*g=t*t-4*m):(t+g)%2=0/\(t-g)%2=0:=by
 have h1:(t-g)*(t+g)=4*m:=by grind
 rcases Int.emod_two_eq (t+g)with c|c
 .exact⟨c,ad⟩
 .exfalso
  obtain⟨a,ha⟩: ∃a,t+g=2*a+1:=⟨(t+g)/2,ad⟩
  obtain⟨b,hb⟩: ∃b,t-g=2*b+1:=⟨(t-g)/2,ad⟩
  rw[ha,hb]at h1;have:2*(2*(b*a)+b+a-2*m)+1=0:=by grind
  lia
theorem bS7: Ra xL xM ["t","m","s","g"]:=by
 rintro ds Q ⟨t,m,rfl,ht,hm,h⟩;have p20:(2:Nat)^20=1048576:=ac
 have tt:(t*t).natAbs<=2^20*2^20:=bS5 ht ht;unfold xM;show(aS _ _:US) _ [!t,!m,none,none];rw[aM];left;refine⟨cmL aa aa,cmL ac ac,?_⟩
 generalize esq:t*t-4*m=sq;have sqb:sq.natAbs<=2^60:=by
  have:(2:Nat)^60=1152921504606846976:=ac
  have:(2:Nat)^20*2^20=1099511627776:=ac
  omega
 have p60:(2:Nat)^60=1152921504606846976:=ac
 unfold aE5;rw[aM];left
 by_cases s0:sq<0
 .rw[a9 s0];exact⟨ac,h [] ae⟩
 rw[a7 s0];unfold aE4;rw[aM];left;refine⟨sq,rfl,aa,Sm.pow sqb ac,λg g0 g1=> ?_⟩
 unfold aE3;right;rw[aM];left;refine⟨cmL aa aa,?_⟩
 by_cases c:g*g=sq
 .rw[a7 λz=>z c,nJ _ ac,nJ _ ac]
  have pp:=par (t:=t) (g:=g) (m:=m) (by rw[c,esq])
  refine⟨⟨ac,bI7 ac ac⟩,⟨ac,bI7 ac ac⟩,ac,?_⟩
  refine h [(t+g)/2,(t-g)/2] λu hu=> ?_
  have:4*(u*(t-u))=4*m:=by
   rcases aZ.mp hu with rfl|hu
   .obtain⟨y,hy⟩: ∃y,(t+g)/2=y:=⟨_,rfl⟩;have:g=2*y-t:=aa
    rw[hy];rw[this]at c
    grind
   .rw[cR.mp hu];obtain⟨y,hy⟩: ∃y,(t-g)/2=y:=⟨_,rfl⟩;have:g=t-2*y:=aa
    rw[hy];rw[this]at c
    grind
  omega
 .rw[a9 c];exact⟨ac,h [] ae⟩
theorem na2 {a:Int}{A B:Nat}(h:a.natAbs<=A)(h2:b.natAbs<=B):(a+b).natAbs<=A+B:=aJ (a09 a b) (Nat.add_le_add h h2)
def dL5 (g:UG)(tb:US)(E:UD)(b:B)(ρ1:Ev):Prop:=match pO b.d with
 | some l=> ∃Pv:Nat->Ev->Prop,Pv 0 ρ1/\(∀i ρ,i<l.length->Pv i ρ->g (.pu<|l.getD i .non) ρ λρ2=>tb {E with nx:=Pv (i+1),ct:=Pv (i+1),bk:=E.nx} ρ2)/\ ∀ρ,Pv l.length ρ->E.nx ρ
 | none=>False
theorem bL1 {φ:Φ}{t:UA}:gP (dW<|aQ φ t) g tb E ρ=t ρ λds ρ1=>φ ds λb=>dL5 g tb E b ρ1:=rfl
theorem bA2 {ρ1:Ev}(l:List Int)(Pv:Nat->Ev->Prop)(h0:Pv 0 ρ1)(hs: ∀i ρ,i<l.length->Pv i ρ->g (.pu<|.int<|l.getD i 0) ρ λρ2=>tb {E with nx:=Pv (i+1),ct:=Pv (i+1),bk:=E.nx} ρ2)(hd: ∀ρ,Pv l.length ρ->E.nx ρ):dL5 g tb E (.ow<|l.map .int) ρ1:=by
 show ∃Pv:Nat->Ev->Prop,Pv 0 ρ1/\(∀i ρ,i< (l.map D.int).length->Pv i ρ->g (.pu<|(l.map D.int).getD i .non) ρ λρ2=>tb {E with nx:=Pv (i+1),ct:=Pv (i+1),bk:=E.nx} ρ2)/\ ∀ρ,Pv (l.map D.int).length ρ->E.nx ρ
 rw[aG];refine⟨Pv,h0,λi ρ hi hp=> ?_,hd⟩
 have e3:(l.map D.int).getD i .non= .int (l.getD i 0):=by
  rw[aR,bJ,aU hi,aR,aU hi];rfl
 rw[e3];exact hs i ρ hi hp
theorem bZ3 (hi:i<l.length):l.getD i 0∈l:=by rw[aR,aU hi];exact cS hi
def l9:Φ:=λds Q=> ∃a b c d:Int,ds=[aI [a,b,c,d,1]]/\(∀x∈[a,b,c,d],x.natAbs<=499)/\a≠0/\Q (.pu .non)/\((∃v u w s,[a,b,c,d,1]=qq v u w s)-> ∀x y,Q<|.pu<|.tup [x,y])
def lB:US:=(aS (gP (dW<|aQ rT<|a8 (uIx (aT 0)<|@0) aN) (bO 1)<|aS (bF 2<|uOp aW5 (uIx (aT 0)<|@0)<|aC 1)<|gP (dW<|aQ xL<|a8 (uIx (aT 0)<|@3)<|a8 (uOp M.gSub (uOp M.gSub (uIx (aT 0)<|@2)<|aC 1)<|aC 2) aN) (bO 3)<|aS (bF 4<|uOp M.gSub (uIx (aT 0)<|@3)<|aC 3)<|fS (cQ<|uOp (gJ false) (uOp eV (uOp fG (aC 3)<|aC 2)<|uOp fG (aC 1)<|aC 4)<|uIx (aT 0)<|@1) (cW<|iR<|a8 (iR<|a8 (aC 1)<|a8 (aC 3)<|a8 @1 aN)<|a8 (iR<|a8 (aC 2)<|a8 (aC 4)<|a8 @1 aN) aN) dD)<|cW<|uC .non)
theorem d71 {u t m:Int}(h:u*(t-u)=m)(ht:t.natAbs<=2^20)(hm:m.natAbs<=2^20):u.natAbs<=2^20:=by
 by_cases c:t-u=0
 .have:u=t:=ad
  rw[this];exact ht
 .have h1:m.natAbs=u.natAbs*(t-u).natAbs:=by rw[<-h,eT]
  have h2:u.natAbs*1<=u.natAbs*(t-u).natAbs:=a05 _ ad
  lia
theorem aA5: Ra l9 lB ["p","v","w","u","s"]:=by
 rintro ds Q ⟨a,b,c,d,rfl,hs,a0,hn,hy⟩;simp only[aP5]at hs;obtain⟨ha,hb,hc,hd,_⟩:=hs;have p20:(2:Nat)^20=1048576:=ac
 unfold lB;show(aS _ _:US) _ [~~~.tup [.int a,.int b,.int c,.int d,.int 1],none,none,none,none];have i0:atI [D.int a,.int b,.int c,.int d,.int 1] 0=some (.int a):=bP (j:=0) rfl;have i1:atI [D.int a,.int b,.int c,.int d,.int 1] 1=some (.int b):=bP (j:=1) rfl;have i2:atI [D.int a,.int b,.int c,.int d,.int 1] 2=some (.int c):=bP (j:=2) rfl
 have i3:atI [D.int a,.int b,.int c,.int d,.int 1] 3=some (.int d):=bP (j:=3) rfl;rw[aM,bL1];left;rw[i0];refine⟨a,rfl,ha,λl _ lb=> ?_⟩
 refine bA2 l (λi ρ=> ∃z1 z2 z3 z4,ρ=[~~~.tup [.int a,.int b,.int c,.int d,.int 1],z1,z2,z3,z4]) ⟨none,none,none,none,rfl⟩ ?_ ?_
 .rintro i ρ hi ⟨z1,z2,z3,z4,rfl⟩;obtain⟨vd,vb⟩:=lb _ (bZ3 hi);generalize l.getD i 0=v at vb vd;obtain⟨w,rfl⟩:=vd;have v0:v≠0:=λz=>a0 (by rw[z,jL])
  have wb:w.natAbs<=499:=by
   rw[eT]at ha;have:1*w.natAbs<=v.natAbs*w.natAbs:=a03 _ ad
   lia
  refine⟨ae,?_⟩
  show(aS _ _:US) _ [~~~.tup [.int<|v*w,.int b,.int c,.int d,.int 1],!v,z2,z3,z4]
  rw[aM,iP];left;rw[i0];right;rw[Int.mul_fdiv_cancel_left _ v0];refine⟨⟨v0,bI7 ad ad⟩,?_⟩
  rw[bL1];left;rw[i3,i2];right;refine⟨d,c-v-w,rfl,ad,ad,λus hus=> ?_⟩
  refine bA2 us (λj ρ=> ∃z3 z4,ρ=[~~~.tup [.int<|v*w,.int b,.int c,.int d,.int 1],!v,!w,z3,z4]) ⟨_,_,rfl⟩ ?_ ?_
  .rintro j ρ hj ⟨z3,z4,rfl⟩;have um:=hus _ (bZ3 hj);generalize us.getD j 0=u at um;have ub:=d71 um ad ad
   refine⟨ae,?_⟩
   show(aS _ _:US) _ [~~~.tup [.int<|v*w,.int b,.int c,.int d,.int 1],!v,!w,!u,z4]
   rw[aM];left;rw[i3];right;rw[i1];refine⟨cmL ad ad,cmL ad ad,?_⟩
   right
   by_cases q:u*w+v*(d-u)=b
   .rw[a9 q];refine⟨ac,ac,ac,hy ⟨v,u,w,d-u,?_⟩ _ _⟩
    unfold qq;rw[<-q];have e1:v+w+u*(d-u)=c:=by rw[um];lia
    have e2:u+(d-u)=d:=ad
    rw[e1,e2]
   .rw[a7 q];exact⟨_,_,rfl⟩
  .rintro ρ ⟨z3,z4,rfl⟩;exact⟨_,_,_,_,rfl⟩
 .rintro ρ ⟨z1,z2,z3,z4,rfl⟩;left;exact hn
def aS9:Φ:=λds Q=> ∃p:List Int,ds=[aI p]/\dQ p/\Q (.pu .non)/\(Red p-> ∀x y,Q<|.pu<|.tup [x,y])
def sH:US:=(oK 1)
def aE6:US:=(aS (fS (b34 (cQ<|bR9 false<|aC 1)<|cQ<|uOp (gJ false) (kF<|aT 0)<|@5) (bF 1<|aQ l9<|a8 (aC 0) aN) dD) sH)
def bA3:US:=(aS (bF 1<|aQ oB<|a8 (aC 0) aN) aE6)
def aT0:US:=(aS (aC1<|aQ hJ<|a8 (aC 0) aN) bA3)
theorem cT9: Ra aS9 aT0 ["p","q"]:=by
 rintro ds Q ⟨p,rfl,hp,hn,hy⟩;unfold aT0;show(aS _ _:US) _ [~~~.tup (p.map .int),none];rw[aM];left;refine⟨p,rfl,hp,?_⟩;try right
 unfold bA3;rw[aM];left;refine⟨p,rfl,hp,λnr=> ?_,λred x y=> ?_⟩
 .try right
  unfold aE6;rw[aM];left;rw[aG]
  by_cases c:(p.length:Int)=5
  .simp only[c,eA];have sm:=hp.ok.small;rcases hp.cs with⟨a,b,rfl⟩| ⟨a,b,c',rfl⟩| ⟨a,b,c',d,rfl⟩
   .simp at c
   .simp at c
   .simp only[aP5]at sm;refine⟨a,b,c',d,rfl,by simp only[aP5];exact⟨sm.1,sm.2.1,sm.2.2.1,sm.2.2.2.1,ae⟩,nr,?_,λq x y=> ?_⟩
    .unfold sH;left;exact hn
    .unfold sH;left;exact hy (.inr q) _ _
  .simp only[c,eA,fW];unfold sH;left;exact hn
 .try right
  unfold aE6;rw[aM];left;unfold sH;left;exact hy (.inl red) _ _
nonrec def fOf (p:List Int):∅:=λj=>p.getD j 0
theorem dQ.rf {p:List Int}(h:dQ p):RF (p.length-1) (fOf p):=by
 have lo:=h.ok.lo;have hi:=h.ok.hi;refine⟨aa,aa,?_,λj hj=> ?_,λj=> ?_⟩
 .obtain⟨q,rfl⟩:=h.one;show(q++[1]).getD _ 0=1;rw[bV,aR,lK ae]
  simp
 .show p.getD j 0=0
  rw[aR,fT aa]
  rfl
 .exact aJ (eX h.ok.small j) ac
theorem dQ.row {p:List Int}(h:dQ p):aI p=aI (rwF (p.length-1+1)<|fOf p):=by
 have lo:=h.ok.lo;have e:=aS6 p;rw[show p.length-1+1=p.length by omega]
 exact dZ aI e
def aE7:Φ:=λds Q=> ∃(r:List Int) (k:Int),ds=[aI r,.int k]/\r.length<=1000/\ -1000<=k/\k<=1000/\Q (.pu<|aI<|r++replicate (k-(r.length:Int)).toNat 0)
def aE8:US:=(cW<|uOp eV (aC 0)<|uOp bX6 (iR<|a8 @0 aN)<|uOp M.gSub (aC 1)<|kF<|aT 0)
theorem cH5: Ra aE7 aE8 ["r","s"]:=by
 rintro ds Q ⟨r,k,rfl,hr,k0,k1,h⟩;unfold aE8;simp only[aI];show(cW _:US) _ [~~~.tup (r.map .int),!k];left;rw[aG];have e:(replicate (k-(r.length:Int)).toNat [D.int 0]).flatten=(replicate (k-(r.length:Int)).toNat 0).map D.int:=sC _ _;rw[e,<-bX];refine⟨ac,⟨ae,ad,ad,aJ (show 1*(k-(r.length:Int)).toNat<=1000 by lia) ac⟩,?_,h⟩
 rw[aG,nR];exact aJ (show r.length+(k-(r.length:Int)).toNat<=3000 by lia) ac
def jT:ΦX:=λds Q Ex=> ∃p:List Int,ds=[aI p]/\dQ p/\Q (.pu .non)/\(Red p-> ∀es,Ex "FallsApart" es)
def nE:USX:=(λEx=>aS ((λ_=>(bF 1<|aQ aS9<|a8 (aC 0) aN)) Ex) ((λEx=>fS (cQ<|bR9 true<|aC 1) ((aX4 "FallsApart" (uIx (aT 1)<|@0)<|uIx (aT 1)<|@1) Ex) ((λ_=>dD) Ex)) Ex))
theorem aE9: ∀ds Q Ex,jT ds Q Ex->ds.length=1:=by rintro ds Q Ex ⟨p,rfl,_⟩;rfl
theorem aL2: ∀ds Q Ex,jT ds Q Ex->nE Ex {Q with} (init ["p","q"] ds):=by
 rintro ds Q Ex ⟨p,rfl,rp,h0,h1⟩;unfold nE;right;show(aS _ _:US) _ [~~~aI p,none];rw[aM];left;refine⟨p,rfl,rp,?_,λred x y=> ?_⟩
 .left
  exists h0
 .left
  simp only[at0,at1];exact h1 red _
def mM:ΦX:=λds Q Ex=> ∃(p:List Int) (size:Int),ds=[aI p,.int size]/\dQ p/\Q (.pu .non)/\((∃q g,dZ7 (p.length-1) (fOf p) size q g)-> ∀es,Ex "NotWhole" es)
def rB:USX:=(λEx=>aS ((λ_=>(bF 2<|aQ sZ<|a8 (aC 0)<|a8 (aQ vG<|a8 (aC 0)<|a8 (aC 1) aN) aN)) Ex) ((λEx=>fS (cQ<|bR9 true<|aC 2) ((λEx=>aS ((λ_=>(dD5 (aC 2)<|tI<|fP 3<|fP 4 tH)) Ex) ((aX4 "NotWhole" (aC 3)<|aQ aE7<|a8 (aQ cF<|a8 (dF [3] [none,some 3,none] 2 (dW<|aC 4) (bO 0) (λρ Q=>Q true ρ)<|uOp jX (aC 0)<|aC 1) aN)<|a8 (uOp M.gSub (kF<|aT 0)<|@1) aN) Ex)) Ex) ((λ_=>dD) Ex)) Ex))
theorem aY9: ∀ds Q Ex,mM ds Q Ex->ds.length=2:=by rintro ds Q Ex ⟨p,size,rfl,_⟩;rfl
theorem b60: ∀ds Q Ex,mM ds Q Ex->rB Ex {Q with} (init ["p","s","o","q","f"] ds):=by
 rintro ds Q Ex ⟨p,size,rfl,rp,h0,h1⟩;have rf:=rp.rf;rw[rp.row];generalize p.length-1=n at *;generalize fOf p=f at *;unfold rB;right;show(aS _ _:US) _ [~~~aI (rwF (n+1) f),!size,none,none,none];rw[aM];left;refine⟨n,f,size,rfl,rf,λl hl hP=>⟨n,f,size,l,rfl,rf,hl,hP,?_,λq g outs=> ?_⟩⟩
 .left
  exists h0
 .have pp:=b52 outs.pr;have p2:=pp.lo;have p3:=pp.hi;have ql:(dZ8 n f g).length<=5:=by
   unfold dZ8;rw[wG];have:=a51 (divQ g.2 g.1 (n+1-g.1) f) (n+1-g.1);have:=rf.n4
   lia
  generalize dZ8 n f g=r at *;simp only[aI];left;refine⟨ac,ac,trivial,?_⟩
  refine dC (t0:=0) r.length (λk=>(r.map D.int).getD k .non) [~~~.tup ((rwF (n+1) f).map .int),!size,~~~.tup [.int q,.tup<|r.map .int],!q,~~~.tup (r.map .int)] (λQ' q=> ?_) ad (λx l'=>[x,!q,↑l']) none rfl (λ_ _ _=>rfl) (λ_ _=>bW _) (λ_ _ _ q=>q) (λ_ _ _=>rfl) (λk=> .int (r.getD k 0%q)) ?_ ?_
  .left
   rw[aG];exact q
  .intro k l' Q' hk q';have e3:(r.map D.int).getD k .non= .int (r.getD k 0):=by
    rw[aR,bJ,aR,aU hk];rfl
   rw[e3]at q'⊢;left;refine⟨ad,?_⟩
   rw[cM _ ad]
   exact q'
  .have e4:(List.range r.length).map (λk=>D.int (r.getD k 0%q))=((List.range r.length).map λk=>r.getD k 0%q).map D.int:=by rw[gH];rfl
   rw[e4];have n4:=rf.n4;left;refine⟨_,_,rfl,by rw[aG,jH];lia,?_,?_,h1 ⟨q,g,outs⟩ _⟩
   .rw[bE];lia
   .rw[bE];lia
structure dL6 (p:List Int):Prop where
 rp:dQ p
 irr: ¬Red p
 meas:(nL 4<|jZ p).natAbs<=39999
 whole: ¬ ∃q g,dZ7 (p.length-1) (fOf p) (nL 4<|jZ p) q g
def yX:ΦM:=λds Q Ex=> ∃p:List Int,ds=[aI p]/\dQ p/\((nL 4<|jZ p).natAbs<=39999->Q [aI p,.int<|(p.length:Int)-1,.int<|nL 4<|jZ p])/\(Red p-> ∀es,Ex "FallsApart" es)/\(¬dL6 p->Ex "TooGreat" []/\ ∀es,Ex "NotWhole" es)
def bL2:USX:=(λEx=>aS ((λ_=>(aC1<|aQ hJ<|a8 (aC 1) aN)) Ex) ((λEx=>aS ((λEx=>aC1 (c67 jT (a8 (aC 1) aN) Ex)) Ex) ((λEx=>aS ((λ_=>(bF 2<|aQ a54<|a8 (aC 1) aN)) Ex) ((λEx=>aS ((λEx=>fS (cQ<|uOp (oX λi j=>decide (j<i)) (aQ bB6<|a8 (aC 2) aN)<|@39999) ((bI3 "TooGreat"<|a8 (uC<|.str "a ring's measure is from -39,999 to 39,999") aN) Ex) ((λ_=>dD) Ex)) Ex) ((λEx=>aC1 (c67 mM (a8 (aC 1)<|a8 (aC 2) aN) Ex)) Ex)) Ex)) Ex)) Ex))
def bL3:UE:=(aC 1)
def bL4:UE:=(uOp M.gSub (kF<|aT 1)<|@1)
def bL5:UE:=(aC 2)
theorem d72: ∀ds Q Ex,yX ds Q Ex->ds.length+1=2:=by rintro ds Q Ex ⟨p,rfl,_⟩;rfl
theorem dL7: ∀a ds Q Ex,yX ds Q Ex->bL2 Ex {nx:=λρ=>ρ[0]? =some (~~~.adr a)/\bL3 ρ λb1 ρ1=>bL4 ρ1 λb2 ρ2=>bL5 ρ2 λb3 _=>Q [b1.d,b2.d,b3.d],rt:=λ_=>False} (init ["s","p","m"] (.adr a::ds)):=by
 rintro a ds Q Ex ⟨p,rfl,rp,h0,hr,h1⟩;have lo:=rp.ok.lo;unfold bL2;right;show(aS _ _:US) _ [~~~.adr a,~~~aI p,none];rw[aM];left;refine⟨p,rfl,rp,?_⟩;left;refine⟨p,rfl,rp,?_,hr⟩;refine⟨p,rfl,rp,?_⟩;left
 by_cases c:(39999:Int)< (if nL 4 (jZ p)<0 then -nL 4 (jZ p)else nL 4 (jZ p))
 .rw[a9 c];refine⟨ac,(h1 λz=> ?_).1⟩
  have:=z.meas;split at c<;>omega
 .rw[a7 c];have me:(nL 4<|jZ p).natAbs<=39999:=by split at c<;>omega
  refine⟨p,nL 4<|jZ p,rfl,rp,⟨trivial,?_⟩,λo=>(h1 λz=>z.whole o).2⟩
  unfold bL3 bL4 bL5;simp only[aI];left;rw[aG];exact h0 me
nonrec def c82 (r:List Int)(m:Int):Bool:=r.any λc=>decide (c%m≠0)
nonrec def dL8 (p:List Int)(size:Int):Bool:=prL.all λq=>decide (size%(q*q)≠0)||
 ((List.range q.toNat).all (λc=>c82 (bK9 (p.length-1) (fOf p)<|vD (c:Int)) (q*q))&&
   (decide (p.length≠5)||(List.range q.toNat).all λv=>(List.range q.toNat).all λu=>c82 (bK9 (p.length-1) (fOf p)<|quF (v:Int) (u:Int)) (q*q)))
theorem mp_one (mp:MP p F.1 F.2)(h1:F.1=1):F=vD (F.2 0):=by
 refine kT h1 (funext λj=> ?_)
 show F.2 j=if j=0 then F.2 0 else if j=1 then 1 else 0
 by_cases c0:j=0
 .rw[a9 c0,c0]
 .by_cases c1:j=1
  .rw[a7 c0,a9 c1,c1];have:=mp.top;rw[h1]at this;exact this
  .rw[a7 c0,a7 c1];exact mp.hi j ad
theorem aZ0 {r:List Int}{m:Int}(h: ∀c∈r,c%m=0):c82 r m=false:=by
 unfold c82;rw[List.any_eq_false];intro c hc;simp[h c hc]
theorem dL9 {p:List Int}{size:Int}(rp:dQ p)(h:dL8 p size=true): ¬ ∃q g,dZ7 (p.length-1) (fOf p) size q g:=by
 rintro⟨q,g,o⟩;have lo:=rp.ok.lo;have hi:=rp.ok.hi;have pp:=b52 o.pr;have h1:=eR.mp h q o.pr;rw[a18,eG]at h1;have nz: ¬decide (size%(q*q)≠0)=true:=by rw[gD];exact λz=>z o.sq
 obtain⟨h2,h3⟩:=h1.resolve_left nz;obtain⟨R,mR,e⟩:=o.tw;have dg:p.length-1=g.1+g.1+R.1:=dZ Prod.fst e;have g1:=o.g1
 by_cases c1:g.1=1
 .have eg:=mp_one o.mg c1;have r0:=o.mg.rng 0;have h4:=eR.mp h2 (g.2 0).toNat (eI.mpr ad)
  rw[show(((g.2 0).toNat:Nat):Int)=g.2 0 by lia,<-eg,aZ0 o.all]at h4
  cases h4
 .have c2:g.1=2:=ad
  have eg:=mp_two o.mg c2;have r0:=o.mg.rng 0;have r1:=o.mg.rng 1;have n5: ¬decide (p.length≠5)=true:=by rw[gD];lia
  have h4:=(a18 _ _▸h3).resolve_left n5;have h5:=eR.mp (eR.mp h4 (g.2 0).toNat<|eI.mpr ad) (g.2 1).toNat (eI.mpr ad)
  rw[show(((g.2 0).toNat:Nat):Int)=g.2 0 by lia,show(((g.2 1).toNat:Nat):Int)=g.2 1 by lia,<-eg,aZ0 o.all]at h5
  cases h5
nonrec def rC:List (List Int):=[[5,0,1],[-10,0,1],[6,1,1],[-3,0,1],[-1,-1,0,1],[-2,0,0,1],[-1,4,0,1],[1,0,0,0,1],[-1,-1,0,0,1],[1,1,1,1,1],[-2,0,0,0,1],[1,0,-1,0,1]]
theorem cH6:rC.all (λp=>dL8 p (nL 4<|jZ p)&&decide ((nL 4<|jZ p).natAbs<=39999))=true:=af
theorem vJ: ∀p∈rC,dQ p:=by
 intro p hp;have h:rC.all (λp=>decide (3<=p.length)&&decide (p.length<=5)&&p.all (λx=>decide (x.natAbs<=499))&&decide (p=p.dropLast++[1]))=true:=af
 have h1:=eR.mp h p hp;simp only[eG,gD,eR]at h1;exact⟨⟨h1.1.1.1,h1.1.1.2,h1.1.2⟩,p.dropLast,h1.2⟩
theorem d09 (f:∅)(z:Int): ∀n,∃k,ps f z (n+1)=f 0+z*k
 | 0=>⟨0,by show 0+f 0*z^0=_;rw[qQ,o8,cU];lia⟩
 | n+1=>by
  obtain⟨k,hk⟩:=d09 f z n;refine⟨k+f (n+1)*z^n,?_⟩;show ps f z (n+1)+f (n+1)*z^(n+1)=_;rw[hk,a29]
  grind
theorem aT1 {a:Int}(h:z∣a)(ha:a≠0):z.natAbs<=a.natAbs:=Nat.le_of_dvd ad (Int.natAbs_dvd_natAbs.mpr h)
theorem c83:rC.all (λp=>decide (p.getD 0 0≠0)&&decide ((p.getD 0 0).natAbs<=10)&&(List.range 21).all λk=>decide (ev p ((k:Int)-10)≠0))=true:=af
theorem cU0:rC.all (λp=>decide (p.length≠5)||(decide ((p.getD 0 0).natAbs<=2)&&decide ((p.getD 2 0).natAbs<=1)&&decide ((p.getD 3 0).natAbs<=1)&&
  (List.range 5).all λv=>(List.range 5).all λw=>(List.range 7).all λu=>(List.range 9).all λs=>decide (p≠qq ((v:Int)-2) ((u:Int)-3) ((w:Int)-2) ((s:Int)-4))))=true:=af
theorem dM0 {u:Int}(h1:(u+s).natAbs<=1)(h2:(u*s).natAbs<=5):u.natAbs<=3:=by
 refine zU λz=> ?_
 rcases(show 4<=u\/u<= -4 by lia)with c|c
 .have:4*3<=u*(-s):=a20 c ad ac ad
  rw[Int.mul_neg]at this
  lia
 .have:4*3<=(-u)*s:=a20 ad ad ac ad
  rw[Int.neg_mul]at this
  lia
theorem off {c:Nat}(h:z.natAbs<=c): ∃k:Nat,k<2*c+1/\(k:Int)-(c:Int)=z:=⟨(z+c).toNat,ad,ad⟩
theorem d73: ∀p∈rC,¬Red p:=by
 intro p hp;have h1:=eR.mp c83 p hp;simp only[eG,gD,eR,eI]at h1;obtain⟨⟨a0,a1⟩,a2⟩:=h1;have lo:=(vJ p hp).ok.lo;rintro(⟨z,hz⟩| ⟨v,u,w,s,e⟩)
 .unfold ev at hz;obtain⟨k,hk⟩:=d09 (λj=>p.getD j 0) z (p.length-1)
  rw[show p.length-1+1=p.length by omega,hz]at hk
  have dv:z∣p.getD 0 0:=⟨-k,by rw[Int.mul_neg];omega⟩
  obtain⟨k,hk,ez⟩:=off (c:=10) (aJ (aT1 dv a0) a1);refine a2 k hk ?_;rw[show((10:Nat):Int)=10 from rfl]at ez
  rw[ez];exact hz
 .have h2:=eR.mp cU0 p hp;have l5:p.length=5:=by rw[e];rfl
  rw[a18]at h2;have h3:=h2.resolve_left (by rw[gD];omega)
  simp only[eG,gD,eR,eI]at h3;obtain⟨⟨⟨b0,b2⟩,b3⟩,b4⟩:=h3;have e0:p.getD 0 0=v*w:=by rw[e];rfl
  have e2:p.getD 2 0=v+w+u*s:=by rw[e];rfl
  have e3:p.getD 3 0=u+s:=by rw[e];rfl
  have v2:=aT1 (z:=v) ⟨w,e0⟩ a0;have w2:=aT1 (z:=w) ⟨v,by rw[e0,lU]⟩ a0
  rw[e2]at b2;rw[e3]at b3;have ng: ∀{z:Int} {A:Nat},z.natAbs<=A->(-z).natAbs<=A:=λh=>by rw[natAbs_neg];exact h
  have u3:=dM0 b3 (by
   have:=na2 (na2 b2<|ng<|aJ v2 b0) (ng<|aJ w2 b0);rw[show v+w+u*s+ -v+ -w=u*s by grind]at this
   exact this)
  obtain⟨kv,hv,ev⟩:=off (c:=2) (aJ v2 b0);obtain⟨kw,hw,ew⟩:=off (c:=2) (aJ w2 b0);obtain⟨ku,hu,eu⟩:=off u3;obtain⟨ks,hs,es⟩:=off (z:=s) (c:=4) (by
   have:=na2 b3 (ng u3);rw[show u+s+ -u=s by lia]at this
   exact this)
  refine b4 kv hv kw hw ku hu ks hs ?_
  subst ev ew eu es;exact e
theorem cH7: ∀p∈rC,dL6 p:=by
 intro p hp;have h1:=eR.mp cH6 p hp;simp only[eG,gD]at h1;exact⟨vJ p hp,d73 p hp,h1.2,dL9 (vJ p hp) h1.1⟩
nonrec def j9 (C:Addr)(p:List Int):D:= .obj C ["poly","degree","measure"] [aI p,.int<|(p.length:Int)-1,.int<|nL 4<|jZ p]
theorem sI {C:Addr}{p:List Int}(h:ρ[i]? =some (~~~j9 C p)):b48 "degree" (aC i) ρ Q=Q (.pu<|.int<|(p.length:Int)-1) ρ:=by
 unfold b48;rw[c75 h];rfl
theorem bZ4 {C:Addr}{p:List Int}(h:ρ[i]? =some (~~~j9 C p)):b48 "poly" (aC i) ρ Q=Q (.pu<|aI p) ρ:=by
 unfold b48;rw[c75 h];rfl
nonrec def ttF (p:List Int)(n:Nat)(u:∅):∅:=λi=>(if i=0 then 0 else u (i-1))-u (n-1)*p.getD i 0
def a56:Φ:=λds Q=> ∃(C:Addr) (p:List Int) (n:Nat) (u:∅),ds=[j9 C p,aI<|rwF n u]/\dQ p/\p.length=n+1/\Q (.pu<|aI<|rwF n<|ttF p n u)
def aM1:US:=(cW<|aQ cF<|a8 (dF [2,0] [none,some 3,some 2,some 0,none] 4 (fX<|a8 (b48 "degree"<|aC 0) aN) (bO 0) (λρ Q=>Q true ρ)<|uOp M.gSub (uIx (aT 1)<|aC 0)<|uOp fG (aC 2)<|uIx (uV<|b48 "poly"<|aC 3)<|aC 0) aN)
def aM2:US:=(aS (bF 3<|uOp eV (iR<|a8 @0 aN)<|uSl (aT 1) j4<|lY<|lZ<|@1) aM1)
def a57:US:=(aS (bF 2<|uIx (aT 1)<|lZ<|@1) aM2)
theorem c84: Ra a56 a57 ["r","x","l","m"]:=by
 rintro ds Q ⟨C,p,n,u,rfl,rp,hn,h⟩;have lo:=rp.ok.lo;have hi:=rp.ok.hi;unfold a57;simp only[aI];show(aS _ _:US) _ [~~~j9 C p,~~~.tup ((rwF n u).map .int),none,none];rw[aM];left;rw[bA0 ad]
 right;unfold aM2;rw[aM];left;have s1:HT.sIx n n (some<|-1)=n-1:=by
  show(if(-1:Int)<0 then(-1+(n:Int)).toNat else min (-1:Int).toNat n)=n-1
  rw[a9 ac]
  lia
 have ec:cutD ((rwF n u).map D.int) none (some<|-1)=(rwF (n-1) u).map D.int:=by
  unfold cutD;rw[bE,HT.sIx_none,s1,List.drop_zero,a27,<-kQ,bK4 _ _ _ ad]
 have em:[D.int 0]++(rwF (n-1) u).map D.int=(rwF n λi=>if i=0 then 0 else u (i-1)).map D.int:=by
  apply lP
  .simp[rwF];lia
  .intro k h1 h2;cases k with
   | zero=>simp[rwF]
   | succ k=>simp[rwF]
 rw[ec,em,bE,bE,HT.sIx_none,s1];refine⟨ac,ad,aJ (show 0+1+(n-1)<=5 by lia) ac,?_⟩
 unfold aM1;rw[jS,dG,d4]
 refine dC (t0:=0) n (λk=> .int (0+(k:Int))) [~~~j9 C p,~~~.tup ((rwF n u).map .int),!u (n-1),some<|.pu<|.tup<|(rwF n λi=>if i=0 then 0 else u (i-1)).map .int] (λQ' q=> ?_) ad (λx l'=>[x,some<|.pu<|.tup<|(rwF n λi=>if i=0 then 0 else u (i-1)).map .int,!u (n-1),~~~j9 C p,↑l']) none rfl (λ_ _ _=>rfl) (λ_ _=>bW _) (λ_ _ _ q=>q) (λ_ _ _=>rfl) (λk=> .int (ttF p n u k)) ?_ ?_
 .unfold fX;rw[d4,sI (C:=C) (p:=p) rfl];left;refine⟨⟨ad,ad⟩,?_⟩
  rw[show((p.length:Int)-1).toNat=n by lia]
  exact q
 .intro k l' Q' hk q;rw[cK];have e5:atI (p.map D.int) (k:Int)=some (.int<|p.getD k 0):=bP (by rw[bJ,aU ad,aR,aU ad];rfl)
  have e6:=eX rp.ok.small k;left;rw[hV hk];right;rw[bZ4 (C:=C) (p:=p) rfl];simp only[aI];left;rw[e5];right;refine⟨cmR ad ad,?_⟩
  unfold ttF at q;rw[cK]at q;exact q
 .rw[kX];exact h
nonrec def itT (p:List Int)(n:Nat)(u:∅):Nat->∅
 | 0=>u
 | k+1=>ttF p n (itT p n u k)
def xN:Φ:=λds Q=> ∃(C:Addr) (p:List Int) (n:Nat) (u:∅),ds=[j9 C p,aI<|rwF n u]/\dQ p/\p.length=n+1/\Q (.pu<|.tup<|tbF n n<|itT p n u)
def aF0:US:=(cW<|aQ cF<|a8 (aC 2) aN)
def aF1:US:=(aS (gP (fX<|a8 (uOp M.gSub (b48 "degree"<|aC 0)<|@1) aN) (bO 3)<|aK9 2<|aQ a56<|a8 (aC 0)<|a8 (uIx (aT 2)<|lZ<|@1) aN) aF0)
def xO:US:=(aS (bF 2<|gA<|a8 (aC 1) aN) aF1)
theorem dM1 (h:0<n):atI (tbF n m t) (-1)=some (aI<|rwF m<|t<|n-1):=by
 unfold L2.atI;have e:ixN (tbF n m t).length (-1)=some (n-1):=by
  unfold ixN;rw[tO,a7 ac,a9 ad]
  congr 1
  lia
 rw[e];exact c74 ad
theorem bS8: Ra xN xO ["r","x","t","s"]:=by
 rintro ds Q ⟨C,p,n,u,rfl,rp,hn,h⟩;have lo:=rp.ok.lo;have hi:=rp.ok.hi;unfold xO;show(aS _ _:US) _ [~~~j9 C p,~~~aI (rwF n u),none,none];rw[aM];left;refine⟨ac,?_⟩
 unfold aF1;rw[aM];refine bB (n-1) (λk=> .int (0+(k:Int))) _ (λQ' q=> ?_)
  (λk ρ=> ∃x,ρ=[~~~j9 C p,~~~aI (rwF n u),↑(tbF (k+1) n (itT p n u)),x]) ⟨none,rfl⟩ ?_ ?_
 .unfold fX;rw[d4,aD2,sI (C:=C) (p:=p) rfl];left;refine⟨⟨ad,ad⟩,?_⟩
  rw[show((p.length:Int)-1-1).toNat=n-1 by lia]
  exact q
 .rintro k ρ hk ⟨x,rfl⟩;left;rw[dM1 ad,qF]
  right;refine⟨ae,C,p,n,itT p n u k,rfl,rp,hn,?_⟩
  left
  rw[tO];refine⟨b9 (show k+1<10 by lia) ac,!(0+(k:Int)),?_⟩
  have e:tbF (k+1) n (itT p n u)++[aI<|rwF n<|ttF p n<|itT p n u k]=tbF (k+1+1) n (itT p n u):=by
   rw[bJ4];unfold tbF;apply uB;intro i hi';right
   by_cases c:i=k+1
   .rw[a9 c,c];rfl
   .rw[a7 c]
  rw[e]
 .rintro ρ ⟨x,rfl⟩;rw[show n-1+1=n by lia]
  right;unfold aF0;left;exact h
nonrec def bS9 (n:Nat)(f:∅):Int:=((List.range n).map f).sum
nonrec def tT (p:List Int)(n:Nat)(u v:∅):∅:=λj=>bS9 n λi=>v i*itT p n u i j
theorem d74 {p:List Int}{a:Nat}(hp: ∀x∈p,x.natAbs<=499)(hu: ∀j,(u j).natAbs<=2^a)(j:Nat):(ttF p n u j).natAbs<=2^(a+9):=by
 unfold ttF;have h1:(if j=0 then(0:Int)else u (j-1)).natAbs<=2^a:=by
  split
  .simp
  .exact hu _
 have h2:(u (n-1)*p.getD j 0).natAbs<=2^a*499:=by rw[eT];exact gF (hu _) (eX hp j)
 have h3:=aQ9 (if j=0 then(0:Int)else u (j-1)) (u (n-1)*p.getD j 0);rw[iI];have:(2:Nat)^9=512:=rfl
 lia
theorem rD {p:List Int}{n a:Nat}{u:∅}(hp: ∀x∈p,x.natAbs<=499)(hu: ∀j,(u j).natAbs<=2^a): ∀k j,(itT p n u k j).natAbs<=2^(a+9*k)
 | 0,j=>hu j
 | k+1,j=>by
  have:=d74 (n:=n) hp (λj=>rD (n:=n) hp hu k j) j
  rw[uJ,<-qN];exact this
nonrec def bC4 (p:List Int)(n k:Nat)(f:∅):∅:=λm=>if k-n<=m/\m<k then f m-f k*p.getD (m-(k-n)) 0 else f m
nonrec def aA6 (p:List Int)(n:Nat)(f:∅):Nat->∅
 | 0=>f
 | t+1=>bC4 p n (2*n-2-t) (aA6 p n f t)
theorem red2 (p:List Int)(u v:∅)(hu: ∀j,2<=j->u j=0)(hv: ∀j,2<=j->v j=0): ∀j,j<2->aA6 p 2 (conv u v 2) 1 j=tT p 2 u v j
 | 0,_=>by simp[aA6,bC4,conv,shF,tT,bS9,itT,ttF,cI,hv];grind
 | 1,_=>by simp[aA6,bC4,conv,shF,tT,bS9,itT,ttF,cI,hv];grind
theorem red3 (p:List Int)(u v:∅)(hu: ∀j,3<=j->u j=0)(hv: ∀j,3<=j->v j=0): ∀j,j<3->aA6 p 3 (conv u v 3) 2 j=tT p 3 u v j
 | 0,_=>by simp[aA6,bC4,conv,shF,tT,bS9,itT,ttF,cI,hv];grind
 | 1,_=>by simp[aA6,bC4,conv,shF,tT,bS9,itT,ttF,cI,hv];grind
 | 2,_=>by simp[aA6,bC4,conv,shF,tT,bS9,itT,ttF,cI,hv];grind
theorem red4 (p:List Int)(u v:∅)(hu: ∀j,4<=j->u j=0)(hv: ∀j,4<=j->v j=0): ∀j,j<4->aA6 p 4 (conv u v 4) 3 j=tT p 4 u v j
 | 0,_=>by simp[aA6,bC4,conv,shF,tT,bS9,itT,ttF,cI,hv];grind
 | 1,_=>by simp[aA6,bC4,conv,shF,tT,bS9,itT,ttF,cI,hv];grind
 | 2,_=>by simp[aA6,bC4,conv,shF,tT,bS9,itT,ttF,cI,hv];grind
 | 3,_=>by simp[aA6,bC4,conv,shF,tT,bS9,itT,ttF,cI,hv];grind
def aZ1:Φ:=λds Q=> ∃(p:List Int) (n e:Nat) (u v:∅),ds=[aI p,aI<|rwF n u,aI<|rwF n v]/\dQ p/\p.length=n+1/\e<=8900/\(∀j,(u j).natAbs<=2^e)/\(∀j,(v j).natAbs<=2^e)/\(∀j,n<=j->u j=0)/\(∀j,n<=j->v j=0)/\Q (.pu<|aI<|rwF n<|tT p n u v)
def bZ5:US:=(cW<|aQ cF<|a8 (uSl (aT 4) j4<|lY<|aC 3) aN)
def bZ6:US:=(aS (gP (b97<|a8 (uOp M.gSub (uOp fG @2<|aC 3)<|@2)<|a8 (uOp M.gSub (aC 3)<|@1)<|a8 (lZ<|@1) aN) (bO 7)<|gP (fX<|a8 (aC 3) aN) (bO 6)<|aS (bF 8<|uOp eV (uOp M.gSub (aC 7)<|aC 3)<|aC 6)<|yL 4 (uOp M.gSub (uIx (aT 4)<|aC 8)<|uOp fG (uIx (aT 4)<|aC 7)<|uIx (aT 0)<|aC 6)<|aC 8) bZ5)
def bZ7:US:=(aS (gP (fX<|a8 (aC 3) aN) (bO 5)<|gP (fX<|a8 (aC 3) aN) (bO 6)<|yL 4 (uOp eV (uIx (aT 4)<|uOp eV (aC 5)<|aC 6)<|uOp fG (uIx (aT 1)<|aC 5)<|uIx (aT 2)<|aC 6)<|uOp eV (aC 5)<|aC 6) bZ6)
def bZ8:US:=(aS (bF 4<|uOp fG (gA<|a8 @0 aN)<|uOp M.gSub (uOp fG @2<|aC 3)<|@1) bZ7)
def bL6:US:=(aS (bF 3<|uOp M.gSub (kF<|aT 0)<|@1) bZ8)
theorem c85 {p:List Int}{v:∅}(n2:2<=n)(n4:n<=4)(hu: ∀j,n<=j->u j=0)(hv: ∀j,n<=j->v j=0):rwF n (aA6 p n (conv u v n)<|n-1)=rwF n (tT p n u v):=by
 refine jY λj hj=> ?_
 rcases(show n=2\/n=3\/n=4 by lia)with rfl|rfl|rfl
 .exact red2 p u v hu hv j hj
 .exact red3 p u v hu hv j hj
 .exact red4 p u v hu hv j hj
nonrec def bT0 (p:List Int)(n k j:Nat)(f:∅):∅:=λm=>if k-n<=m/\m<k-n+j then f m-f k*p.getD (m-(k-n)) 0 else f m
theorem dM2: Ra aZ1 bL6 ["p","x","y","n","r","i","j","k","a"]:=by
 rintro ds Q ⟨p,n,e,u,v,rfl,rp,hn,he,hu,hv,uz,vz,h⟩;have lo:=rp.ok.lo;have hi:=rp.ok.hi;unfold bL6;simp only[aI];show(aS _ _:US) _ [~~~.tup (p.map .int),~~~.tup ((rwF n u).map .int),~~~.tup ((rwF n v).map .int),none,none,none,none,none,none];rw[aM];left;rw[aG,show(p.length:Int)-1=(n:Int)by lia]
 unfold bZ8;rw[aM];left;rw[show 2*(n:Int)-1=((2*n-1:Nat):Int)by lia,cD,aJ6]
 refine⟨ac,cmL ac ac,⟨ad,ad,aJ (show 1*(2*n-1)<=300 by lia) ac⟩,?_⟩
 unfold bZ7;rw[aM];refine bB n (λi=> .int (0+i)) _ (λQ' q=> ?_)
  (λi ρ=> ∃x y,ρ=[~~~.tup (p.map .int),~~~.tup ((rwF n u).map .int),~~~.tup ((rwF n v).map .int),!(n:Int),↑((rwF (2*n-1)<|conv u v i).map .int),x,y,none,none]) ⟨none,none,rfl⟩ ?_ ?_
 .left
  refine⟨⟨ad,ad⟩,?_⟩
  rw[cD];exact q
 .rintro i ρ hi' ⟨x,y,rfl⟩;rw[cK];refine⟨ae,?_⟩
  show(gP _ _ _:US) _ [~~~.tup (p.map .int),~~~.tup ((rwF n u).map .int),~~~.tup ((rwF n v).map .int),!(n:Int),↑((rwF (2*n-1)<|conv u v i).map .int),!(i:Int),y,none,none]
  refine bB n (λj=> .int (0+j)) _ (λQ' q=> ?_)
   (λj ρ=> ∃y,ρ=[~~~.tup (p.map .int),~~~.tup ((rwF n u).map .int),~~~.tup ((rwF n v).map .int),!(n:Int),some<|.ow<|(rwF (2*n-1) λm=>if m<i+j then conv u v (i+1) m else conv u v i m).map .int,!(i:Int),y,none,none]) ⟨y,by rw[cT6]⟩ ?_ ?_
  .left
   refine⟨⟨ad,ad⟩,?_⟩
   rw[cD];exact q
  .rintro j ρ hj ⟨y,rfl⟩;rw[cK];have hij:i+j<2*n-1:=ad
   have c2:(i:Int)+(j:Int)=((i+j:Nat):Int):=ad
   left
   rw[c2,hV hij,hV hi',hV hj];right;rw[bE,bJ5 hij,a7<|show ¬i+j<i+j by lia]
   refine⟨ae,.inr ⟨Sm.pow (hu i) ad,Sm.pow (hv j) ad⟩,!(j:Int),?_⟩
   rw[wH hij,cT8]
  .rintro ρ ⟨y,rfl⟩;rw[cT7 vz];exact⟨_,_,rfl⟩
 .rintro ρ ⟨x,y,rfl⟩;right;unfold bZ6;rw[aM];refine bB (n-1) (λt=> .int ((2*n-2:Nat)-(t:Int))) _ (λQ' q=> ?_)
   (λt ρ=> ∃y z w,ρ=[~~~.tup (p.map .int),~~~.tup ((rwF n u).map .int),~~~.tup ((rwF n v).map .int),!(n:Int),↑((rwF (2*n-1)<|aA6 p n (conv u v n) t).map .int),x,y,z,w]) ⟨y,none,none,rfl⟩ ?_ ?_
  .left
   refine⟨cmL ac ac,trivial,⟨ad,ad,ad,ad⟩,?_⟩
   rw[show(2*(n:Int)-2-((n:Int)-1)).toNat=n-1 by lia,show 2*(n:Int)-2=((2*n-2:Nat):Int)by lia]
   exact q
  .rintro t ρ ht ⟨y,z,w,rfl⟩;obtain⟨k,hk⟩: ∃k:Nat,k=2*n-2-t:=⟨_,rfl⟩;rw[show((2*n-2:Nat):Int)-(t:Int)=(k:Int)by lia]
   generalize hf:aA6 p n (conv u v n) t=f;refine⟨ae,?_⟩
   show(gP _ _ _:US) _ [~~~.tup (p.map .int),~~~.tup ((rwF n u).map .int),~~~.tup ((rwF n v).map .int),!(n:Int),↑((rwF (2*n-1) f).map .int),x,y,!(k:Int),w]
   refine bB n (λj=> .int (0+j)) [~~~.tup (p.map .int),~~~.tup ((rwF n u).map .int),~~~.tup ((rwF n v).map .int),!(n:Int),↑((rwF (2*n-1) f).map .int),x,y,!(k:Int),w] (λQ' q=> ?_)
    (λj ρ=> ∃y w,ρ=[~~~.tup (p.map .int),~~~.tup ((rwF n u).map .int),~~~.tup ((rwF n v).map .int),!(n:Int),↑((rwF (2*n-1)<|bT0 p n k j f).map .int),x,y,!(k:Int),w]) ⟨y,w,?_⟩ ?_ ?_
   .left
    refine⟨⟨ad,ad⟩,?_⟩
    rw[cD];exact q
   .have e0:bT0 p n k 0 f=f:=funext λm=>by unfold bT0;rw[a7 ad]
    rw[e0]
   .rintro j ρ hj ⟨y,w,rfl⟩;rw[cK];have hat:k-n+j<2*n-1:=ad
    have hkk:k<2*n-1:=ad
    have c2:(k:Int)-(n:Int)+(j:Int)=((k-n+j:Nat):Int):=ad
    have e5:atI (p.map D.int) (j:Int)=some (.int<|p.getD j 0):=bP (by rw[bJ,aU ad,aR,aU ad];rfl)
    have e6:=eX rp.ok.small j;left;rw[c2,hV hat,hV hkk,e5];right;rw[bE,bJ5 hat];refine⟨ae,cmR ad ad,!(j:Int),!((k-n+j:Nat):Int),?_⟩
    rw[wH hat];have e7:(λx=>if x=k-n+j then bT0 p n k j f (k-n+j)-bT0 p n k j f k*p.getD j 0 else bT0 p n k j f x)=bT0 p n k (j+1) f:=funext λm=>by
     unfold bT0
     by_cases c:m=k-n+j
     .rw[a9 c,a7 ad,a7 ad,a9 ad,c,show k-n+j-(k-n)=j by lia]
     .rw[a7 c]
      by_cases c3:k-n<=m/\m<k-n+j
      .rw[a9 c3,a9 ad]
      .rw[a7 c3,a7 ad]
    rw[e7]
   .rintro ρ ⟨y,w,rfl⟩;refine⟨y,!(k:Int),w,?_⟩;have e8:bT0 p n k n f=aA6 p n (conv u v n) (t+1):=by
     show _=bC4 p n (2*n-2-t) (aA6 p n (conv u v n) t)
     rw[hf,<-hk];unfold bT0 bC4
     funext m
     rw[show k-n+n=k by lia]
    rw[e8]
  .rintro ρ ⟨y,z,w,rfl⟩;right;unfold bZ5;left;rw[c72 _ _ (by rw[bE];lia),<-kQ,bK4 _ _ _ ad,c85 ad ad uz vz]
   exact h
nonrec def cz (n:Nat)(u:∅):∅:=λj=>if j<n then u j else 0
theorem cz_row (n:Nat)(u:∅):rwF n (cz n u)=rwF n u:=jY λi hi=>a9 hi
theorem dM3 {j:Nat}(h:n<=j):cz n u j=0:=a7 ad
theorem dM4 (h: ∀j,(u j).natAbs<=2^e)(j:Nat):(cz n u j).natAbs<=2^e:=by
 unfold cz;split
 .exact h j
 .exact dM _
nonrec def yY (k:Int):∅:=λj=>if j=0 then k else 0
theorem e04 (k:Int)(h:1<=n):k::replicate (n-1) 0=rwF n (yY k):=by
 apply lP
 .rw[wG,cY,nR];lia
 .intro i h1 h2;simp only[rwF,List.getElem_map,List.getElem_range]
  match i with
  | 0=>rfl
  | i+1=>rw[List.getElem_cons_succ,List.getElem_replicate];rfl
nonrec def tbL (n:Nat)(t:Nat->∅):List (List Int):=(List.range n).map λi=>rwF n (t i)
theorem e05 (n:Nat)(t:Nat->∅):D.tup (tbF n n t)=cF7 (tbL n t):=by
 unfold cF7 tbL tbF;rw[gH];rfl
theorem aZ2 (n:Nat)(t:Nat->∅):(tbL n t).length=n:=by unfold tbL;rw[aG,jH]
theorem bL7 (n1:1<=n)(n4:n<=4)(he:e<2000)(h: ∀i j,i<n->(t i j).natAbs<=2^e):Sq 4 (tbL n t):=by
 refine⟨by rw[aZ2];exact n1,by rw[aZ2];exact n4,λr hr=> ?_,λr hr x hx=> ?_⟩
 .rw[aZ2];obtain⟨i,hi,rfl⟩:=dL.mp hr;exact wG _ _
 .obtain⟨i,hi,rfl⟩:=dL.mp hr;obtain⟨j,hj,rfl⟩:=dL.mp hx;exact iC (h i j<|eI.mp hi) (aP4 ac he)
theorem det_2 (T:Nat->∅):nL 4 (tbL 2 T)=1*T 0 0*(T 1 1)+(-1*T 1 0*(T 0 1)+0):=by kernel_rfl
theorem det_3 (T:Nat->∅):nL 4 (tbL 3 T)=1*T 0 0*(1*T 1 1*(T 2 2)+(-1*T 2 1*(T 1 2)+0))+(-1*T 1 0*(1*T 0 1*(T 2 2)+(-1*T 2 1*(T 0 2)+0))+(1*T 2 0*(1*T 0 1*(T 1 2)+(-1*T 1 1*(T 0 2)+0))+0)):=by kernel_rfl
theorem det_4 (T:Nat->∅):nL 4 (tbL 4 T)=1*T 0 0*(1*T 1 1*(1*T 2 2*(T 3 3)+(-1*T 3 2*(T 2 3)+0))+(-1*T 2 1*(1*T 1 2*(T 3 3)+(-1*T 3 2*(T 1 3)+0))+(1*T 3 1*(1*T 1 2*(T 2 3)+(-1*T 2 2*(T 1 3)+0))+0)))+(-1*T 1 0*(1*T 0 1*(1*T 2 2*(T 3 3)+(-1*T 3 2*(T 2 3)+0))+(-1*T 2 1*(1*T 0 2*(T 3 3)+(-1*T 3 2*(T 0 3)+0))+(1*T 3 1*(1*T 0 2*(T 2 3)+(-1*T 2 2*(T 0 3)+0))+0)))+(1*T 2 0*(1*T 0 1*(1*T 1 2*(T 3 3)+(-1*T 3 2*(T 1 3)+0))+(-1*T 1 1*(1*T 0 2*(T 3 3)+(-1*T 3 2*(T 0 3)+0))+(1*T 3 1*(1*T 0 2*(T 1 3)+(-1*T 1 2*(T 0 3)+0))+0)))+(-1*T 3 0*(1*T 0 1*(1*T 1 2*(T 2 3)+(-1*T 2 2*(T 1 3)+0))+(-1*T 1 1*(1*T 0 2*(T 2 3)+(-1*T 2 2*(T 0 3)+0))+(1*T 2 1*(1*T 0 2*(T 1 3)+(-1*T 1 2*(T 0 3)+0))+0)))+0))):=by kernel_rfl
nonrec def nrm (p:List Int)(n:Nat)(u:∅):Int:=nL 4 (tbL n<|itT p n u)
def aJ7:Φ:=λds Q=> ∃(C:Addr) (p:List Int) (n e:Nat) (u:∅),ds=[j9 C p,aI<|rwF n u]/\dQ p/\p.length=n+1/\e<=1900/\(∀j,(u j).natAbs<=2^e)/\Q (.pu<|.int<|nrm p n u)
def b61:US:=(cW<|aQ (gB 4)<|a8 (aQ xN<|a8 (aC 0)<|a8 (aC 1) aN) aN)
theorem d75: Ra aJ7 b61 ["r","x"]:=by
 rintro ds Q ⟨C,p,n,e,u,rfl,rp,hn,he,hu,h⟩;have lo:=rp.ok.lo;have hi:=rp.ok.hi;unfold b61;show(cW _:US) _ [~~~j9 C p,~~~aI (rwF n u)];left;refine⟨C,p,n,u,rfl,rp,hn,?_⟩;try right
 refine⟨tbL n<|itT p n u,by rw[e05],bL7 (e:=e+27) ad ad ad λi j hi'=>aJ (rD (n:=n) rp.ok.small hu i j) (eQ ac ad),?_⟩
 exact h
theorem bL8 (row:List Int)(s:Int): ∀k,(b57 row s k).length=row.length
 | 0=>rfl
 | k+1=>by unfold b57;rw[eH];exact bL8 row s k
theorem d10 (p:List Int)(s:Int): ∀k,(shK p s k).length=p.length
 | 0=>rfl
 | k+1=>by unfold shK;rw[bL8];exact d10 p s k
theorem dM5 (h:k<n):ixN n (k:Int)=some k:=by
 unfold ixN;rw[a9 ad,a9 ad,cD]
theorem dM6 (l:List Int)(k:Nat)(x:Int):(l.map D.int).set k (.int x)=(l.set k x).map D.int:=by rw[List.map_set]
def a58:Φ:=λds Q=> ∃(p:List Int) (s:Int),ds=[aI p,.int s]/\3<=p.length/\p.length<=5/\s.natAbs<=3/\Q (.pu<|aI<|shK p s<|p.length-1)
def aT2:US:=(aS (bF 2<|aQ aI8<|a8 (aC 0) aN)<|aS (gP (fX<|a8 (uOp M.gSub (kF<|aT 2)<|@1) aN) (bO 3)<|gP (b97<|a8 (uOp M.gSub (kF<|aT 2)<|@2)<|a8 (uOp M.gSub (aC 3)<|@1)<|a8 (lZ<|@1) aN) (bO 4)<|yL 2 (uOp eV (uIx (aT 2)<|aC 4)<|uOp fG (aC 1)<|uIx (aT 2)<|uOp eV (aC 4)<|@1)<|aC 4)<|cW<|aQ cF<|a8 (aC 2) aN)
theorem cU1: Ra a58 aT2 ["p","s","r","l","a"]:=by
 rintro ds Q ⟨p,s,rfl,h3,h5,hs,h⟩;have lp:(p.map D.int).length=p.length:=aG _;unfold aT2;show(aS _ _:US) _ [~~~.tup (p.map .int),!s,none,none,none];left;refine bB (p.length-1) (λi=> .int (0+i)) _ ?_
  (λi ρ=> ∃x y,ρ=[~~~.tup (p.map .int),!s,↑((shK p s i).map .int),x,y]) ⟨none,none,rfl⟩ ?_ ?_
 .intro Q' q;simp only[fX];left;rw[lp];refine⟨ad,?_⟩
  rw[show((p.length:Int)-1).toNat=p.length-1 by lia]
  exact q
 .rintro i ρ hi ⟨x,y,rfl⟩;have lk:=d10 p s i;have e1:shK p s (i+1)=b57 (shK p s i) s (p.length-1-i):=rfl;rw[e1];generalize shK p s i=row at lk;have lrow:(row.map D.int).length=row.length:=aG _;left;refine⟨ac,?_⟩
  refine bB (p.length-1-i) (λk=> .int ((p.length:Int)-2-k)) _ ?_
   (λk ρ=> ∃y,ρ=[~~~.tup (p.map .int),!s,↑((b57 row s k).map .int),!(0+(i:Int)),y]) ⟨y,rfl⟩ ?_ ?_
  .intro Q' q;simp only[b97];left;rw[lrow,lk];refine⟨trivial,ad,?_⟩
   rw[show((p.length:Int)-2-(0+(i:Int)-1)).toNat=p.length-1-i by lia]
   exact q
  .rintro k ρ hk ⟨y,rfl⟩;have l2:=bL8 row s k;left;refine⟨ac,?_⟩
   have a1:(p.length:Int)-2-(k:Int)=((p.length-2-k:Nat):Int):=ad
   have a2:((p.length-2-k:Nat):Int)+1=((p.length-1-k:Nat):Int):=ad
   rw[a1,a2,aD1<|show p.length-2-k< (b57 row s k).length by lia,aD1<|show p.length-1-k< (b57 row s k).length by lia]
   right;rw[dM5 (show p.length-2-k< ((b57 row s k).map D.int).length by rw[aG];lia)]
   refine⟨cmL ad ad,!((p.length-2-k:Nat):Int),?_⟩
   rw[dM6];rw[<-lk];rfl
  .rintro ρ ⟨y,rfl⟩;exact⟨_,_,rfl⟩
 .rintro ρ ⟨x,y,rfl⟩;left;exact h
def xP:Φ:=λds Q=> ∃c:Int,ds=[.int c]/\ ∀p∈rC,Q (.pu<|aI p)
def aF2:US:=(cW<|uIx (aT 1)<|uOp jX (aQ aC8<|a8 (aC 0)<|a8 @3<|a8 @998244353 aN)<|@12)
def aF3:US:=(aS (bF 1<|uOp eV (aC 1)<|gA<|a8 (iR<|a8 @1<|a8 @0<|a8 @0<|a8 @0<|a8 @1 aN)<|a8 (iR<|a8 (lZ<|@1)<|a8 (lZ<|@1)<|a8 @0<|a8 @0<|a8 @1 aN)<|a8 (iR<|a8 @1<|a8 @1<|a8 @1<|a8 @1<|a8 @1 aN)<|a8 (iR<|a8 (lZ<|@2)<|a8 @0<|a8 @0<|a8 @0<|a8 @1 aN)<|a8 (iR<|a8 @1<|a8 @0<|a8 (lZ<|@1)<|a8 @0<|a8 @1 aN) aN) aF2)
def xQ:US:=(aS (bF 1<|gA<|a8 (iR<|a8 @5<|a8 @0<|a8 @1 aN)<|a8 (iR<|a8 (lZ<|@10)<|a8 @0<|a8 @1 aN)<|a8 (iR<|a8 @6<|a8 @1<|a8 @1 aN)<|a8 (iR<|a8 (lZ<|@3)<|a8 @0<|a8 @1 aN)<|a8 (iR<|a8 (lZ<|@1)<|a8 (lZ<|@1)<|a8 @0<|a8 @1 aN)<|a8 (iR<|a8 (lZ<|@2)<|a8 @0<|a8 @0<|a8 @1 aN)<|a8 (iR<|a8 (lZ<|@1)<|a8 @4<|a8 @0<|a8 @1 aN) aN) aF3)
theorem dM7 {k:Int}(h0:0<=k)(h1:k<12): ∃p∈rC,atI (rC.map aI) k=some (aI p):=by
 obtain⟨i,rfl⟩: ∃i:Nat,k=(i:Int):=⟨k.toNat,ad⟩
 have hi:i<rC.length:=show i<12 by lia
 exact⟨rC[i],cS hi,bP (by rw[bJ,aU hi];rfl)⟩
theorem bT1: Ra xP xQ ["c","k"]:=by
 rintro ds Q ⟨c,rfl,h⟩;unfold xQ;show(aS _ _:US) _ [!c,none];rw[aM];left;refine⟨ac,ac,ac,ac,ac,ac,ac,ac,?_⟩
 unfold aF3;rw[aM];left;refine⟨ac,ac,ac,ac,ac,ac,ac,?_⟩
 unfold aF2;left;refine⟨c,3,998244353,rfl,ac,ac,ac,λr r0 r1=> ?_⟩
 left
 refine⟨ac,?_⟩
 rw[cM _ ac]
 obtain⟨p,hp,e⟩:=dM7 (cT r<|show(12:Int)≠0 by decide) (cX r<|show(0:Int)<12 by decide)
 have e': ∀l:List D,l=rC.map aI->(match atI l (r%12)with|some x=>Q (.pu x)|none=>False):=λl hl=>by
  rw[hl,e];exact h p hp
 exact e' _ rfl
def c86:Φ:=λds Q=> ∃c q:Int,ds=[.int c,.int q]/\0<q/\ ∀p,dQ p->Q (.pu<|aI p)
def c87:Φ:=λds Q=> ∃(ns:List Int) (k:Nat) (q:Int),ds=[.rol<|ns.map .int,.int (k:Int),.int q]/\ns.length<=63/\k<=1000/\0<q/\ ∀C p,dQ p->Q (.pu<|j9 C p)
def bL9:US:=(oK 3)
def cH8:US:=(aS (fS (cQ<|bR9 false<|aC 3) (bF 3<|dI0 ["poly","degree","measure"] yX<|a8 (aQ xP<|a8 (aQ a44<|a8 (aC 0)<|a8 (aC 1) aN) aN) aN) dD) bL9)
def cH9:US:=(aS (gP (fX<|a8 @3 aN) (bO 4)<|fS (cQ<|bR9 false<|aC 3) (dI1 3 ["poly","degree","measure"] yX (a8 (aQ c86<|a8 (aQ a44<|a8 (aC 0)<|a8 (uOp eV (aC 1)<|aC 4) aN)<|a8 (aC 2) aN) aN) ["FallsApart","TooGreat","NotWhole"]<|bF 3<|uC .non) dD) cH8)
def c88:US:=(aS (bF 3<|uC .non) cH9)
theorem e06: Ra c87 c88 ["s","k","q","f","j"]:=by
 rintro ds Q ⟨ns,k,q,rfl,hl,hk,hq,h⟩;unfold c88;show(aS _ _:US) _ [~~~.rol (ns.map .int),!(k:Int),!q,none,none];rw[aM];left;unfold cH9;rw[aM];refine bB 3 (λi=> .int (0+i)) _ (λQ' q=> ?_)
  (λi ρ=> ∃d x,ρ=[~~~.rol (ns.map .int),!(k:Int),!q,~~~d,x]/\(d= .non\/ ∃C p,dQ p/\d=j9 C p)) ⟨.non,none,rfl,.inl rfl⟩ ?_ ?_
 .left
  exact⟨ac,q⟩
 .rintro i ρ hi ⟨d,x,rfl,hd⟩;refine⟨ae,?_⟩
  rcases hd with rfl| ⟨C,p,rp,rfl⟩
  .left
   unfold dI1;left;refine⟨ns,(k:Int)+(0+(i:Int)),rfl,hl,ad,ad,λc=>⟨c,q,rfl,hq,λp rp=> ?_⟩⟩
   left
   refine⟨p,rfl,rp,λ_ C=>⟨j9 C p,!(0+(i:Int)),rfl,.inr ⟨C,p,rp,rfl⟩⟩,λ_ _=>⟨ae,.non,_,rfl,.inl rfl⟩,λ_=>⟨⟨ae,.non,_,rfl,.inl rfl⟩,λ_=>⟨ae,.non,_,rfl,.inl rfl⟩⟩⟩
  .simp only[j9];left;exact⟨j9 C p,_,rfl,.inr ⟨C,p,rp,rfl⟩⟩
 .rintro ρ ⟨d,x,rfl,hd⟩;right;unfold cH8;rw[aM];rcases hd with rfl| ⟨C,p,rp,rfl⟩
  .left
   unfold dI0;left;refine⟨ns,(k:Int),rfl,hl,ad,ad,λc=>⟨c,rfl,λp hp=> ?_⟩⟩
   left
   refine⟨p,rfl,vJ p hp,λ_ C=> ?_,λred=>absurd red (cH7 p hp).irr,λz=>absurd (cH7 p hp) z⟩
   unfold bL9;left;exact h C p (vJ p hp)
  .simp only[j9];left;unfold bL9;left;exact h C p rp
def cI0:US:=(cW<|aQ a58<|a8 (iR<|a8 (uOp M.gSub (uIx (aT 4)<|@2)<|@3)<|a8 (uOp M.gSub (uIx (aT 4)<|@3)<|@3)<|a8 (uOp M.gSub (uIx (aT 4)<|@4)<|@3)<|a8 (uOp M.gSub (uIx (aT 4)<|@6)<|@3)<|a8 @1 aN)<|a8 (uOp M.gSub (uIx (aT 4)<|@5)<|@2) aN)
def cI1:US:=(aS (bF 4<|aQ nK<|a8 (aC 0)<|a8 (gA<|a8 @3<|a8 @8<|a8 @7<|a8 @7<|a8 @7<|a8 @5<|a8 @7 aN)<|a8 (aC 1) aN) cI0)
def cI2:US:=(aS (fS (cQ<|uOp (gJ false) (uIx (aT 2)<|@0)<|@1) (cW<|aQ a58<|a8 (iR<|a8 (uOp M.gSub (uIx (aT 4)<|@2)<|@4)<|a8 (uOp M.gSub (uIx (aT 4)<|@3)<|@4)<|a8 (uOp M.gSub (uIx (aT 4)<|@4)<|@4)<|a8 @1 aN)<|a8 (uOp M.gSub (uIx (aT 4)<|@5)<|@2) aN) dD) cI1)
def cI3:US:=(aS (fS (cQ<|uOp (gJ false) (uIx (aT 2)<|@0)<|@0) (aS (bF 4<|aQ nK<|a8 (aC 0)<|a8 (gA<|a8 @3<|a8 @8<|a8 @161<|a8 @41 aN)<|a8 (aC 1) aN)<|cW<|iR<|a8 (uOp M.gSub (uIx (aT 4)<|@2)<|@80)<|a8 (uOp M.gSub (uIx (aT 4)<|@3)<|@20)<|a8 @1 aN) dD) cI2)
def bM0:US:=(aS (bF 4<|aQ nK<|a8 (aC 0)<|a8 (gA<|a8 @3<|a8 @8<|a8 @9<|a8 @9<|a8 @9<|a8 @5<|a8 @7 aN)<|a8 (aC 1) aN) cI3)
def cI4:US:=(aS (fS (cQ<|uOp (gJ false) (uIx (aT 2)<|@1)<|@7) (cW<|aQ cF<|a8 (uOp eV (dF [] [none,none] 1 (dW<|aC 3) (bO 0) (λρ Q=>Q true ρ)<|uOp M.gSub (aC 0)<|@499)<|gA<|a8 @1 aN) aN) dD) bM0)
def cI5:US:=(aS (bF 3<|uSl (uV<|aQ nK<|a8 (aC 0)<|a8 (gA<|a8 @3<|a8 @8<|a8 @999<|a8 @999<|a8 @999<|a8 @999 aN)<|a8 (aC 1) aN) (lY<|@2)<|lY<|uOp eV (uIx (aT 2)<|@0)<|@4) cI4)
def c89:US:=(aS (bF 2<|aQ nK<|a8 (aC 0)<|a8 (gA<|a8 @3<|a8 @8 aN)<|a8 (aC 1) aN) cI5)
theorem rp_two {a:Int}(ha:a.natAbs<=499)(hb:b.natAbs<=499):dQ [a,b,1]:=⟨⟨ae,ae,λx hx=>by
 simp only[aZ,eS,eU]at hx;rcases hx with rfl|rfl|rfl<;>lia⟩,[a,b],rfl⟩
theorem nba {y:Int}(hx:x.natAbs<=m)(hy:y.natAbs<=k):(x+y).natAbs<=m+k:=aJ (a09 x y) (Nat.add_le_add hx hy)
theorem nbm {y:Int}(hx:x.natAbs<=m)(hy:y.natAbs<=k):(x*y).natAbs<=m*k:=by rw[eT];exact gF hx hy
theorem nbl (h:decide (m<=k)=true)(hx:x.natAbs<=m):x.natAbs<=k:=aJ hx (a10 h)
theorem nbc (n:Nat):((n:Nat):Int).natAbs<=n:=aH n
theorem rp_sh3 {a:Int}(ha:a.natAbs<=4)(hb:b.natAbs<=4)(hc:c.natAbs<=4)(hs:s.natAbs<=2):dQ (shK [a,b,c,1] s 3):=by
 rw[she3];refine⟨⟨by simp[sh3],by simp[sh3],λx hx=> ?_⟩,_,rfl⟩
 simp only[sh3,List.cons_append,a15,aZ,eS,eU]at hx;have s2:=nbm hs hs;have s3:=nbm s2 hs;rcases hx with rfl|rfl|rfl|rfl
 .exact nbl rfl (nba (nba (nba ha<|nbm hs hb)<|nbm s2 hc) s3)
 .exact nbl rfl (nba (nba hb<|nbm (nbm (nbc 2) hs) hc)<|nbm (nbm (nbc 3) hs) hs)
 .exact nbl rfl (nba hc<|nbm (nbc 3) hs)
 .decide
theorem rp_sh4 {a d:Int}(ha:a.natAbs<=3)(hb:b.natAbs<=3)(hc:c.natAbs<=3)(hd:d.natAbs<=3)(hs:s.natAbs<=2):dQ (shK [a,b,c,d,1] s 4):=by
 rw[she4];refine⟨⟨by simp[sh4],by simp[sh4],λx hx=> ?_⟩,_,rfl⟩
 simp only[sh4,List.cons_append,a15,aZ,eS,eU]at hx;have s2:=nbm hs hs;have s3:=nbm s2 hs;rcases hx with rfl|rfl|rfl|rfl|rfl
 .exact nbl rfl (nba (nba (nba (nba ha<|nbm hs hb)<|nbm s2 hc)<|nbm s3 hd)<|nbm s3 hs)
 .exact nbl rfl (nba (nba (nba hb<|nbm (nbm (nbc 2) hs) hc)<|nbm (nbm (nbm (nbc 3) hs) hs) hd)<|nbm (nbm (nbm (nbc 4) hs) hs) hs)
 .exact nbl rfl (nba (nba hc<|nbm (nbm (nbc 3) hs) hd)<|nbm (nbm (nbc 6) hs) hs)
 .exact nbl rfl (nba hd<|nbm (nbc 4) hs)
 .decide
theorem e07 (h2:2<=ws.length)(h4:ws.length<=4)(hb: ∀w∈ws,0<=w/\w<999):dQ (ws.map (λw=>w-499)++[1]):=by
 refine⟨⟨by rw[bV,aG];show 3<=ws.length+1;lia,by rw[bV,aG];show ws.length+1<=5;lia,λx hx=> ?_⟩,_,rfl⟩
 rcases dI.mp hx with hx|hx
 .obtain⟨w,hw,rfl⟩:=dL.mp hx;have:=hb w hw
  lia
 .rw[cR.mp hx];decide
theorem d76 (c q a b:Int)(ws:List Int)(h4:ws.length<=4)(Q:B->Prop)(h:Q (.pu<|aI<|ws.map (λw=>w-499)++[1])) :
  (cW (aQ cF<|a8 (uOp eV (dF [] [none,none] 1 (dW<|aC 3) (bO 0) (λρ Q=>Q true ρ)<|uOp M.gSub (aC 0)<|@499)<|gA<|a8 @1 aN) aN):US) {Q with} [!c,!q,↑[.int a,.int b],↑(ws.map .int),none]:=by
 rw[jS,dG,d4,aD2];refine dC (t0:=0) ws.length (λk=>(ws.map D.int).getD k .non) [!c,!q,↑[.int a,.int b],~~~.lst (ws.map .int),none] (λQ' q=> ?_) ad (λx l'=>[x,↑l']) none rfl (λ_ _ _=>rfl) (λ_ _=>bW _) (λ_ _ _ q=>q) (λ_ _ _=>rfl) (λk=> .int (ws.getD k 0-499)) ?_ ?_
 .left
  rw[aG];exact q
 .intro k l' Q' hk q';have e3:(ws.map D.int).getD k .non= .int (ws.getD k 0):=by
   rw[aR,bJ,aR,aU hk];rfl
  rw[e3]at q'⊢;left;exact q'
 .have e4:(List.range ws.length).map (λk=>D.int (ws.getD k 0-499))=(ws.map λw=>w-499).map D.int:=by
   apply lP
   .simp
   .intro i h1 h2;simp at h1;simp[aR,h1]
  rw[e4];left;have e5:(ws.map λw=>w-499).map D.int++[D.int 1]=(ws.map (λw=>w-499)++[1]).map D.int:=by rw[bX];rfl
  rw[e5];refine⟨ac,?_,h⟩
  rw[aG,aG];exact aJ (show ws.length+(0+1)<=5 by lia) ac
theorem dM8 (c q a b:Int)(w:Option B)(a0:0<=a)(a1:a<3)(hq:0<q)(Q:B->Prop)(h: ∀p,dQ p->Q (.pu<|aI p)) :
  bM0 {Q with} [!c,!q,↑[.int a,.int b],w,none]:=by
 unfold bM0;rw[aM];left;refine⟨ac,c,[3,8,9,9,9,5,7],q,rfl,ac,hq,ac,λxs hx=> ?_⟩
 obtain⟨x0,x1,x2,x3,x4,x5,x6,rfl⟩: ∃x0 x1 x2 x3 x4 x5 x6,xs=[x0,x1,x2,x3,x4,x5,x6]:=by
  match xs,hx.1 with
  | [x0,x1,x2,x3,x4,x5,x6],_=>exact⟨x0,x1,x2,x3,x4,x5,x6,rfl⟩
 have b2:=hx.2 2 x2 9 rfl rfl;have b3:=hx.2 3 x3 9 rfl rfl;have b4:=hx.2 4 x4 9 rfl rfl;have b5:=hx.2 5 x5 5 rfl rfl;simp only[bY,fM];unfold cI3;rw[aM];left;rw[aC9];right
 by_cases c0:a=0
 .rw[a9 c0];refine⟨ac,c,[3,8,161,41],q,rfl,ac,hq,ac,λys hy=> ?_⟩
  obtain⟨y0,y1,y2,y3,rfl⟩: ∃y0 y1 y2 y3,ys=[y0,y1,y2,y3]:=by
   match ys,hy.1 with
   | [y0,y1,y2,y3],_=>exact⟨y0,y1,y2,y3,rfl⟩
  have k2:=hy.2 2 y2 161 rfl rfl;have k3:=hy.2 3 y3 41 rfl rfl;simp only[bY,fM]
  (try left)
  rw[show atI [D.int y0,.int y1,.int y2,.int y3] 2=some (.int y2)from bP (j:=2) rfl,show atI [D.int y0,.int y1,.int y2,.int y3] 3=some (.int y3)from bP (j:=3) rfl]
  right;exact⟨ac,h [y2-80,y3-20,1]<|rp_two ad ad⟩
 rw[a7 c0];have t2:atI [D.int x0,.int x1,.int x2,.int x3,.int x4,.int x5,.int x6] 2=some (.int x2):=bP (j:=2) rfl;have t3:atI [D.int x0,.int x1,.int x2,.int x3,.int x4,.int x5,.int x6] 3=some (.int x3):=bP (j:=3) rfl;have t4:atI [D.int x0,.int x1,.int x2,.int x3,.int x4,.int x5,.int x6] 4=some (.int x4):=bP (j:=4) rfl
 have t5:atI [D.int x0,.int x1,.int x2,.int x3,.int x4,.int x5,.int x6] 5=some (.int x5):=bP (j:=5) rfl;unfold cI2;rw[aM];left;rw[aC9];right
 by_cases c1:a=1
 .rw[a9 c1,t2,t3,t4,t5];right;exact⟨ac,[x2-4,x3-4,x4-4,1],x5-2,rfl,ae,ae,ad,h _<|rp_sh3 ad ad ad ad⟩
 rw[a7 c1];unfold cI1;rw[aM];left;refine⟨ac,c,[3,8,7,7,7,5,7],q,rfl,ac,hq,ac,λys hy=> ?_⟩
 obtain⟨y0,y1,y2,y3,y4,y5,y6,rfl⟩: ∃x0 x1 x2 x3 x4 x5 x6,ys=[x0,x1,x2,x3,x4,x5,x6]:=by
  match ys,hy.1 with
  | [x0,x1,x2,x3,x4,x5,x6],_=>exact⟨x0,x1,x2,x3,x4,x5,x6,rfl⟩
 have k2:=hy.2 2 y2 7 rfl rfl;have k3:=hy.2 3 y3 7 rfl rfl;have k4:=hy.2 4 y4 7 rfl rfl;have k5:=hy.2 5 y5 5 rfl rfl;have k6:=hy.2 6 y6 7 rfl rfl;simp only[bY,fM];unfold cI0;left
 rw[show atI [D.int y0,.int y1,.int y2,.int y3,.int y4,.int y5,.int y6] 2=some (.int y2)from bP (j:=2) rfl,show atI [D.int y0,.int y1,.int y2,.int y3,.int y4,.int y5,.int y6] 3=some (.int y3)from bP (j:=3) rfl,show atI [D.int y0,.int y1,.int y2,.int y3,.int y4,.int y5,.int y6] 4=some (.int y4)from bP (j:=4) rfl,show atI [D.int y0,.int y1,.int y2,.int y3,.int y4,.int y5,.int y6] 5=some (.int y5)from bP (j:=5) rfl,show atI [D.int y0,.int y1,.int y2,.int y3,.int y4,.int y5,.int y6] 6=some (.int y6)from bP (j:=6) rfl]
 right;exact⟨ac,[y2-3,y3-3,y4-3,y6-3,1],y5-2,rfl,ae,ae,ad,h _<|rp_sh4 ad ad ad ad ad⟩
theorem e08: Ra c86 c89 ["c","q","d","w","f"]:=by
 rintro ds Q ⟨c,q,rfl,hq,h⟩;unfold c89;show(aS _ _:US) _ [!c,!q,none,none,none];rw[aM];left;refine⟨ac,c,[3,8],q,rfl,ac,hq,ac,λxs hx=> ?_⟩
 obtain⟨a,b,rfl⟩: ∃a b,xs=[a,b]:=by
  match xs,hx.1 with
  | [a,b],_=>exact⟨a,b,rfl⟩
 have ba:=hx.2 0 a 3 rfl rfl;simp only[bY,fM];unfold cI5;rw[aM];left;refine⟨ac,c,[3,8,999,999,999,999],q,rfl,ac,hq,ac,λys hy=> ?_⟩
 obtain⟨y0,y1,y2,y3,y4,y5,rfl⟩: ∃x0 x1 x2 x3 x4 x5,ys=[x0,x1,x2,x3,x4,x5]:=by
  match ys,hy.1 with
  | [x0,x1,x2,x3,x4,x5],_=>exact⟨x0,x1,x2,x3,x4,x5,rfl⟩
 have k2:=hy.2 2 y2 999 rfl rfl;have k3:=hy.2 3 y3 999 rfl rfl;have k4:=hy.2 4 y4 999 rfl rfl;have k5:=hy.2 5 y5 999 rfl rfl;simp only[bY,fM]
 (try left)
 rw[aC9];right;obtain⟨ws,ew,w2,w4,wb⟩: ∃ws:List Int,cutD [D.int y0,.int y1,.int y2,.int y3,.int y4,.int y5] (some 2) (some<|a+4)=ws.map D.int/\2<=ws.length/\ws.length<=4/\ ∀w∈ws,0<=w/\w<999:=by
  rcases(show a=0\/a=1\/a=2 by lia)with rfl|rfl|rfl
  .exact⟨[y2,y3],rfl,ae,ae,by simp;lia⟩
  .exact⟨[y2,y3,y4],rfl,ae,ae,by simp;lia⟩
  .exact⟨[y2,y3,y4,y5],rfl,ae,ae,by simp;lia⟩
 rw[ew];unfold cI4;rw[aM,aJ4];left;rw[at1];right
 by_cases cb:b=7
 .rw[a9 cb];exact d76 c q a b ws w4 Q (h _<|e07 w2 w4 wb)
 .rw[a7 cb];exact dM8 c q a b _ ba.1 ba.2 hq Q h
def cU2:US:=(aS (fS (uOr (c46<|cQ<|aQ cQ4<|a8 (aC 0)<|a8 (uC<|.ty "tuple") aN)<|cQ<|uOp (gJ true) (kF<|aT 0)<|aC 1) (cW<|uC<|.bl false) dD)<|cW<|aQ cD6<|a8 (dF [] [none,none] 1 (dW<|aC 0) (bO 0) (λρ Q=>Q true ρ)<|aQ aX5<|a8 (aC 0) aN) aN)
def cU3:Φ:=λds Q=> ∃(r:List Int),ds=[aI r,.int (r.length:Int)]/\r.length<=1000/\Q (.pu<|.bl true)
theorem rd_row: Ra cU3 cU2 ["f","m"]:=by
 rintro ds Q ⟨r,rfl,hl,h⟩;unfold cU2;simp only[aI];show(aS _ _:US) _ [~~~.tup (r.map .int),!(r.length:Int)];rw[aM];have two:(cW (aQ cD6<|a8 (dF [] [none,none] 1 (dW<|aC 0) (bO 0) (λρ Q=>Q true ρ)<|aQ aX5<|a8 (aC 0) aN) aN):US) {Q with} [~~~.tup (r.map .int),!(r.length:Int)]:=by
  rw[jS,dG,d4];refine dC (t0:=0) r.length (λk=>(r.map D.int).getD k .non) [~~~.tup (r.map .int),!(r.length:Int)] ?_ ad (λx l=>[x,↑l]) none rfl (λ_ _ _=>rfl) (λ_ _=>bW _) (λ_ _ _ q=>q) (λ_ _ _=>rfl) (λ_=> .bl true) ?_ ?_
  .intro Q' q;left;rw[aG];exact q
  .intro k l Q' hk q;obtain⟨z,hz⟩:=cF6 (ys:=r) (i:=k) (by rw[aG];exact hk)
   rw[hz]at q⊢;left;exact⟨z,rfl,q⟩
  .left
   have e:(List.range r.length).map (λ_=>D.bl true)=(replicate r.length true).map D.bl:=by apply lP<;>simp
   rw[e,uX];right;have e2:(replicate r.length true).all id=true:=ae
   rw[e2];exact h
 left
 simp only[aG,Bool.not_true,decide_true,Bool.false_eq_true,fW];exact two
def aT3:Φ:=λds Q=> ∃(i n:Nat) (t:Nat->∅) (f:∅),ds=[.tup<|tbF i n t,aI<|rwF i f]/\i<=n/\n<=8/\(∀r,r<i->0<t r r)/\(∀r j,(t r j).natAbs<=2^600)/\(∀j,(f j).natAbs<=2^600)/\Q (.pu<|aI<|rwF i<|j7 t i f)
def aF4:US:=(bF 2<|aQ cF<|a8 (dF [4] [none,none,some 4,none] 3 (dF5<|a8 (aC 2)<|a8 (uIx (aT 0)<|aC 3) aN) (tI<|fP 0<|fP 1 tH) (λρ Q=>Q true ρ)<|uOp M.gSub (aC 0)<|uOp fG (aC 2)<|aC 1) aN)
def vK:US:=(aS (bF 4<|uOp aW5 (uIx (aT 2)<|aC 3)<|uIx (uV<|uIx (aT 0)<|aC 3)<|aC 3) aF4)
def aZ3:US:=(oK 2)
def aZ4:US:=(aS (gP (cY8<|a8 (kF<|aT 1) aN) (bO 3) vK) aZ3)
def aT4:US:=(aS (bF 2<|aC 1) aZ4)
theorem cU4: Ra aT3 aT4 ["t","r","l","i","m"]:=by
 rintro ds Q ⟨I,n,t,f,rfl,hI,n8,tp,tb,fb,h⟩;unfold aT4;show(aS _ _:US) _ [~~~.tup (tbF I n t),~~~aI (rwF I f),none,none,none];left;unfold aZ4;rw[aM];refine bB I (λk=> .int (((I:Int))-1-k)) _ ?_
  (λk ρ=> ∃g x y,ρ=[~~~.tup (tbF I n t),~~~aI (rwF I f),~~~aI (rwF I g),x,y]/\j7 t (I-k) g=j7 t I f/\ ∀j,(g j).natAbs<=2^(600+601*k)) ⟨f,none,none,rfl,rfl,λj=>fb j⟩ ?_ ?_
 .intro Q' q;simp only[aI];left;rw[bE];refine⟨⟨ad,ad⟩,?_⟩
  rw[cD];exact q
 .rintro k ρ hk ⟨g,x,y,rfl,hr,hb⟩;obtain⟨i,hi⟩: ∃i:Nat,i=I-1-k:=⟨_,rfl⟩;have hin:i<I:=ad
  have ei:(I:Int)-1-(k:Int)=(i:Int):=ad
  have hpos:=tp i hin;rw[ei];refine⟨ae,?_⟩
  show vK _ [~~~.tup (tbF I n t),~~~aI (rwF I f),~~~aI (rwF I g),!(i:Int),y]
  unfold vK;rw[aM];have e1:atI ((rwF I g).map D.int) (i:Int)=some (.int<|g i):=hV hin;have e2:atI (tbF I n t) (i:Int)=some (.tup<|(rwF n<|t i).map .int):=bJ3 hin;have e3:atI ((rwF n<|t i).map D.int) (i:Int)=some (.int<|t i i):=hV ad
  simp only[aI];left;simp only[e1,e2,e3];rw[nJ _ hpos];refine⟨⟨ad,vA (tb i i) ad⟩,?_⟩
  unfold aF4;rw[iP,dG,d4];refine aS5 (t0:=0) (t1:=1) I (λj=>((rwF I g).map D.int).getD j .non) (λj=>((rwF n<|t i).map D.int).getD j .non) [~~~.tup (tbF I n t),~~~.tup ((rwF I f).map .int),~~~.tup ((rwF I g).map .int),!(i:Int),!g i/t i i] ?_ ad
   (λx y l=>[x,y,!g i/t i i,↑l]) none none rfl (λ_ _ _ _ _=>rfl) (λ_ _ _=>⟨ae,ae⟩) (λ_ _ _ _ q=>q) (λ_ _ _ _=>rfl) (λj=> .int (jP t i g j)) ?_ ?_
  .intro Q' q;left;rw[e2];left;rw[bE,bE,iF hI];exact q
  .intro j l Q' hj q;rw[iK hj,iK ad]at q⊢
   left
   refine⟨.inr ⟨vA (aJ (u6 _ _)<|hb i) ad,vA (tb i j) ac⟩,?_⟩
   exact q
  .left
   rw[kX];refine⟨jP t i g,_,_,rfl,?_,λj=> ?_⟩
   .rw[<-hr,show I-k=i+1 by lia,show I-(k+1)=i by lia]
    rfl
   .have:=aD4 (i:=i) (tb i) hb j;rw[show 600+601*(k+1)=600+601*k+601 by lia]
    exact this
 .rintro ρ ⟨g,x,y,rfl,hr,hb⟩;unfold aZ3;left;rw[o7]at hr;have:g=j7 t I f:=hr;rw[this];exact h
nonrec def bA4 (n:Nat)(f:∅):Bool:=(rwF n f).all (· ==0)
def a59:Φ:=λds Q=> ∃(n:Nat) (t:Nat->∅) (f:∅),ds=[.tup<|tbF n n t,aI<|rwF n f]/\n<=8/\(∀r,r<n->0<t r r)/\(∀r j,(t r j).natAbs<=2^600)/\(∀j,(f j).natAbs<=2^600)/\Q (.pu<|.bl<|bA4 n<|j7 t n f)
def aT5:US:=(cW<|cC7<|aQ dH0<|a8 (aQ aT3<|a8 (aC 0)<|a8 (aC 1) aN) aN)
theorem cU5: Ra a59 aT5 ["i","x"]:=by
 rintro ds Q ⟨n,t,f,rfl,n8,tp,tb,fb,h⟩;unfold aT5;show(cW _:US) _ [~~~.tup (tbF n n t),~~~aI (rwF n f)];left;refine⟨n,n,t,f,rfl,aH n,n8,tp,tb,fb,?_⟩;left;simp only[aI];rw[bX1];left;have e:not ((rwF n<|j7 t n f).any λx=>x != 0)=bA4 n (j7 t n f):=by
  unfold bA4;rw[List.not_any_eq_all_not]
  congr 1
  funext x
  exact Bool.not_not _
 rw[e];exact h
def csI (r:Int):List Int:=(List.range (2*r+1).toNat).map λk:Nat=> -r+(k:Int)
def eE (r:Int):Nat->List (List Int)
 | 0=>[[]]
 | k+1=>(eE r k).flatMap λl=>(csI r).map λc=>l++[c]
theorem bF2 (r:Int):(csI r).length=(2*r+1).toNat:=by simp[csI]
theorem bM1 (r:Int): ∀k,(eE r k).length=(2*r+1).toNat^k
 | 0=>rfl
 | k+1=>by
  show((eE r k).flatMap _).length=_
  rw[aP8,uI,<-bM1 r k,<-bF2 r];generalize eE r k=L
  induction L with
  | nil=>simp
  | cons a L ih=>
   rw[bY,sum_cons,ih,aG,cY,uO]
   lia
theorem e09 (h:(2*r+1).toNat<=19)(hk:k<=4):(eE r k).length<=130321:=by
 rw[bM1];exact aJ (a06 h k) (aJ (eQ ac hk) ac)
def a60 (r:Int)(L:List (List Int))(a b:Nat):List (List Int):=((L.take a).flatMap λl=>(csI r).map λc=>l++[c])++((csI r).take b).map λc=>L.getD a []++[c]
theorem bM2 (r:Int)(L:List (List Int)):a60 r L L.length 0=L.flatMap λl=>(csI r).map λc=>l++[c]:=by
 unfold a60;rw[List.take_length,a19,fM,gW]
theorem bZ9 {a:Nat}(h:a<L.length):a60 r L a (csI r).length=a60 r L (a+1) 0:=by
 unfold a60;rw[List.take_length,a19,fM,gW,List.take_add_one,aU h,List.flatMap_append,aR,aU h];simp
theorem c00 {a b:Nat}(h:b< (csI r).length):a60 r L a (b+1)=a60 r L a b++[L.getD a []++[-r+(b:Int)]]:=by
 unfold a60;rw[List.append_assoc,List.take_add_one,bX]
 congr 2
 rw[bF2]at h;unfold csI;rw[bJ,List.getElem?_range h];rfl
theorem cI6 (h:(2*r+1).toNat<=19)(hk:k<4){a b:Nat}(ha:a< (eE r k).length)(hb:b<=(csI r).length):(a60 r (eE r k) a b).length<=130321:=by
 refine aJ ?_ (e09 h (k:=k+1) hk)
 have e:eE r (k+1)=a60 r (eE r k) (eE r k).length 0:=(bM2 r _).symm;rw[e];unfold a60;rw[bV,bV,aG,a19,fM,qG,nU,aP8,aP8];have s: ∀M:List (List Int),(M.map λl=>((csI r).map λc=>l++[c]).length).sum=M.length*(csI r).length:=λM=>by
  induction M with
  | nil=>simp
  | cons x M ih=>rw[bY,sum_cons,ih,aG,cY,uO];lia
 rw[s,s,nU,nU,Nat.min_self,iF<|jK ha,iF hb];have:(a+1)*(csI r).length<=(eE r k).length*(csI r).length:=a03 _ ha;rw[uO]at this
 lia
theorem aF5 {r:Int}: ∀{k:Nat} {l:List Int},l∈eE r k->l.length=k/\ ∀x∈l,x∈csI r
 | 0,l,h=>by
  rw[show l=[]from cR.mp h]
  exact⟨rfl,λx hx=>absurd hx ae⟩
 | k+1,l,h=>by
  obtain⟨a,ha,h⟩:=aR4.mp h;obtain⟨c,hc,rfl⟩:=dL.mp h;obtain⟨i1,i2⟩:=aF5 ha;refine⟨by rw[bV,i1];rfl,λx hx=> ?_⟩
  rcases dI.mp hx with z|z
  .exact i2 x z
  .rw[cR.mp z];exact hc
theorem csI_bd (h:x∈csI r): -r<=x/\x<=r:=by
 obtain⟨k,hk,rfl⟩:=dL.mp h;have:=eI.mp hk
 lia
theorem rE (L:List (List Int))(h:i<L.length):(L.map aI).getD i .non=aI (L.getD i [])/\L.getD i []∈L:=by
 rw[aR,bJ,aU h,aR,aU h];exact⟨rfl,cS h⟩
theorem c01 (r:Int)(L:List (List Int)):a60 r L 0 0=[]:=by
 unfold a60;simp
def mO:Φ:=λds Q=> ∃(r:Int) (n:Nat),ds=[.int r,.int (n:Int)]/\(2*r+1).toNat<=19/\n<=4/\ ∀b,(b= .ow ((eE r n).map aI)\/b= .pu (.lst<|(eE r n).map aI))->Q b
def vL:US:=(oK 2)
def vM:US:=(aS (gP (fX<|a8 (aC 1) aN) (bO 3)<|bF 2<|b42 [0] [none,none,some 0,none] 3 (dW<|aC 2) (bO 0) (λρ Q=>Q true ρ)<|dW3 3 (cZ5<|a8 (lZ<|aC 2)<|a8 (uOp eV (aC 2)<|@1) aN) (bO 1) (λρ Q=>Q true ρ)<|uOp eV (aC 0)<|iR<|a8 (aC 1) aN) vL)
def rF:US:=(aS (bF 2<|gA<|a8 (iR aN) aN) vM)
theorem b62: Ra mO rF ["r","n","w","s"]:=by
 rintro ds Q ⟨r,n,rfl,r9,n4,h⟩;unfold rF;show(aS _ _:US) _ [!r,!(n:Int),none,none];rw[aM];left;refine⟨ac,ac,?_⟩
 unfold vM;rw[aM];refine bB n (λk=> .int (0+(k:Int))) _ (λQ' q=> ?_) (λk ρ=> ∃x,ρ=[!r,!(n:Int),↑((eE r k).map aI),x]) ⟨none,rfl⟩ ?_ ?_
 .left
  refine⟨⟨ad,ad⟩,?_⟩
  rw[cD];exact q
 .rintro k ρ hk ⟨x,rfl⟩;refine⟨ae,?_⟩
  show(bF 2 _:US) _ [!r,!(n:Int),↑((eE r k).map aI),!(0+(k:Int))]
  rw[iP];unfold b42;left;have ec:(r+1- -r).toNat=(csI r).length:=by rw[bF2];congr 1;lia
  refine⟨λi ρ'=> ∃x y,ρ'=[x,y,!r,↑((a60 r (eE r k) i 0).map aI)],⟨none,none,by rw[c01];rfl⟩,?_,?_⟩
  .rintro i ρ' hi ⟨x,y,rfl⟩;rw[aG]at hi;obtain⟨eg,mg⟩:=rE (eE r k) hi;rw[eg];have lm:=(aF5 mg).1;refine⟨bW _,?_⟩;unfold dW3 uPut;simp only[aI];left;rw[ec];refine⟨λj ρ'=> ∃y,ρ'=[~~~aI ((eE r k).getD i []),y,!r,↑((a60 r (eE r k) i j).map aI)],⟨y,rfl⟩,?_,?_⟩
   .rintro j ρ' hj ⟨y,rfl⟩;simp only[aI];left;refine⟨ac,ac,by rw[aG,lm];exact aJ (show k+(0+1)<=10 by lia) ac,?_,?_⟩
    .rw[aG];exact iC (cI6 r9 ad hi<|jK hj) ac
    .refine⟨!(-r+(j:Int)),?_⟩
     rw[c00 hj,bX,bY,fM];show _=[_,_,_,some<|B.ow<|_++[D.tup<|((eE r k).getD i []++[-r+(j:Int)]).map D.int]];rw[bX];rfl
   .rintro ρ' ⟨y,rfl⟩;rw[bZ9 hi];exact⟨_,_,rfl⟩
  .rintro ρ' ⟨x,y,rfl⟩;rw[aG,bM2];exact⟨_,rfl⟩
 .rintro ρ ⟨x,rfl⟩;try right
  unfold vL;left;exact h _ (.inl rfl)
def gM:List (Int×Int):=[(2,9),(3,3),(4,2)]
def mF (n:Nat):Int:=if n=2 then 9 else if n=3 then 3 else 2
nonrec def cU6 (p:List Int)(n:Nat)(m:Int)(x:List Int):Bool:=decide (((nrm p n λj=>x.getD j 0).natAbs:Int)=m)
nonrec def aF6 (n:Nat)(t:Nat->∅)(x:List Int):Bool:=bA4 n (j7 t n λj=>x.getD j 0)
structure sJ (e n:Nat)(t:Nat->∅):Prop where
 pos: ∀r,r<n->0<t r r
 zero: ∀i,i<n-> ∀j,i<j->t i j=0
 bd: ∀r j,(t r j).natAbs<=2^e
nonrec def bT2 (p:List Int)(n:Nat)(t:Nat->∅)(r m:Int):List (List Int):=(eE r n).filter λx=>aF6 n t x&&cU6 p n m x
def a61:Φ:=λds Q=> ∃(C:Addr) (p:List Int) (n:Nat) (t:Nat->∅) (r m:Int),ds=[j9 C p,.tup<|tbF n n t,.int r,.int m]/\dQ p/\p.length=n+1/\sJ 600 n t/\r<=mF n/\Q (.ow<|(bT2 p n t r m).map aI)
def wN:ΦX:=λds Q Ex=> ∃(C:Addr) (p:List Int) (n:Nat) (d:D) (r m:Int),ds=[j9 C p,d,.int r,.int m]/\dQ p/\p.length=n+1/\mF n<r/\Ex "TooGreat" []
def aZ5:US:=(cW<|dF [1,0,3] [none,some 1,some 0,some 3,none] 4 (dW<|aQ mO<|a8 (aC 2)<|a8 (b48 "degree"<|aC 0) aN) (bO 0) (b34 (cQ<|aQ a59<|a8 (aC 1)<|a8 (aC 0) aN)<|cQ<|uOp (gJ false) (aQ bB6<|a8 (aQ aJ7<|a8 (aC 2)<|a8 (aC 0) aN) aN)<|aC 3)<|aC 0)
def aT6:US:=(aS (fS (cQ<|uOp (oX λi j=>decide (j<i)) (aC 2)<|dW6 gM<|b48 "degree"<|aC 0) (λ_ _=>False) dD) aZ5)
theorem c90: ∀ds Q Ex,wN ds Q Ex->ds.length=4:=by rintro ds Q Ex ⟨C,p,n,d,r,m,rfl,_⟩;rfl
theorem absK (z:Int):(if z<0 then -z else z)=(z.natAbs:Int):=by split<;>lia
theorem a62 {p:List Int}(rp:dQ p)(hn:p.length=n+1):gM.lookup ((p.length:Int)-1)=some (mF n)/\mF n<=9/\0<=mF n:=by
 have lo:=rp.ok.lo;have hi:=rp.ok.hi;rw[hn,show((n+1:Nat):Int)-1=(n:Int)by lia]
 rcases(show n=2\/n=3\/n=4 by lia)with rfl|rfl|rfl<;>exact⟨rfl,ac,ac⟩
theorem bM3 {α:Type}(L:List (List Int))(P:List Int->Bool)(F:List Int->α):((List.range L.length).filter λk=>P (L.getD k [])).map (λk=>F (L.getD k []))=(L.filter P).map F:=by
 have e:L=(List.range L.length).map λk=>L.getD k []:=by
  apply uE
  intro k;rw[bJ]
  by_cases c:k<L.length
  .rw[List.getElem?_range c,aU c];simp[c]
  .rw[fT ad,fT (by rw[jH];lia)]
   rfl
 conv=>rhs;rw[e]
 rw[List.filter_map,gH];rfl
theorem bM4 (n2:2<=n)(n4:n<=4)(h:r<=mF n):(eE r n).length<=1000/\(2*r+1).toNat<=19:=by
 rw[bM1];rcases(show n=2\/n=3\/n=4 by lia)with rfl|rfl|rfl
 .have h:r<=9:=h;have:(2*r+1).toNat<=19:=ad
  exact⟨aJ (a06 this 2) ac,this⟩
 .have h:r<=3:=h;have:(2*r+1).toNat<=7:=ad
  exact⟨aJ (a06 this 3) ac,ad⟩
 .have h:r<=2:=h;have:(2*r+1).toNat<=5:=ad
  exact⟨aJ (a06 this 4) ac,ad⟩
theorem aZ6 (r9:r<=9){x:List Int}(h:x∈eE r n):x=rwF n (λj=>x.getD j 0)/\ ∀j,(x.getD j 0).natAbs<=2^4:=by
 obtain⟨e,b⟩:=aF5 h;refine⟨by rw[<-e];exact aS6 x,λj=> ?_⟩
 by_cases c:j<x.length
 .rw[aR,aU c];have:=csI_bd (b _<|cS c);show(x[j]).natAbs<=16
  lia
 .rw[aR,fT ad]
  decide
theorem cU7: Ra a61 aT6 ["g","i","r","m"]:=by
 rintro ds Q ⟨C,p,n,t,r,m,rfl,rp,hn,tk,hr,h⟩;have lo:=rp.ok.lo;have hi:=rp.ok.hi;obtain⟨lk,r9,r0⟩:=a62 rp hn;unfold aT6;show(aS _ _:US) _ [~~~j9 C p,~~~.tup (tbF n n t),!r,!m];rw[aM,aJ4,aX9,aD2];left;rw[sI (C:=C) (p:=p) rfl];left;rw[lk];left;rw[a7 ad]
 unfold aZ5;rw[jS];have n2:2<=n:=ad
 have n4:n<=4:=ad
 obtain⟨k1,k19⟩:=bM4 n2 n4 hr;have rg: ∀k,k< (eE r n).length->((eE r n).map aI).getD k .non=aI ((eE r n).getD k [])/\(eE r n).getD k []=rwF n (λj=>((eE r n).getD k []).getD j 0)/\ ∀j,(((eE r n).getD k []).getD j 0).natAbs<=2^4:=λk hk=>by
  obtain⟨a,b⟩:=rE (eE r n) hk;exact⟨a,aZ6 ad b⟩
 refine a52 (t0:=0) (eE r n).length (λk=>((eE r n).map aI).getD k .non) [~~~j9 C p,~~~.tup (tbF n n t),!r,!m] (λQ' q=> ?_) k1 (λx l=>[x,~~~.tup (tbF n n t),~~~j9 C p,!m,↑l]) none rfl (λ_ _ _=>rfl) (λ_ _=>bW _) (λ_ _ _ q=>q) (λ_ _ _=>rfl) (λk=>(λx=>aF6 n t x&&cU6 p n m x) ((eE r n).getD k [])) (λk=>aI ((eE r n).getD k [])) ?_ ?_ ?_
 .unfold dW;rw[dG,d4];left;rw[sI (C:=C) (p:=p) rfl,hn,show((n+1:Nat):Int)-1=(n:Int)by lia]
  left
  refine⟨r,n,rfl,k19,n4,λb hb=> ?_⟩
  rcases hb with rfl|rfl
  .left
   rw[aG];exact q
  .left
   rw[aG];exact q
 .intro k l Q' hk q;obtain⟨a1,a2,a3⟩:=rg k hk;rw[a1]at q⊢;dsimp only at q;generalize (eE r n).getD k []=x at *;left;refine⟨n,t,λj=>x.getD j 0,by rw[<-a2],ad,tk.pos,tk.bd,λj=>aJ (a3 j) (eQ ac ac),?_⟩
  change Q' (aF6 n t x&&cU6 p n m x) _ at q
  show(if aF6 n t x=true then _ else _)
  cases hb:aF6 n t x with
  | false=>
   rw[hb]at q;exact q
  | true=>
   rw[hb,a23]at q;rw[a9 rfl];refine⟨C,p,n,4,λj=>x.getD j 0,by rw[<-a2],rp,hn,ac,a3,?_⟩
   left
   rw[absK];exact q
 .intro k l Q' hk q;rw[(rg k hk).1]at q⊢;left;exact q
 .rw[bM3 (eE r n) (λx=>aF6 n t x&&cU6 p n m x) aI]
  exact h
def aF7:USX:=(λEx=>aS ((λEx=>fS (cQ<|uOp (oX λi j=>decide (j<i)) (aC 2)<|dW6 gM<|b48 "degree"<|aC 0) ((bI3 "TooGreat"<|a8 (uC<|.str "the box is greater than the bound for this degree") aN) Ex) ((λ_=>dD) Ex)) Ex) (cW<|dF [1,0,3] [none,some 1,some 0,some 3,none] 4 (dW<|aQ mO<|a8 (aC 2)<|a8 (b48 "degree"<|aC 0) aN) (bO 0) (b34 (cQ<|aQ a59<|a8 (aC 1)<|a8 (aC 0) aN)<|cQ<|uOp (gJ false) (aQ bB6<|a8 (aQ aJ7<|a8 (aC 2)<|a8 (aC 0) aN) aN)<|aC 3)<|aC 0))
theorem cI7: ∀ds Q Ex,wN ds Q Ex->aF7 Ex {Q with} (init ["g","i","r","m"] ds):=by
 rintro ds Q Ex ⟨C,p,n,d,r,m,rfl,rp,hn,hr,h⟩;obtain⟨lk,r9,r0⟩:=a62 rp hn;unfold aF7;right;show(aS _ _:US) _ [~~~j9 C p,~~~d,!r,!m];rw[aM,aJ4,aX9,aD2];left;rw[sI (C:=C) (p:=p) rfl];left;rw[lk];left;rw[a9 hr];exact⟨ac,h⟩
theorem d77 {p:List Int}{v:∅}(n2:2<=n)(n4:n<=4)(hu: ∀j,n<=j->u j=0)(hv: ∀j,n<=j->v j=0):rwF n (tT p n u v)=rwF n (tT p n v u):=by
 rw[<-c85 n2 n4 hu hv,<-c85 n2 n4 hv hu,show conv u v n=conv v u n from funext λm=>bZ0 hu hv m]
nonrec def tnF:∅:=λj=>if j=1 then 1 else 0
theorem d11 {j:Nat}(n2:2<=n)(h:n<=j):tnF j=0:=a7 ad
theorem d78 (e j:Nat):(tnF j).natAbs<=2^e:=aJ (show(tnF j).natAbs<=1 by unfold tnF;split<;>decide) Nat.one_le_two_pow
theorem tim_tn {p:List Int}(n2:2<=n)(n4:n<=4)(j:Nat):tT p n u tnF j=ttF p n u j:=by
 show((List.range n).map λi=>tnF i*itT p n u i j).sum=ttF p n u j
 match n,n2,n4 with
 | 2,_,_=>simp[cI,tnF,itT]
 | 3,_,_=>simp[cI,tnF,itT]
 | 4,_,_=>simp[cI,tnF,itT]
theorem ttF_cz {p:List Int}(n1:1<=n){j:Nat}(hj:j<n):ttF p n (cz n u) j=ttF p n u j:=by
 unfold ttF cz;rw[a9<|show n-1<n by omega,a9<|show j-1<n by omega]
theorem tn_row {p:List Int}(n2:2<=n)(n4:n<=4):rwF n (tT p n (cz n u) tnF)=rwF n (ttF p n u):=jY λj hj=>by rw[tim_tn n2 n4,ttF_cz ad hj]
theorem nt_row {p:List Int}(n2:2<=n)(n4:n<=4):rwF n (tT p n tnF<|cz n u)=rwF n (ttF p n u):=by
 rw[d77 n2 n4 (λj hj=>d11 n2 hj) λj hj=>dM3 hj,tn_row n2 n4]
theorem d79 {s:Nat}(c:Nat)(hz:z=(c:Int))(n:Nat)(hn:n<=4)(hs:ρ[s]? =some (!(n:Int)))(h:Q (.pu<|aI<|rwF n λk=>if k=c then 1 else 0) ρ) :
  aQ cF (a8 (dF [] [none,none] 1 (fX<|a8 (aC s) aN) (bO 0) (λρ Q=>Q true ρ)<|aQ b39<|a8 (uOp (gJ false) (aC 0)<|uC<|.int z) aN) aN) ρ Q:=by
 subst hz;rw[dG,d4];refine dC (t0:=0) n (λk=> .int (0+(k:Int))) ρ (λQ' q=> ?_) ad (λx l'=>[x,↑l']) none rfl (λ_ _ _=>rfl) (λ_ _=>bW _) (λ_ _ _ q=>q) (λ_ _ _=>rfl) (λk=> .int (if k=c then 1 else 0)) ?_ ?_
 .unfold fX;rw[d4,c75 hs];left;refine⟨⟨ad,ad⟩,?_⟩
  rw[cD];exact q
 .intro k l' Q' hk q';rw[cK]at q'⊢;left
  by_cases e:k=c
  .subst e
   exists q'
  .rw[a7 e]at q';rw[a7<|show ¬(k:Int)=(c:Int)by lia]
   exact q'
 .rw[kX];exact h
theorem dM9 (i n:Nat)(t:Nat->∅):tbF i n t++[aI<|rwF n<|t i]=tbF (i+1) n t:=by
 unfold tbF;rw[cI,bX];rfl
def yZ:Φ:=λds Q=> ∃(p:List Int) (n e:Nat) (u:∅),ds=[aI p,aI<|rwF n u]/\dQ p/\p.length=n+1/\e<=1900/\(∀j,(u j).natAbs<=2^e)/\Q (.ow<|tbF n n<|itT p n u)
def c02:US:=(oK 4)
def c03:US:=(aS (gP (fX<|a8 (aC 2) aN) (bO 6)<|aS (aK9 4<|aC 5)<|bF 5<|aQ aZ1<|a8 (aC 0)<|a8 (aC 3)<|a8 (aC 5) aN) c02)
def c04:US:=(aS (bF 5<|aQ cF<|a8 (aC 1) aN) c03)
def b63:US:=(aS (bF 4<|gA aN) c04)
def b64:US:=(aS (bF 3<|aQ cF<|a8 (dF [] [none,none] 1 (fX<|a8 (aC 2) aN) (bO 0) (λρ Q=>Q true ρ)<|aQ b39<|a8 (uOp (gJ false) (aC 0)<|@1) aN) aN) b63)
def bM5:US:=(aS (bF 2<|uOp M.gSub (kF<|aT 0)<|@1) b64)
theorem dN0: Ra yZ bM5 ["p","x","m","t","r","w","k"]:=by
 rintro ds Q ⟨p,n,e,u,rfl,rp,hn,he,hu,h⟩;have lo:=rp.ok.lo;have hi:=rp.ok.hi;have n2:2<=n:=ad
 have n4:n<=4:=ad
 unfold bM5;show(aS _ _:US) _ [~~~.tup (p.map .int),~~~aI (rwF n u),none,none,none,none,none];rw[aM];left;rw[aG,show(p.length:Int)-1=(n:Int)by lia]
 change b64 _ [~~~aI p,~~~aI (rwF n u),!(n:Int),none,none,none,none]
 unfold b64;rw[aM,iP];refine d79 1 rfl n n4 rfl ?_;show b63 _ [~~~aI p,~~~aI (rwF n u),!(n:Int),~~~aI (rwF n tnF),none,none,none];unfold b63;rw[aM];left;refine⟨ac,?_⟩
 unfold c04;rw[aM];simp only[aI];left;unfold c03;rw[aM];refine bB n (λi=> .int (0+(i:Int))) _ (λQ' q=> ?_)
  (λi ρ=> ∃x,ρ=[~~~aI p,~~~aI (rwF n u),!(n:Int),~~~aI (rwF n tnF),↑(tbF i n (itT p n u)),~~~aI (rwF n (itT p n u i)),x]) ⟨none,rfl⟩ ?_ ?_
 .left
  refine⟨⟨ad,ad⟩,?_⟩
  rw[cD];exact q
 .rintro i ρ hi' ⟨x,rfl⟩;left;rw[tO];refine⟨ac,b9 (show i<10 by lia) ac,p,n,e+27,tnF,cz n<|itT p n u i,?_,rp,hn,ad,λj=>d78 _ j,?_,λj hj=>d11 n2 hj,λj hj=>dM3 hj,?_⟩
  .rw[cz_row]
  .exact dM4 λj=>aJ (rD (n:=n) rp.ok.small hu i j) (eQ ac ad)
  .rw[nt_row n2 n4,dM9];exact⟨_,rfl⟩
 .rintro ρ ⟨x,rfl⟩;right;unfold c02;left;exact h
def kW (n:Nat):Φ:=λds Q=> ∃t:List (List Int),ds=[.lst<|t.map aI]/\Sq n t/\Q (.pu<|.int<|nL n t)
def cU8 (kW:Φ):US:=(aS (fS (cQ<|uOp (gJ false) (kF<|aT 0)<|@1) (cW<|uIx (uV<|uIx (aT 0)<|@0)<|@0) dD)<|aS (bF 1<|@0)<|aS (gP (fX<|a8 (kF<|aT 0) aN) (bO 2)<|aS (bF 3<|dF [] [none,none] 1 (dW<|uOp eV (uSl (aT 0) j4<|lY<|aC 2)<|uSl (aT 0) (lY<|uOp eV (aC 2)<|@1) j4) (bO 0) (λρ Q=>Q true ρ)<|uSl (aT 0) (lY<|@1) j4)<|bF 1<|uOp eV (aC 1)<|uOp fG (uOp fG (uOp M.gSub @1<|uOp fG @2<|uOp jX (aC 2)<|@2)<|uIx (uV<|uIx (aT 0)<|aC 2)<|@0)<|aQ kW<|a8 (aC 3) aN)<|oK 1)
theorem bF3 (n:Nat): ∀ds Q,kW n ds Q->ds.length=1:=by rintro ds Q ⟨a,rfl,_⟩;rfl
theorem dN1: ∀ds Q,¬kW 0 ds Q:=by
 rintro ds Q ⟨t,rfl,sq,_⟩;have:=sq.pos;have:=sq.le
 lia
theorem c91 (n:Nat)(hn:n<4): ∀ds Q,kW (n+1) ds Q->cU8 (kW n) {Q with} (init ["t","o","i","m"] ds):=by
 rintro ds Q ⟨t,rfl,sq,h⟩;have hp:=sq.pos;have hle:=sq.le;have lt:(t.map aI).length=t.length:=aG _;have lrow: ∀i,i<t.length->0< (t.getD i []).length:=λi hi=>by
  rw[aR,aU hi];have:=sq.row _ (cS hi);show 0< (t[i]).length
  lia
 unfold cU8;show(aS _ _:US) _ [~~~.lst (t.map aI),none,none,none];left;rw[lt];split
 .rename_i h1
  have h1':t.length=1:=ad
  have:=bE8 (t:=t) (i:=0) ad
  rw[show(0:Int)+((0:Nat):Int)=0 from rfl]at this
  rw[this];simp only[aI];rw[aD0<|lrow 0 ad]
  unfold nL at h;rw[a9 h1']at h;exact h
 .rename_i h1
  have h1':t.length≠1:=ad
  unfold nL at h;rw[a7 h1']at h;refine bB t.length (λi=> .int (0+i)) [~~~.lst (t.map aI),!0,none,none] ?_ (λi ρ=> ∃x y,ρ=[~~~.lst (t.map aI),some<|.pu<|.int ((List.range i).map λi=>(if i%2=0 then 1 else -1)*(t.getD i []).getD 0 0*nL n ((t.eraseIdx i).map List.tail)).sum,x,y]) ?_ ?_ ?_
  .intro Q' q;simp only[fX];left;rw[lt];refine⟨⟨ad,ad⟩,?_⟩
   rw[cD];exact q
  .exact⟨none,none,rfl⟩
  .rintro i ρ hi ⟨x,y,rfl⟩;rw[cK];refine⟨ae,?_⟩
   dsimp only[set_cons_zero,set_cons_succ];rw[aM,iP];refine bJ0 hi ad (λr hr=>by rw[sq.row r hr];exact hp) (λQ' q=> ?_) ?_
   .simp only[dW];left;rw[<-bV,cF8 hi];exact⟨aJ (show _<=2000 by rw[aG,zT hi];lia) ac,q⟩
   left
   have ai:=bE8 hi;rw[cK]at ai;rw[ai,cM _ ad]
   simp only[aI];rw[aD0<|lrow i hi];have e1:1-2*((i:Int)%2)=(if i%2=0 then(1:Int)else -1):=by
    split<;>lia
   have eg:t.getD i []=t[i]:=by rw[aR,aU hi];rfl
   have en:((t.getD i []).getD 0 0).natAbs<=2^2000:=by
    have h0:=lrow i hi;rw[eg]at h0⊢;rw[aR,aU h0];exact jK (sq.small _ (cS hi) _<|cS h0)
   have se:Sm ((t.getD i []).getD 0 0):=Sm.pow en ac
   have sg:Sm (if i%2=0 then(1:Int)else -1):=by split<;>exact bI7 ac ac
   have sp:Sm ((if i%2=0 then(1:Int)else -1)*(t.getD i []).getD 0 0):=by
    refine Sm.pow (k:=2000) ?_ ac
    rw[eT];have e1:(if i%2=0 then(1:Int)else -1).natAbs=1:=by split<;>rfl
    rw[e1,uM];exact en
   have sd:Sm (nL n<|(t.eraseIdx i).map List.tail):=Sm.pow (b50 n _ ad<|sq.less h1' hi) ad
   have sm:Sm ((i:Int)%2):=bI7 ad ad
   rw[e1];refine⟨ac,.inr ⟨bI7 ac ac,sm⟩,.inr ⟨sg,se⟩,(t.eraseIdx i).map List.tail,rfl,sq.less h1' hi,.inr ⟨sp,sd⟩,?_⟩
   rw[cI,bX,aR8];simp
  .rintro ρ ⟨x,y,rfl⟩;left;exact h
theorem gcd_fm (g l:Int):l.gcd (g.fmod l)=g.gcd l:=by
 rw[Int.fmod_def,Int.gcd_comm g l];simp
theorem fm_lt (g l:Int)(h:l≠0):(g.fmod l).natAbs<l.natAbs:=by
 rw[Int.fmod_eq_emod];have a:=cT g h;have b:=Int.emod_lt g h;split
 .lia
 .rename_i c
  have: ¬g%l=0:=λz=>c (.inr<|Int.dvd_of_emod_eq_zero z)
  lia
def zC:Φ:=λds Q=> ∃a b:Int,ds=[.int a,.int b]/\Q (.pu<|.int (a.gcd b:Nat))
def b65:US:=(aS (b35 (cQ<|uOp (gJ true) (aC 1)<|@0)<|uPar 0 1<|a8 (aC 1)<|a8 (uOp jX (aC 0)<|aC 1) aN)<|cW<|aQ bB6<|a8 (aC 0) aN)
theorem d80: Ra zC b65 ["a","b"]:=by
 rintro ds Q ⟨a,b,rfl,h⟩;unfold b65;show(aS _ _:US) _ [!a,!b];refine⟨λn ρ=> ∃g l:Int,ρ=[!g,!l]/\n=l.natAbs/\g.gcd l=a.gcd b,⟨_,_,_,rfl,rfl,rfl⟩,?_⟩
 rintro n ρ ⟨g,l,rfl,rfl,e⟩;left;split
 .rename_i hl
  have hl':l≠0:=by exists hl
  exact⟨hl',_,fm_lt g l hl',_,_,rfl,rfl,(gcd_fm g l).trans e⟩
 .rename_i hl
  have hl':l=0:=by exists hl
  subst hl';rw[Int.gcd_zero_right]at e;rw[absK,e];exact h
def bM6:Φ:=λds Q=> ∃(n a b:Nat) (f:∅) (z:Int),ds=[aI<|rwF n f,.int z]/\e53 n a b f z/\Q (.pu<|.int<|ps f z n)
def bM7:US:=(aS (bF 2<|@0)<|aS (gP (cZ0<|a8 (aC 0) aN) (bO 3)<|bF 2<|uOp eV (uOp fG (aC 2)<|aC 1)<|aC 3)<|oK 2)
theorem dN2: Ra bM6 bM7 ["f","z","v","c"]:=by
 rintro ds Q ⟨n,a,b,f,z,rfl,ok,h⟩;unfold bM7;simp only[aI];show(aS _ _:US) _ [~~~.tup ((rwF n f).map .int),!z,none,none];left;refine bB n (λk=>((rwF n f).map D.int).getD (n-1-k) .non) _ ?_
  (λk ρ=> ∃c,ρ=[~~~.tup ((rwF n f).map .int),!z,!hor f n z k,c]) ⟨none,rfl⟩ ?_ ?_
 .intro Q' q;left;rw[bE];exact q
 .rintro k ρ hk ⟨c,rfl⟩;rw[iK ad]
  left
  have room:=ok.room;have:(b+1)*k<=(b+1)*n:=a05 _ ad
  exact⟨ae,.inr ⟨Sm.pow (b53 ok.fb ok.zb k) ad,Sm.pow ok.zb (by have:=ok.b8;lia)⟩,_,rfl⟩
 .rintro ρ ⟨c,rfl⟩;left;rw[d03];exact h
theorem b66 {u:Nat->∅}(h: ∀i,i<n-> ∀j,j<m->t i j=u i j):tbF n m t=tbF n m u:=by
 unfold tbF;apply uB;intro i hi;rw[jY λj hj=>h i (eI.mp hi) j hj]
nonrec def bT3 (r q:Int):∅
 | 0=>1
 | i+1=>bT3 r q i*r%q
nonrec def knT (q r:Int):Nat->∅:=λi j=>if i=0 then(if j=0 then q else 0)else if j=0 then(-bT3 r q i)%q else if j=i then 1 else 0
nonrec def knD (n:Nat)(q r:Int):D:= .tup (tbF n n<|knT q r)
def aZ7:Φ:=λds Q=> ∃(n:Nat) (q r:Int),ds=[.int (n:Int),.int q,.int r]/\1<=n/\n<=4/\1<=q/\r.natAbs<=2^30/\Q (.pu<|knD n q r)
def c05:US:=(cW<|aQ cF<|a8 (aC 3) aN)
def c06:US:=(aS (gP (fX<|a8 (aC 0) aN) (bO 5)<|aS (bF 6<|uOp fG (gA<|a8 @0 aN)<|aC 0)<|aS (fS (cQ<|uOp (gJ false) (aC 5)<|@0) (yL 6 (aC 1)<|@0)<|aS (bF 4<|uOp jX (uOp fG (aC 4)<|aC 2)<|aC 1)<|aS (yL 6 (uOp jX (lZ<|aC 4)<|aC 1)<|@0)<|yL 6 @1<|aC 5)<|aK9 3<|aQ cF<|a8 (aC 6) aN) c05)
def bM8:US:=(aS (bF 3<|gA aN)<|aS (bF 4<|@1) c06)
theorem dN3: Ra aZ7 bM8 ["m","p","r","o","f","i","w"]:=by
 rintro ds Q ⟨n,q,r,rfl,n1,n4,q2,r1,h⟩;unfold bM8;show(aS _ _:US) _ [!(n:Int),!q,!r,none,none,none,none];left;refine⟨ac,?_⟩
 unfold c06;rw[aM];refine bB n (λk=> .int (0+(k:Int))) _ (λQ' q'=> ?_)
  (λk ρ=> ∃x y,ρ=[!(n:Int),!q,!r,↑(tbF k n (knT q r)),!bT3 r q (k-1),x,y]) ⟨none,none,rfl⟩ ?_ ?_
 .left
  refine⟨⟨ad,ad⟩,?_⟩
  rw[cD];exact q'
 .rintro k ρ hk ⟨x,y,rfl⟩;rw[cK];left;rw[cD,aJ6];refine⟨ac,ac,⟨ad,ad,aJ (show(0+1)*n<=10 by lia) ac⟩,?_⟩
  have x0:ixN n 0=some 0:=by unfold ixN;simp;lia
  have xk:ixN n (k:Int)=some k:=by unfold ixN;simp;lia
  have ln:(tbF k n<|knT q r).length<sizeLine:=b9 (show(tbF k n<|knT q r).length<10 by rw[tO];lia) ac
  by_cases c:k=0
  .subst c;rw[a9<|by rfl,bE,x0]
   right;rw[wH ad]
   have e:tbF 0 n (knT q r)++[aI<|rwF n λx=>if x=0 then q else 0]=tbF (0+1) n (knT q r):=by
    rw[bJ4];refine b66 λi hi j hj=> ?_
    have:i=0:=ad
    subst this;rfl
   rw[show tbF 0 n (knT q r)++[D.tup<|(rwF n λx=>if x=0 then q else 0).map D.int]=_ from e]
   exact⟨ln,_,_,rfl⟩
  .rw[a7 ad]
   have ek:bT3 r q (k-1)*r%q=bT3 r q k:=by
    obtain⟨m,rfl⟩: ∃m,k=m+1:=⟨k-1,ad⟩
    rfl
   refine⟨cmR ad ad,ad,ad,?_⟩
   rw[cM (bT3 r q (k-1)*r) ad,ek,cM _ ad,bE,x0]
   right;rw[wH ad,bE,xk]
   right;rw[wH ad]
   have e:tbF k n (knT q r)++[aI<|rwF n λx=>if x=k then 1 else if x=0 then(-bT3 r q k)%q else 0]=tbF (k+1) n (knT q r):=by
    rw[bJ4];refine b66 λi hi j hj=> ?_
    by_cases w:i=k
    .rw[a9 w,w];unfold knT;rw[a7 c]
     by_cases z:j=0
     .rw[a7 ad,a9 z,a9 z]
     .rw[a7 z,a7 z]
    .rw[a7 w]
   rw[show tbF k n (knT q r)++[D.tup<|(rwF n λx=>if x=k then 1 else if x=0 then(-bT3 r q k)%q else 0).map D.int]=_ from e]
   exact⟨ln,_,_,rfl⟩
 .rintro ρ ⟨x,y,rfl⟩;right;unfold c05;left;exact h
def clT (n:Nat)(T:Nat->∅):Nat->∅:=λi j=>if i<n/\j<n then T i j else 0
theorem cU9 (n:Nat)(T:Nat->∅):tbF n n T=tbF n n (clT n T):=b66 λi hi j hj=>by unfold clT;rw[a9 ⟨hi,hj⟩]
theorem clT_ok (h1: ∀i,i<n->1<=T i i)(h2: ∀i,i<n-> ∀j,j<n->i<j->T i j=0)(h3: ∀i,i<n-> ∀j,j<n->(T i j).natAbs<=2^e):sJ e n (clT n T):=by
 refine⟨λr hr=> ?_,λi hi j hj=> ?_,λr j=> ?_⟩
 .unfold clT;rw[a9 ⟨hr,hr⟩];have:=h1 r hr
  lia
 .unfold clT;split
  .rename_i c
   exact h2 i hi j c.2 hj
  .rfl
 .unfold clT;split
  .rename_i c
   exact h3 r c.1 j c.2
  .exact dM _
theorem dN4 {q:Int}(q1:1<=q)(q2:q<=2^30):sJ 40 n (clT n<|knT q r):=by
 have em: ∀i,0<=(-bT3 r q i)%q/\(-bT3 r q i)%q<q:=λi=>⟨cT _ ad,cX _ ad⟩
 have lt:(2:Nat)^30<=2^40:=eQ ac ac
 refine clT_ok (λi hi=> ?_) (λi hi j hj h=> ?_) λi hi j hj=> ?_
 .unfold knT;split
  .exact q1
  .rw[a9 rfl];decide
 .unfold knT;rw[a7<|show ¬j=0 by lia,a7<|show ¬j=i by lia]
  split
  .rfl
  .rw[a7<|show ¬j=0 by lia]
 .refine aJ (show(knT q r i j).natAbs<=2^30 from ?_) lt
  unfold knT;have:=em i;split
  .split
   .lia
   .decide
  .split
   .lia
   .split<;>decide
nonrec def c92 (p:List Int)(n:Nat)(A B:Nat->∅)(k:Nat):List (List Int):=(List.range k).flatMap λi=>(List.range n).map λj=>rwF n (tT p n (A i)<|B j)
theorem c07 (p:List Int)(n:Nat)(A B:Nat->∅)(k:Nat):c92 p n A B (k+1)=c92 p n A B k++(List.range n).map λj=>rwF n (tT p n (A k)<|B j):=by
 unfold c92;rw[cI,List.flatMap_append];simp
theorem cI8 (p:List Int)(n:Nat)(A B:Nat->∅): ∀k,(c92 p n A B k).length=k*n
 | 0=>by unfold c92;simp
 | k+1=>by rw[c07,bV,cI8 p n A B k,aG,jH,uO,uM]
def aT7:Φ:=λds Q=> ∃(p:List Int) (n:Nat) (A B:Nat->∅),ds=[aI p,.tup<|tbF n n A,.tup<|tbF n n B]/\dQ p/\p.length=n+1/\(∀i j,(A i j).natAbs<=2^40)/\(∀i j,(B i j).natAbs<=2^40)/\(∀i,i<n-> ∀j,n<=j->A i j=0)/\(∀i,i<n-> ∀j,n<=j->B i j=0)/\1<=A 0 0/\1<=B 0 0/\ ∀T,sJ 500 n T->Q (.pu<|.tup<|tbF n n T)
def aZ8:US:=(cW<|aQ aY2<|a8 (uOp M.gSub (kF<|aT 0)<|@1)<|a8 (uOp fG (uIx (uV<|uIx (aT 1)<|@0)<|@0)<|uIx (uV<|uIx (aT 2)<|@0)<|@0)<|a8 (aC 3) aN)
def aZ9:US:=(aS (gP (dW<|aC 1) (bO 4)<|bF 3<|uOp eV (aC 3)<|dF [0,4] [none,some 0,some 4,none] 3 (dW<|aC 2) (bO 0) (λρ Q=>Q true ρ)<|aQ aZ1<|a8 (aC 1)<|a8 (aC 2)<|a8 (aC 0) aN) aZ8)
def aT8:US:=(aS (bF 3<|gA aN) aZ9)
theorem cV0: Ra aT7 aT8 ["p","a","b","r","x"]:=by
 rintro ds Q ⟨p,n,A,B,rfl,rp,hn,hA,hB,zA,zB,a1,b1,h⟩;have lo:=rp.ok.lo;have hi:=rp.ok.hi;unfold aT8;show(aS _ _:US) _ [~~~aI p,~~~.tup (tbF n n A),~~~.tup (tbF n n B),none,none];rw[aM];left;refine⟨ac,?_⟩
 unfold aZ9;rw[aM];refine bB n (λi=>(tbF n n A).getD i .non) _ (λQ' q=> ?_) (λk ρ=> ∃x,ρ=[~~~aI p,~~~.tup (tbF n n A),~~~.tup (tbF n n B),↑((c92 p n A B k).map aI),x]) ⟨none,rfl⟩ ?_ ?_
 .left
  rw[tO];exact q
 .rintro k ρ hk ⟨x,rfl⟩;rw[bJ8 hk];refine⟨ae,?_⟩
  show(bF 3 (uOp eV (aC 3) _):US) _ [~~~aI p,~~~.tup (tbF n n A),~~~.tup (tbF n n B),↑((c92 p n A B k).map aI),~~~aI (rwF n (A k))]
  rw[iP,aD2,dY5 rfl]
  refine dC (t0:=0) n (λj=>(tbF n n B).getD j .non) [~~~aI p,~~~.tup (tbF n n A),~~~.tup (tbF n n B),~~~.lst ((c92 p n A B k).map aI),~~~aI (rwF n (A k))] (λQ' q=> ?_) ad (λx l=>[x,~~~aI p,~~~aI (rwF n (A k)),↑l]) none rfl (λ_ _ _=>rfl) (λ_ _=>bW _) (λ_ _ _ q=>q) (λ_ _ _=>rfl) (λj=>aI (rwF n<|tT p n (A k)<|B j)) ?_ ?_
  .left
   rw[tO];exact q
  .intro j l Q' hj q;rw[bJ8 hj]at q⊢;left;exact⟨p,n,40,A k,B j,rfl,rp,hn,ac,hA k,hB j,zA k hk,zB j hj,q⟩
  .rw[show(List.range n).map (λj=>aI (rwF n<|tT p n (A k)<|B j))=((List.range n).map λj=>rwF n (tT p n (A k)<|B j)).map aI by rw[gH];rfl]
   left
   rw[<-bX,<-c07];have:=cI8 p n A B k;refine⟨?_,_,rfl⟩;rw[aG,aG,aG,jH,this];have:k*n<=4*4:=gF ad ad
   exact aJ (show k*n+n<=20 by lia) ac
 .rintro ρ ⟨x,rfl⟩;try right
  unfold aZ8;have e1:atI (tbF n n A) 0=some (aI<|rwF n<|A 0):=bJ3 (i:=0) ad
  have e2:atI (tbF n n B) 0=some (aI<|rwF n<|B 0):=bJ3 (i:=0) ad
  have e3: ∀f:∅,atI ((rwF n f).map D.int) 0=some (.int<|f 0):=λf=>hV (i:=0) ad
  simp only[aI]at e1 e2⊢;left;rw[e1,e2];right;rw[e3,e3];right;have ha:=hA 0 0;have hb:=hB 0 0;have m2:A 0 0*B 0 0<=2^500:=qR (a20 (show A 0 0<=2^40 by lia) (show B 0 0<=2^40 by lia) ad ac) af
  refine⟨cmR ad ad,n,A 0 0*B 0 0,c92 p n A B n,?_,ad,ad,?_,m2,λl hl=> ?_,λT S b=>h _ ⟨λr hr=>S.pos r hr,S.zero,b⟩⟩
  .rw[aG,hn,show((n+1:Nat):Int)-1=(n:Int)by lia]
  .exact uN ad ad
  .obtain⟨i,_,hl⟩:=aR4.mp hl;obtain⟨j,_,rfl⟩:=dL.mp hl;exact wG _ _
theorem con2 (a b m:Int):nrm [a,b,1] 2 (yY m)=m*m:=by
 unfold nrm;rw[det_2];simp[itT,ttF,yY]
theorem con3 (a b c m:Int):nrm [a,b,c,1] 3 (yY m)=m*m*m:=by
 unfold nrm;rw[det_3];simp[itT,ttF,yY]
 grind
theorem con4 (a b c d m:Int):nrm [a,b,c,d,1] 4 (yY m)=m*m*m*m:=by
 unfold nrm;rw[det_4];simp[itT,ttF,yY]
 grind
theorem e10 {p:List Int}(rp:dQ p)(hn:p.length=n+1){m:Int}(m1:1<=m)(m2:m<=2^20):1<=nrm p n (yY m)/\nrm p n (yY m)<=2^500:=by
 have e: ∀{a b:Int} {k:Nat},1<=a->a<=2^k->1<=b->b<=2^20->1<=a*b/\a*b<=2^(k+20):=λ{a b k} a1 a2 b1 b2=>by
  refine⟨uN a1 b1,?_⟩
  rw[Int.pow_add];exact a20 a2 b2 ad (le_of_lt<|Int.pow_pos ac)
 have e2:=e (k:=20) m1 m2 m1 m2;have e3:=e e2.1 e2.2 m1 m2;have e4:=e e3.1 e3.2 m1 m2;rcases rp.cases with⟨x,y,rfl,_⟩| ⟨x,y,z,rfl,_⟩| ⟨x,y,z,w,rfl,_⟩
 .have h:3=n+1:=hn;obtain rfl:n=2:=ad
  rw[con2];exact⟨e2.1,qR e2.2 af⟩
 .have h:4=n+1:=hn;obtain rfl:n=3:=ad
  rw[con3];exact⟨e3.1,qR e3.2 af⟩
 .have h:5=n+1:=hn;obtain rfl:n=4:=ad
  rw[con4];exact⟨e4.1,qR e4.2 af⟩
theorem b00 (n:Nat)(t:Nat->∅):tbF n n t=(tbL n t).map aI:=by
 unfold tbL tbF;rw[gH];rfl
def twoW (u v:∅)(k:Nat):∅:=if k=0 then u else v
nonrec def gcM (p:List Int)(n:Nat)(w:Nat->∅):∅
 | 0=>0
 | k+1=>((gcM p n w k).gcd (nrm p n<|w k):Nat)
nonrec def c93 (p:List Int)(n:Nat)(w:Nat->∅):Nat->List (List Int)
 | 0=>[]
 | k+1=>c93 p n w k++tbL n (itT p n<|w k)
theorem cI9 (p:List Int)(n:Nat)(w:Nat->∅): ∀k,(c93 p n w k).length=k*n
 | 0=>by show 0=_;rw[Nat.zero_mul]
 | k+1=>by
  show(c93 p n w k++_).length=_
  rw[bV,cI9 p n w k,aZ2,uO,uM]
theorem cJ0 {p:List Int}{n:Nat}{w:Nat->∅}: ∀{k:Nat} {l:List Int},l∈c93 p n w k-> ∃i,∃r<n,l=rwF n (itT p n (w i) r)
 | 0,l,h=>absurd h (by unfold c93;simp)
 | k+1,l,h=>by
  rcases dI.mp (show l∈c93 p n w k++tbL n (itT p n<|w k)from h)with z|z
  .exact cJ0 z
  .obtain⟨i,hi,rfl⟩:=dL.mp z;exact⟨k,i,eI.mp hi,rfl⟩
def bF4:Φ:=λds Q=> ∃(p:List Int) (n:Nat) (u:∅) (m:Int),ds=[aI p,.lst [aI<|rwF n u,aI<|rwF n<|yY m]]/\dQ p/\p.length=n+1/\(∀j,(u j).natAbs<=2^20)/\1<=m/\m<=2^20/\ ∀T,sJ 500 n T->Q (.pu<|.tup<|tbF n n T)
def bA5:US:=(bF 3<|uOp eV (aC 3)<|aC 5)
def bA6:US:=(aS (bF 2<|aQ zC<|a8 (aC 2)<|a8 (aQ (kW 4)<|a8 (aC 5) aN) aN) bA5)
def aF8:US:=(aS (bF 5<|aQ yZ<|a8 (aC 0)<|a8 (aC 4) aN) bA6)
def c08:US:=(cW<|aQ aY2<|a8 (uOp M.gSub (kF<|aT 0)<|@1)<|a8 (aC 2)<|a8 (aC 3) aN)
def c09:US:=(aS (gP (dW<|aC 1) (bO 4) aF8) c08)
def c12:US:=(aS (bF 3<|gA aN) c09)
def c94:US:=(aS (bF 2<|@0) c12)
theorem e11: Ra bF4 c94 ["p","a","m","r","x","t"]:=by
 rintro ds Q ⟨p,n,u,m,rfl,rp,hn,hu,m1,m2,h⟩;have lo:=rp.ok.lo;have hi:=rp.ok.hi;obtain⟨w,ew⟩: ∃w,w=twoW u (yY m):=⟨_,rfl⟩;have w0:w 0=u:=by rw[ew];rfl
 have w1:w 1=yY m:=by rw[ew];rfl
 have hw: ∀k j,(w k j).natAbs<=2^20:=λk j=>by
  rw[ew];unfold twoW;split
  .exact hu j
  .unfold yY;split
   .lia
   .decide
 have hT: ∀k i j,i<n->(itT p n (w k) i j).natAbs<=2^56:=λk i j hi=>aJ (rD (n:=n) rp.ok.small (hw k) i j) (eQ ac ad)
 have it: ∀k,k<2->[aI<|rwF n u,aI<|rwF n<|yY m].getD k .non=aI (rwF n<|w k):=λk hk=>by
  rcases(show k=0\/k=1 by lia)with rfl|rfl
  .rw[w0];rfl
  .rw[w1];rfl
 unfold c94;show(aS _ _:US) _ [~~~aI p,~~~.lst [aI<|rwF n u,aI<|rwF n<|yY m],none,none,none,none];rw[aM];left;unfold c12;rw[aM];left;refine⟨ac,?_⟩
 unfold c09;rw[aM];refine bB 2 (λk=>[aI<|rwF n u,aI<|rwF n<|yY m].getD k .non) _ (λQ' q=> ?_) (λk ρ=> ∃x y,ρ=[~~~aI p,~~~.lst [aI<|rwF n u,aI<|rwF n<|yY m],!gcM p n w k,↑((c93 p n w k).map aI),x,y]) ⟨none,none,rfl⟩ ?_ ?_
 .left
  exact q
 .rintro k ρ hk ⟨x,y,rfl⟩;rw[it k hk];refine⟨ae,?_⟩
  show aF8 _ [~~~aI p,~~~.lst [aI<|rwF n u,aI<|rwF n<|yY m],!gcM p n w k,↑((c93 p n w k).map aI),~~~aI (rwF n (w k)),y]
  unfold aF8;rw[aM];left;refine⟨p,n,20,w k,rfl,rp,hn,ac,hw k,?_⟩
  try right
  unfold bA6;rw[aM];left;refine⟨tbL n<|itT p n<|w k,by rw[b00],bL7 (e:=56) ad ad ac<|hT k,?_⟩
  try right
  refine⟨gcM p n w k,nrm p n<|w k,rfl,?_⟩
  try right
  unfold bA5;left;rw[b00,<-bX];refine⟨?_,_,_,rfl⟩;rw[aG,aG,cI9,aZ2];have:k*n<=2*4:=gF ad ad
  exact aJ (show k*n+n<=20 by lia) ac
 .rintro ρ ⟨x,y,rfl⟩;try right
  unfold c08;simp only[aI];left;obtain⟨c1,c2⟩:=e10 rp hn m1 m2;have dv:gcM p n w 2∣nrm p n (yY m):=by
   rw[<-w1];exact aR0 _ _
  have g1:1<=gcM p n w 2:=by
   have:0<=gcM p n w 2:=Int.natCast_nonneg _;have z:gcM p n w 2≠0:=λz=>by
    rw[z]at dv;have:=Int.zero_dvd.mp dv
    lia
   lia
  have g2:gcM p n w 2<=2^500:=qR (uH ad dv) c2
  refine⟨n,gcM p n w 2,c93 p n w 2,?_,ad,ad,g1,g2,λl hl=> ?_,λT S b=>h _ ⟨λr hr=>S.pos r hr,S.zero,b⟩⟩
  .rw[aG,hn,show((n+1:Nat):Int)-1=(n:Int)by lia]
  .obtain⟨i,r,_,rfl⟩:=cJ0 hl;exact wG _ _
def a63:Φ:=λds Q=> ∃(n:Nat) (T:Nat->∅),ds=[.tup<|tbF n n T]/\n<=4/\(∀i j,(T i j).natAbs<=2^600)/\ ∀z:Int,Q (.pu<|.int z)
def b01:US:=(oK 1)
def b02:US:=(aS (gP (fX<|a8 (kF<|aT 0) aN) (bO 2)<|bF 1<|uOp fG (aC 1)<|uIx (uV<|uIx (aT 0)<|aC 2)<|aC 2) b01)
def aT9:US:=(aS (bF 1<|@1) b02)
theorem cV1: Ra a63 aT9 ["t","m","k"]:=by
 rintro ds Q ⟨n,T,rfl,n4,hT,h⟩;unfold aT9;show(aS _ _:US) _ [~~~.tup (tbF n n T),none,none];rw[aM];left;unfold b02;rw[aM];refine bB n (λk=> .int (0+(k:Int))) _ (λQ' q=> ?_) (λk ρ=> ∃(z:Int) (x:Option B),ρ=[~~~.tup (tbF n n T),!z,x]/\z.natAbs<=2^(600*k)) ⟨1,none,rfl,ac⟩ ?_ ?_
 .left
  rw[tO];refine⟨⟨ad,ad⟩,?_⟩
  rw[cD];exact q
 .rintro k ρ hk ⟨z,x,rfl,hz⟩;rw[cK];have e1:atI (tbF n n T) (k:Int)=some (aI<|rwF n<|T k):=bJ3 hk;have e2:atI ((rwF n<|T k).map D.int) (k:Int)=some (.int<|T k k):=hV hk;simp only[aI]at e1;left;rw[e1];right;rw[e2];right;refine⟨ae,.inr ⟨vA hz ad,vA (hT k k) ac⟩,z*T k k,_,rfl,?_⟩
  rw[eT,uJ,iI];exact gF hz (hT k k)
 .rintro ρ ⟨z,x,rfl,_⟩;try right
  unfold b01;left;exact h z
def cV2:Φ:=λds Q=> ∃(r:Int) (n:Nat),ds=[.int (n:Int),.int r]/\(2*r+1).toNat<=19/\n<=4/\ ∀b,(b= .ow ((eE r n).map aI)\/b= .pu (.lst<|(eE r n).map aI))->Q b
def a64:US:=(gP (cZ5<|a8 (lZ<|aC 1)<|a8 (uOp eV (aC 1)<|@1) aN) (bO 6)<|aK9 4<|uOp eV (aC 5)<|iR<|a8 (aC 6) aN)
def bM9:US:=(bF 2<|aC 4)
def bN0:US:=(aS (gP (dW<|aC 2) (bO 5) a64) bM9)
def aU0:US:=(aS (bF 4<|gA aN) bN0)
def cJ1:US:=(oK 2)
def cJ2:US:=(aS (gP (fX<|a8 (aC 0) aN) (bO 3) aU0) cJ1)
def cV3:US:=(aS (bF 2<|gA<|a8 (iR aN) aN) cJ2)
theorem rd_box: Ra cV2 cV3 ["n","r","w","k","l","x","p"]:=by
 rintro ds Q ⟨r,n,rfl,r9,n4,h⟩;have ec:(r+1- -r).toNat=(csI r).length:=by rw[bF2];congr 1;lia
 unfold cV3;show(aS _ _:US) _ [!(n:Int),!r,none,none,none,none,none];rw[aM];left;refine⟨ac,ac,?_⟩
 unfold cJ2;rw[aM];refine bB n (λk=> .int (0+(k:Int))) _ (λQ' q=> ?_) (λk ρ=> ∃b x y z w,ρ=[!(n:Int),!r,some b,x,y,z,w]/\(b= .ow ((eE r k).map aI)\/b= .pu (.lst<|(eE r k).map aI))) ⟨_,none,none,none,none,rfl,.inl rfl⟩ ?_ ?_
 .left
  refine⟨⟨ad,ad⟩,?_⟩
  rw[cD];exact q
 .rintro k ρ hk ⟨b,x,y,z,w,rfl,hb⟩;refine⟨ae,?_⟩
  show aU0 _ [!(n:Int),!r,some b,!(0+(k:Int)),y,z,w]
  unfold aU0;rw[aM];left;refine⟨ac,?_⟩
  unfold bN0;rw[aM]
  refine bB (eE r k).length (λi=>((eE r k).map aI).getD i .non) [!(n:Int),!r,~~~.lst ((eE r k).map aI),!(0+(k:Int)),↑[],z,w] (λQ' q=> ?_) (λa ρ=> ∃z w,ρ=[!(n:Int),!r,~~~.lst ((eE r k).map aI),!(0+(k:Int)),↑((a60 r (eE r k) a 0).map aI),z,w]) ⟨z,w,by rw[c01];rfl⟩ ?_ ?_
  .rcases hb with rfl|rfl
   .left
    rw[aG];exact q
   .left
    rw[aG];exact q
  .rintro a ρ ha ⟨z,w,rfl⟩;obtain⟨eg,mg⟩:=rE (eE r k) ha;rw[eg];have lm:=(aF5 mg).1;refine⟨ae,?_⟩
   show a64 _ [!(n:Int),!r,~~~.lst ((eE r k).map aI),!(0+(k:Int)),↑((a60 r (eE r k) a 0).map aI),~~~aI ((eE r k).getD a []),w]
   unfold a64
   refine bB (csI r).length (λj=> .int (-r+(j:Int))) _ (λQ' q=> ?_) (λj ρ=> ∃w,ρ=[!(n:Int),!r,~~~.lst ((eE r k).map aI),!(0+(k:Int)),↑((a60 r (eE r k) a j).map aI),~~~aI ((eE r k).getD a []),w]) ⟨w,rfl⟩ ?_ ?_
   .left
    rw[ec];exact q
   .rintro j ρ hj ⟨w,rfl⟩;simp only[aI];left;refine⟨ae,ac,by rw[aG,lm];exact aJ (show k+(0+1)<=10 by lia) ac,?_,?_⟩
    .rw[aG];exact iC (cI6 r9 ad ha<|jK hj) ac
    .refine⟨!(-r+(j:Int)),?_⟩
     rw[c00 hj,bX,bY,fM];show _=[_,_,_,_,some<|B.ow<|_++[D.tup<|((eE r k).getD a []++[-r+(j:Int)]).map D.int],_,_];rw[bX];rfl
   .rintro ρ ⟨w,rfl⟩;rw[bZ9 ha];exact⟨_,_,rfl⟩
  .rintro ρ ⟨z,w,rfl⟩;try right
   unfold bM9;left;rw[bM2];exact⟨_,_,_,_,_,rfl,.inr rfl⟩
 .rintro ρ ⟨b,x,y,z,w,rfl,hb⟩;try right
  unfold cJ1;rcases hb with rfl|rfl
  .left
   exact h _ (.inl rfl)
  .left
   exact h _ (.inr rfl)
def dN5:Φ:=λds Q=> ∃(n:Nat) (t:Nat->∅) (f:∅),ds=[.tup<|tbF n n t,aI<|rwF n f]/\n<=4/\sJ 600 n t/\(∀j,(f j).natAbs<=2^600)/\Q (.pu<|.bl<|bA4 n<|j7 t n f)
def c13:US:=(gP (fX<|a8 (uOp eV (aC 3)<|@1) aN) (bO 5)<|yL 2 (uOp M.gSub (uIx (aT 2)<|aC 5)<|uOp fG (aC 4)<|uIx (uV<|uIx (aT 0)<|aC 3)<|aC 5)<|aC 5)
def b67:US:=(aS (bF 4<|uOp aW5 (uIx (aT 2)<|aC 3)<|uIx (uV<|uIx (aT 0)<|aC 3)<|aC 3) c13)
def d12:US:=(cW<|aQ cD6<|a8 (dF [] [none,none] 1 (dW<|aC 2) (bO 0) (λρ Q=>Q true ρ)<|uOp (gJ false) (aC 0)<|@0) aN)
def d13:US:=(aS (gP (b97<|a8 (uOp M.gSub (kF<|aT 0)<|@1)<|a8 (lZ<|@1)<|a8 (lZ<|@1) aN) (bO 3) b67) d12)
def dN6:US:=(aS (bF 2<|aQ aI8<|a8 (aC 1) aN) d13)
theorem rd_in: Ra dN5 dN6 ["t","r","l","k","p","j"]:=by
 rintro ds Q ⟨n,t,f,rfl,n4,tk,fb,h⟩;unfold dN6;show(aS _ _:US) _ [~~~.tup (tbF n n t),~~~.tup ((rwF n f).map .int),none,none,none,none];rw[aM];left;unfold d13;rw[aM];refine bB n (λk=> .int ((n:Int)-1-k)) _ (λQ' q=> ?_)
  (λk ρ=> ∃g x y z,ρ=[~~~.tup (tbF n n t),~~~.tup ((rwF n f).map .int),↑((rwF n g).map .int),x,y,z]/\j7 t (n-k) g=j7 t n f/\ ∀j,(g j).natAbs<=2^(600+601*k)) ⟨f,none,none,none,rfl,rfl,λj=>fb j⟩ ?_ ?_
 .left
  rw[tO];refine⟨ac,⟨ad,ad,ac,ac⟩,?_⟩
  rw[show((n:Int)-1- -1).toNat=n by lia]
  exact q
 .rintro k ρ hk ⟨g,x,y,z,rfl,hr,hb⟩;obtain⟨i,hi⟩: ∃i:Nat,i=n-1-k:=⟨_,rfl⟩;have hin:i<n:=ad
  have ei:(n:Int)-1-(k:Int)=(i:Int):=ad
  have hpos:=tk.pos i hin;rw[ei];refine⟨ae,?_⟩
  show b67 _ [~~~.tup (tbF n n t),~~~.tup ((rwF n f).map .int),↑((rwF n g).map .int),!(i:Int),y,z]
  unfold b67;rw[aM];have e1:atI ((rwF n g).map D.int) (i:Int)=some (.int<|g i):=hV hin;have e2:atI (tbF n n t) (i:Int)=some (.tup<|(rwF n<|t i).map .int):=bJ3 hin;have e3:atI ((rwF n<|t i).map D.int) (i:Int)=some (.int<|t i i):=hV hin;left;simp only[e1,e2,e3];rw[nJ _ hpos];refine⟨⟨ad,vA (tk.bd i i) ac⟩,?_⟩
  unfold c13;refine bB (i+1) (λj=> .int (0+(j:Int))) _ (λQ' q=> ?_)
   (λj ρ=> ∃z,ρ=[~~~.tup (tbF n n t),~~~.tup ((rwF n f).map .int),some<|.ow<|(rwF n λx=>if x<j then jP t i g x else g x).map .int,!(i:Int),!g i/t i i,z]) ⟨z,by rw[show(λx=>if x<0 then jP t i g x else g x)=g from funext λx=>a7 ad]⟩ ?_ ?_
  .left
   refine⟨⟨ad,ad⟩,?_⟩
   rw[show((i:Int)+1).toNat=i+1 by lia]
   exact q
  .rintro j ρ hj ⟨z,rfl⟩;rw[cK];have hjn:j<n:=ad
   have f1:atI ((rwF n λx=>if x<j then jP t i g x else g x).map D.int) (j:Int)=some (.int<|g j):=by
    rw[hV hjn,a7 ad]
   have f2:atI ((rwF n<|t i).map D.int) (j:Int)=some (.int<|t i j):=hV hjn;left;simp only[f1,e2,f2];rw[bE,bJ5 hjn];right;refine⟨ae,.inr ⟨vA (aJ (u6 _ _)<|hb i) ad,vA (tk.bd i j) ac⟩,!(j:Int),?_⟩
   rw[wH hjn];have e7:(λx=>if x=j then g j-g i/t i i*t i j else if x<j then jP t i g x else g x)=λx=>if x<j+1 then jP t i g x else g x:=funext λx=>by
    by_cases c:x=j
    .rw[a9 c,a9 ad,c]
     rfl
    .rw[a7 c]
     by_cases d:x<j
     .rw[a9 d,a9 ad]
     .rw[a7 d,a7 ad]
   rw[e7]
  .rintro ρ ⟨z,rfl⟩;refine⟨jP t i g,!(i:Int),!g i/t i i,z,?_,?_,λj=> ?_⟩
   .rw[show(λx=>if x<i+1 then jP t i g x else g x)=jP t i g from funext λx=>by
     split
     .rfl
     .show g x=g x-g i/t i i*t i x
      rw[tk.zero i hin x ad]
      lia]
   .rw[<-hr,show n-k=i+1 by lia,show n-(k+1)=i by lia]
    rfl
   .have:=aD4 (i:=i) (tk.bd i) hb j;rw[show 600+601*(k+1)=600+601*k+601 by lia]
    exact this
 .rintro ρ ⟨g,x,y,z,rfl,hr,hb⟩;try right
  unfold d12;rw[o7]at hr;have eg:g=j7 t n f:=hr;rw[<-eg]at h;rw[jS,dG,d4]
  refine dC (t0:=0) n (λk=>((rwF n g).map D.int).getD k .non) [~~~.tup (tbF n n t),~~~.tup ((rwF n f).map .int),~~~.lst ((rwF n g).map .int),x,y,z] (λQ' q=> ?_) ad (λx l'=>[x,↑l']) none rfl (λ_ _ _=>rfl) (λ_ _=>bW _) (λ_ _ _ q=>q) (λ_ _ _=>rfl) (λk=> .bl (g k==0)) ?_ ?_
  .left
   rw[bE];exact q
  .intro k l' Q' hk q';rw[iK hk]at q'⊢;left;exact q'
  .rw[show(List.range n).map (λk=>D.bl (g k==0))=((List.range n).map λk=>g k==0).map D.bl by rw[gH];rfl]
   left
   rw[uX];right;have e:(((List.range n).map λk=>g k==0).all id)=bA4 n g:=by
    unfold bA4 rwF;rw[a31,a31];rfl
   rw[e];exact h
def aU1:Φ:=λds Q=> ∃(C:Addr) (p:List Int) (n:Nat) (d:D) (r m:Int),ds=[j9 C p,d,.int r,.int m]/\dQ p/\p.length=n+1/\mF n<r/\Q (.pu<|.bl true)
def c95:US:=(cW<|uC<|.bl false)
def aU2:US:=(aS (dI7 4 "TooGreat" (λa _ _=> .adr a) (λEx=>aC1 (cS6 wN (a8 (aC 0)<|a8 (aC 1)<|a8 (aC 2)<|a8 (aC 3) aN) Ex)) λx=>(cW<|cC6 (dI5 x 4 true)<|cC6 (dI5 x 4 true)<|cC7<|dI5 x 4 false)) c95)
theorem cV4: Ra aU1 aU2 ["g","t","r","m","e"]:=by
 rintro ds Q ⟨C,p,n,d,r,m,rfl,rp,hn,hr,h⟩;unfold aU2;show(aS _ _:US) _ [~~~j9 C p,~~~d,!r,!m,none];rw[aM];left;refine⟨C,p,n,d,r,m,rfl,rp,hn,hr,?_⟩;exact⟨rfl,λ_ _=>⟨trivial,trivial,trivial,h⟩⟩
def bN1:Φ:=λds Q=> ∃(n:Nat) (w:List Int) (f z:Int),ds=[.int (n:Int),.lst<|w.map .int,.int f,.int z]/\2<=n/\n<=4/\Below w [8,60,8,1000000,32]/\ ∀r:Int,Q (.pu<|.int r)
def aU3:US:=(cW<|uOp jX (uIx (aT 1)<|@1)<|uOp eV (aC 4)<|@1)
def bN2:US:=(aS (fS (b34 (cQ<|uOp (gJ false) (aC 0)<|@4)<|b34 (cQ<|uOp (oX λi j=>decide (i<j)) (aC 3)<|@16)<|cQ<|uOp (oX λi j=>decide (j<i)) (uIx (aT 1)<|@4)<|@0) (cW<|uOp jX (uIx (aT 1)<|@1)<|@2) dD) aU3)
def bN3:US:=(aS (fS (cQ<|uOp (gJ false) (uIx (aT 1)<|@0)<|@7) (cW<|uOp M.gSub (lZ<|@1)<|uIx (uV<|gA<|a8 @0<|a8 (uIx (aT 1)<|@1)<|a8 (aQ bB6<|a8 (aC 2) aN) aN)<|uOp jX (uIx (aT 1)<|@2)<|@3) dD) bN2)
def bN4:US:=(aS (fS (cQ<|uOp (gJ false) (uIx (aT 1)<|@0)<|@6) (cW<|uOp eV (uOp eV (aC 4)<|@1)<|uIx (uV<|gA<|a8 @0<|a8 (uIx (aT 1)<|@1)<|a8 (aQ bB6<|a8 (aC 2) aN) aN)<|uOp jX (uIx (aT 1)<|@2)<|@3) dD) bN3)
def bN5:US:=(aS (bF 4<|uIx (uV<|gA<|a8 @9<|a8 @3<|a8 @2 aN)<|uOp M.gSub (aC 0)<|@2) bN4)
theorem dN7: Ra bN1 bN5 ["n","w","f","z","m"]:=by
 rintro ds Q ⟨n,w,f,z,rfl,n2,n4,bw,h⟩;obtain⟨w0,w1,w2,w3,w4,rfl⟩: ∃w0 w1 w2 w3 w4,w=[w0,w1,w2,w3,w4]:=by
  match w,bw.1 with
  | [w0,w1,w2,w3,w4],_=>exact⟨w0,w1,w2,w3,w4,rfl⟩
 have b2:=bw.2 2 w2 8 rfl rfl;have i0:atI [D.int w0,.int w1,.int w2,.int w3,.int w4] 0=some (.int w0):=bP (j:=0) rfl;have i1:atI [D.int w0,.int w1,.int w2,.int w3,.int w4] 1=some (.int w1):=bP (j:=1) rfl;have i2:atI [D.int w0,.int w1,.int w2,.int w3,.int w4] 2=some (.int w2):=bP (j:=2) rfl;have i4:atI [D.int w0,.int w1,.int w2,.int w3,.int w4] 4=some (.int w4):=bP (j:=4) rfl
 have mo:atI [D.int 9,.int 3,.int 2] ((n:Int)-2)=some (.int<|mF n):=by
  rcases(show n=2\/n=3\/n=4 by lia)with rfl|rfl|rfl
  .exact bP (j:=0) rfl
  .exact bP (j:=1) rfl
  .exact bP (j:=2) rfl
 have mr:0<=mF n/\mF n<=9:=by
  rcases(show n=2\/n=3\/n=4 by lia)with rfl|rfl|rfl<;>decide
 have pk: ∀a b c:Int,∃v,atI [D.int a,.int b,.int c] (w2%3)=some (.int v):=λa b c=>by
  rcases(show w2%3=0\/w2%3=1\/w2%3=2 by lia)with e|e|e<;>rw[e]
  .exact⟨a,bP (j:=0) rfl⟩
  .exact⟨b,bP (j:=1) rfl⟩
  .exact⟨c,bP (j:=2) rfl⟩
 unfold bN5;show(aS _ _:US) _ [!(n:Int),~~~.lst [.int w0,.int w1,.int w2,.int w3,.int w4],!f,!z,none];rw[aM];left;rw[mo];right;refine⟨ac,?_⟩
 unfold bN4;rw[aM];left;rw[i0];right
 by_cases c0:w0=6
 .rw[a9 c0,i1];right;refine⟨ac,?_⟩
  rw[i2];right;refine⟨ac,?_⟩
  rw[cM _ ac]
  obtain⟨v,ev⟩:=pk 0 w1 (if f<0 then -f else f);rw[ev];exact h _
 rw[a7 c0];unfold bN3;rw[aM];left;rw[i0];right
 by_cases c1:w0=7
 .rw[a9 c1,i1];right;refine⟨ac,?_⟩
  rw[i2];right;refine⟨ac,?_⟩
  rw[cM _ ac]
  obtain⟨v,ev⟩:=pk 0 w1 (if f<0 then -f else f);rw[ev];exact h _
 rw[a7 c1];have fin:aU3 {Q with} [!(n:Int),~~~.lst [.int w0,.int w1,.int w2,.int w3,.int w4],!f,!z,!mF n]:=by
  unfold aU3;left;rw[i1];right;exact⟨ad,h _⟩
 unfold bN2;rw[aM];left;rw[i4,i1];right;split
 .split
  .split
   .exact⟨ac,h _⟩
   .exact fin
  .exact fin
 .exact fin
def nrW (n:Nat):List Int:=[6,4,9,99,99,99,99]++replicate n 199
structure NrD (n:Nat)(a0 a1 a2 a3 a4 a5 a6 y:Int)(zs:List Int):Prop where
 b2:0<=a2/\a2<9
 b3:0<=a3/\a3<99
 b4:0<=a4/\a4<99
 b5:0<=a5/\a5<99
 b6:0<=a6/\a6<99
 by':0<=y/\y<199
 bz: ∀x∈zs,0<=x/\x<199
 lz:zs.length+1=n
theorem nr_of (n1:1<=n){xs:List Int}(h:Below xs (nrW n)): ∃a0 a1 a2 a3 a4 a5 a6 y zs,xs=a0::a1::a2::a3::a4::a5::a6::y::zs/\NrD n a0 a1 a2 a3 a4 a5 a6 y zs:=by
 have hl:xs.length=n+7:=by rw[h.1];unfold nrW;simp
 have rp: ∀j,j<n->(nrW n)[7+j]? =some 199:=λj hj=>by
  unfold nrW;rw[lK ae]
  simp[hj]
 rcases xs with _| ⟨a0,_| ⟨a1,_| ⟨a2,_| ⟨a3,_| ⟨a4,_| ⟨a5,_| ⟨a6,_| ⟨y,zs⟩⟩⟩⟩⟩⟩⟩⟩<;>simp only[cY,qG]at hl<;>first| (exfalso;lia)|skip
 refine⟨a0,a1,a2,a3,a4,a5,a6,y,zs,rfl,h.2 2 a2 9 rfl rfl,h.2 3 a3 99 rfl rfl,h.2 4 a4 99 rfl rfl,h.2 5 a5 99 rfl rfl,h.2 6 a6 99 rfl rfl,h.2 7 y 199 rfl (rp 0 n1),λx hx=> ?_,ad⟩
 obtain⟨i,hi,rfl⟩:=List.getElem_of_mem hx;exact h.2 (7+(i+1)) _ 199 (by rw[show 7+(i+1)=i+8 by lia];simp[hi]) (rp (i+1) ad)
def nrL (a0 a1 a2 a3 a4 a5 a6 y:Int)(zs:List Int):List D:= .int a0:: .int a1:: .int a2:: .int a3:: .int a4:: .int a5:: .int a6:: .int y::zs.map .int
theorem dN8 {L:List Int}(hl:L.length=n)(hb: ∀x∈L,x.natAbs<=2^e): ∃u:∅,L=rwF n u/\ ∀j,(u j).natAbs<=2^e:=⟨λj=>L.getD j 0,by rw[<-hl];exact aS6 L,λj=>eX hb j⟩
def c96:Φ:=λds Q=> ∃(p:List Int) (n:Nat) (c q:Int),ds=[aI p,.int c,.int q]/\dQ p/\p.length=n+1/\0<q/\ ∀T,sJ 600 n T->Q (.pu<|.tup<|tbF n n T)
def bA7:US:=(aK9 7<|aQ aZ7<|a8 (aC 3)<|a8 (aC 11)<|a8 (aC 9) aN)
def bA8:US:=(aS (bF 11<|aQ zC<|a8 (aQ bM6<|a8 (aC 0)<|a8 (aC 9) aN)<|a8 (aC 10) aN) bA7)
def bA9:US:=(aS (bF 10<|uIx (uV<|gA<|a8 @2520<|a8 (uOp eV @1<|uIx (aT 4)<|uOp eV @3<|aC 8) aN)<|uOp jX (uIx (aT 4)<|@2)<|@2) bA8)
def aF9:US:=(aS (bF 9<|uOp M.gSub (uIx (aT 4)<|uOp eV @5<|aC 8)<|@49) bA9)
def a65:US:=(cW<|aQ cF<|a8 (dF [13] [none,some 13,none] 2 (dW<|aC 12) (bO 0) (λρ Q=>Q true ρ)<|aQ cF<|a8 (dF [1] [none,some 1,none] 2 (dW<|aC 0) (bO 0) (λρ Q=>Q true ρ)<|uOp fG (aC 1)<|aC 0) aN) aN)
def bN6:US:=(aS (fS (uOr (cQ<|uOp (gJ false) (uIx (aT 4)<|@1)<|@3)<|cQ<|uOp (gJ false) (uIx (aT 4)<|@0)<|@4) (bF 13<|uOp eV @1<|uIx (aT 4)<|@2) dD) a65)
def aU4:US:=(aS (bF 13<|@1) bN6)
def a66:US:=(aS (fS (cQ<|uOp (gJ false) (uIx (aT 4)<|@0)<|@4) (bF 12<|aQ aZ7<|a8 (aC 3)<|a8 @1<|a8 @0 aN) dD) aU4)
def aU5:US:=(aS (fS (uOr (cQ<|uOp (gJ false) (uIx (aT 4)<|@0)<|@2)<|cQ<|uOp (gJ false) (uIx (aT 4)<|@0)<|@3) (bF 12<|aQ bF4<|a8 (aC 0)<|a8 (gA<|a8 (aC 5)<|a8 (aQ cF<|a8 (uOp eV (gA<|a8 (aC 6) aN)<|uOp fG (gA<|a8 @0 aN)<|uOp M.gSub (aC 3)<|@1) aN) aN) aN) dD) a66)
def c14:US:=(aS (fS (cQ<|uOp (gJ false) (uIx (aT 4)<|@0)<|@1) (bF 12<|aQ aT7<|a8 (aC 0)<|a8 (uIx (aT 7)<|@0)<|a8 (uIx (aT 7)<|@1) aN) dD) aU5)
def b68:US:=(aS (bF 12<|uIx (aT 7)<|@0) c14)
def b69:US:=(aS (fS (cQ<|uOp (gJ false) (uIx (aT 4)<|@0)<|@3) (bF 6<|aQ zC<|a8 (aQ (kW 4)<|a8 (aQ yZ<|a8 (aC 0)<|a8 (aC 5) aN) aN)<|a8 @360360 aN) dD) b68)
def b70:US:=(aS (gP (fX<|a8 @2 aN) (bO 8) aF9) b69)
def c15:US:=(aS (bF 7<|gA aN) b70)
def b71:US:=(aS (bF 6<|uOp eV @1<|uIx (aT 4)<|@3) c15)
def b72:US:=(aS (fS (uOr (cQ<|uOp (gJ false) (uIx (aT 4)<|@0)<|@3)<|cQ<|uOp (c56 false) (aC 5)<|aQ cF<|a8 (uOp fG (gA<|a8 @0 aN)<|aC 3) aN) (bF 5<|aQ cF<|a8 (uOp eV (gA<|a8 (uOp eV @1<|uOp jX (uIx (aT 4)<|@7)<|@2) aN)<|dF [] [none,none] 1 (dW<|uSl (aT 4) (lY<|@8) j4) (bO 0) (λρ Q=>Q true ρ)<|uOp M.gSub (uOp jX (aC 0)<|@5)<|@2) aN) dD) b71)
def b73:US:=(aS (bF 5<|aQ cF<|a8 (dF [] [none,none] 1 (dW<|uSl (aT 4) (lY<|@7) j4) (bO 0) (λρ Q=>Q true ρ)<|uOp M.gSub (aC 0)<|@99) aN) b72)
def b74:US:=(aS (bF 4<|aQ nK<|a8 (aC 1)<|a8 (uOp eV (gA<|a8 @6<|a8 @4<|a8 @9<|a8 @99<|a8 @99<|a8 @99<|a8 @99 aN)<|uOp fG (gA<|a8 @199 aN)<|aC 3)<|a8 (aC 2) aN) b73)
def c97:US:=(aS (bF 3<|uOp M.gSub (kF<|aT 0)<|@1) b74)
theorem sJ.times (h:sJ 500 n T)(c1:1<=c)(c9:c<=9):sJ 600 n (λi j=>c*T i j):=by
 refine⟨λr hr=>uN ad (h.pos r hr),λi hi j hj=>by rw[h.zero i hi j hj,cU],λr j=> ?_⟩
 rw[eT];refine aJ (gF (show c.natAbs<=2^4 by lia)<|h.bd r j) ?_
 rw[<-iI];exact eQ ac ac
theorem sJ.up (h:sJ 40 n T):sJ 500 n T:=⟨h.pos,h.zero,λr j=>aJ (h.bd r j) (eQ ac ac)⟩
theorem e12 {s0 s1 s2 s3 s4 s5 s6 s7 s8 s9:Option B}(n4:n<=4)(c1:1<=c)(c9:c<=9)(eρ:ρ=[s0,s1,s2,s3,s4,s5,s6,s7,s8,s9,s10,s11,~~~.tup (tbF n n T),!c])
  (h:E.rt (.pu<|.tup<|tbF n n λi j=>c*T i j)):a65 E ρ:=by
 subst eρ;unfold a65;rw[jS,dG,d4];refine dC (t0:=0) n (λk=>(tbF n n T).getD k .non) [s0,s1,s2,s3,s4,s5,s6,s7,s8,s9,s10,s11,~~~.tup (tbF n n T),!c] (λQ' q=> ?_) ad (λx l=>[x,!c,↑l]) none rfl (λ_ _ _=>rfl) (λ_ _=>bW _) (λ_ _ _ q=>q) (λ_ _ _=>rfl) (λi=>aI (rwF n λj=>c*T i j)) ?_ ?_
 .left
  rw[tO];exact q
 .intro i l Q' hi q;rw[bJ8 hi]at q⊢;rw[dG,d4];refine dC (t0:=0) n (λk=>((rwF n<|T i).map D.int).getD k .non) [~~~aI (rwF n (T i)),!c,↑l] (λQ' q=> ?_) ad (λx l=>[x,!c,↑l]) none rfl (λ_ _ _=>rfl) (λ_ _=>bW _) (λ_ _ _ q=>q) (λ_ _ _=>rfl) (λj=> .int (c*T i j)) ?_ ?_
  .simp only[aI];left;rw[bE];exact q
  .intro j l' Q' hj q;rw[iK hj]at q⊢;left;exact⟨cmL ad ad,q⟩
  .rw[kX];exact q
 .left
  exact h
section
variable {Q:B->Prop}{p:List Int}{n:Nat}{c q:Int}{a0 a1 a2 a3 a4 a5 a6 y:Int}{zs:List Int}{u:∅}{m:Int}{s7 s8 s9 s10 s11 s12 s13:Option B}
theorem wO (k:Nat)(hk:k<8):atI (nrL a0 a1 a2 a3 a4 a5 a6 y zs) (k:Int)=some (.int<|[a0,a1,a2,a3,a4,a5,a6,y].getD k 0):=by
 refine bP ?_
 match k,hk with
 | 0,_=>rfl
 | 1,_=>rfl
 | 2,_=>rfl
 | 3,_=>rfl
 | 4,_=>rfl
 | 5,_=>rfl
 | 6,_=>rfl
 | 7,_=>rfl
nonrec def nrE (p:List Int)(c q:Int)(n:Nat)(F:List D)(u:∅)(m:Int)(s7 s8 s9 s10 s11 s12 s13:Option B):Ev:=[~~~aI p,!c,!q,!(n:Int),↑F,~~~aI (rwF n u),!m,s7,s8,s9,s10,s11,s12,s13]
theorem e13 (rp:dQ p)(hn:p.length=n+1)(N:NrD n a0 a1 a2 a3 a4 a5 a6 y zs)(tk:sJ 500 n T)(h: ∀T,sJ 600 n T->Q (.pu<|.tup<|tbF n n T)) :
  aU4 {Q with} (nrE p c q n (nrL a0 a1 a2 a3 a4 a5 a6 y zs) u m s7 s8 s9 s10 s11 (~~~.tup (tbF n n T)) s13):=by
 have n4:n<=4:=by have:=rp.ok.hi;lia
 have i0:atI (nrL a0 a1 a2 a3 a4 a5 a6 y zs) 0=some (.int a0):=wO 0 ac
 have i1:atI (nrL a0 a1 a2 a3 a4 a5 a6 y zs) 1=some (.int a1):=wO 1 ac
 have i2:atI (nrL a0 a1 a2 a3 a4 a5 a6 y zs) 2=some (.int a2):=wO 2 ac
 have b2:=N.b2;have fin: ∀d:Int,1<=d->d<=9->a65 {Q with} (nrE p c q n (nrL a0 a1 a2 a3 a4 a5 a6 y zs) u m s7 s8 s9 s10 s11 (~~~.tup (tbF n n T))<|!d):=λd d1 d9=>e12 n4 d1 d9 rfl (h _<|tk.times d1 d9)
 unfold nrE at fin⊢;unfold aU4;rw[aM];left;unfold bN6;rw[aM];left;rw[i1,i0,i2];right;split
 .exact fin _ ad ad
 .split
  .exact fin _ ad ad
  .exact fin _ ac ac
theorem e14 (rp:dQ p)(hn:p.length=n+1)(N:NrD n a0 a1 a2 a3 a4 a5 a6 y zs)(tk:sJ 500 n T)(hu: ∀j,(u j).natAbs<=2^20)(m1:1<=m)(m2:m<=2^20)(h: ∀T,sJ 600 n T->Q (.pu<|.tup<|tbF n n T)) :
  aU5 {Q with} (nrE p c q n (nrL a0 a1 a2 a3 a4 a5 a6 y zs) u m s7 s8 s9 s10 s11 (~~~.tup (tbF n n T)) s13):=by
 have n2:2<=n:=by have:=rp.ok.lo;lia
 have n4:n<=4:=by have:=rp.ok.hi;lia
 have i0:atI (nrL a0 a1 a2 a3 a4 a5 a6 y zs) 0=some (.int a0):=wO 0 ac
 have fin: ∀T,sJ 500 n T->a66 {Q with} (nrE p c q n (nrL a0 a1 a2 a3 a4 a5 a6 y zs) u m s7 s8 s9 s10 s11 (~~~.tup (tbF n n T)) s13):=λT tk=>by
  have f12:=λT tk=>e13 (T:=T) (c:=c) (q:=q) (u:=u) (m:=m) (s7:=s7) (s8:=s8) (s9:=s9) (s10:=s10) (s11:=s11) (s13:=s13) rp hn N tk h
  unfold nrE at f12⊢;unfold a66;rw[aM];left;rw[i0];right;split
  .refine⟨n,1,0,rfl,ad,n4,ac,ac,?_⟩
   unfold knD;rw[cU9];exact f12 _ (dN4 ac ac).up
  .exact f12 T tk
 have md:bF4 [aI p,.lst [aI<|rwF n u,.tup (.int m::(replicate (n-1) [D.int 0]).flatten)]] λb=>a66 {Q with} (nrE p c q n (nrL a0 a1 a2 a3 a4 a5 a6 y zs) u m s7 s8 s9 s10 s11 (some b) s13):=by
  refine⟨p,n,u,m,?_,rp,hn,hu,m1,m2,fin⟩
  rw[sC,<-e04 m ad]
  rfl
 unfold nrE at fin md⊢;unfold aU5;rw[aM];left;rw[i0,show((n:Int)-1).toNat=n-1 by lia]
 right;have lf:(replicate (n-1) [D.int 0]).flatten.length=n-1:=by rw[sC,aG,nR]
 rw[lf];have k1:(-2^63<=(n:Int)-1/\(n:Int)-1<2^63/\(0+1)*(n-1)<=sizeLine):=⟨ad,ad,aJ (show(0+1)*(n-1)<=10 by lia) ac⟩
 have k2:0+1+(n-1)<=sizeLine:=aJ (show 0+1+(n-1)<=10 by lia) ac
 split
 .exact⟨ac,ac,k1,k2,ac,md⟩
 .split
  .exact⟨ac,ac,k1,k2,ac,md⟩
  .exact fin T tk
theorem near_8 (rp:dQ p)(hn:p.length=n+1)(N:NrD n a0 a1 a2 a3 a4 a5 a6 y zs)(hu: ∀j,(u j).natAbs<=2^20)(m1:1<=m)(m2:m<=2^20){q0 r0 q1 r1:Int}(q01:1<=q0)(q02:q0<=2^30)(q11:1<=q1)(q12:q1<=2^30)(h: ∀T,sJ 600 n T->Q (.pu<|.tup<|tbF n n T)) :
  b68 {Q with} (nrE p c q n (nrL a0 a1 a2 a3 a4 a5 a6 y zs) u m (↑[knD n q0 r0,knD n q1 r1]) s8 s9 s10 s11 s12 s13):=by
 have n2:2<=n:=by have:=rp.ok.lo;lia
 have n4:n<=4:=by have:=rp.ok.hi;lia
 have i0:atI (nrL a0 a1 a2 a3 a4 a5 a6 y zs) 0=some (.int a0):=wO 0 ac
 have j0:atI [knD n q0 r0,knD n q1 r1] 0=some (knD n q0 r0):=bP (j:=0) rfl;have j1:atI [knD n q0 r0,knD n q1 r1] 1=some (knD n q1 r1):=bP (j:=1) rfl;have t0:=dN4 (n:=n) (r:=r0) q01 q02;have t1:=dN4 (n:=n) (r:=r1) q11 q12;have e0:knD n q0 r0= .tup (tbF n n<|clT n<|knT q0 r0):=by unfold knD;rw[cU9]
 have e1:knD n q1 r1= .tup (tbF n n<|clT n<|knT q1 r1):=by unfold knD;rw[cU9]
 have f10:=λT tk=>e14 (T:=T) (c:=c) (q:=q) (s7:=some (.ow [knD n q0 r0,knD n q1 r1])) (s8:=s8) (s9:=s9) (s10:=s10) (s11:=s11) (s13:=s13) rp hn N tk hu m1 m2 h
 unfold nrE at f10⊢;unfold b68;rw[aM];left;rw[j0];right;unfold c14;rw[aM];left;rw[i0,j0,j1];right;split
 .refine⟨p,n,clT n<|knT q0 r0,clT n<|knT q1 r1,by rw[<-e0,<-e1],rp,hn,t0.bd,t1.bd,λi hi j hj=>t0.zero i hi j ad,λi hi j hj=>t1.zero i hi j ad,t0.pos 0 ad,t1.pos 0 ad,f10⟩
 .have:=f10 _ t0.up;rw[<-e0]at this;exact this
theorem near_7 (rp:dQ p)(hn:p.length=n+1)(N:NrD n a0 a1 a2 a3 a4 a5 a6 y zs)(hu: ∀j,(u j).natAbs<=2^20)(m1:1<=m)(m2:m<=2^20){q0 r0 q1 r1:Int}(q01:1<=q0)(q02:q0<=2^30)(q11:1<=q1)(q12:q1<=2^30)(h: ∀T,sJ 600 n T->Q (.pu<|.tup<|tbF n n T)) :
  b69 {Q with} (nrE p c q n (nrL a0 a1 a2 a3 a4 a5 a6 y zs) u m (↑[knD n q0 r0,knD n q1 r1]) s8 s9 s10 s11 s12 s13):=by
 have n2:2<=n:=by have:=rp.ok.lo;lia
 have n4:n<=4:=by have:=rp.ok.hi;lia
 have i0:atI (nrL a0 a1 a2 a3 a4 a5 a6 y zs) 0=some (.int a0):=wO 0 ac
 have f8:=λm m1 m2=>near_8 (m:=m) (r0:=r0) (r1:=r1) (c:=c) (q:=q) (s8:=s8) (s9:=s9) (s10:=s10) (s11:=s11) (s12:=s12) (s13:=s13) rp hn N hu m1 m2 q01 q02 q11 q12 h
 unfold nrE at f8⊢;unfold b69;rw[aM];left;rw[i0];right;split
 .refine⟨p,n,20,u,rfl,rp,hn,ac,hu,?_⟩
  try right
  refine⟨tbL n<|itT p n u,by rw[b00],bL7 (e:=56) ad n4 ac λi j hi=>aJ (rD (n:=n) rp.ok.small hu i j) (eQ ac ad),?_⟩
  try right
  refine⟨_,_,rfl,?_⟩
  have d:((Int.gcd (nL 4<|tbL n<|itT p n u) 360360:Nat):Int)∣360360:=aR0 _ _;have d1:((Int.gcd (nL 4<|tbL n<|itT p n u) 360360:Nat):Int)≠0:=λz=>by
   rw[z]at d;exact absurd (Int.zero_dvd.mp d) ac
  exact f8 _ ad (qR (uH ac d) ac)
 .exact f8 m m1 m2
theorem near_6 (rp:dQ p)(hn:p.length=n+1)(N:NrD n a0 a1 a2 a3 a4 a5 a6 y zs)(hu: ∀j,(u j).natAbs<=2^20)(m1:1<=m)(m2:m<=2^20)(h: ∀T,sJ 600 n T->Q (.pu<|.tup<|tbF n n T)) :
  b70 {Q with} (nrE p c q n (nrL a0 a1 a2 a3 a4 a5 a6 y zs) u m (↑[]) s8 s9 s10 s11 s12 s13):=by
 have n2:2<=n:=by have:=rp.ok.lo;lia
 have n4:n<=4:=by have:=rp.ok.hi;lia
 have b2:=N.b2;have i2:atI (nrL a0 a1 a2 a3 a4 a5 a6 y zs) 2=some (.int a2):=wO 2 ac
 unfold b70;rw[aM];refine bB 2 (λi=> .int (0+(i:Int))) (nrE p c q n (nrL a0 a1 a2 a3 a4 a5 a6 y zs) u m (↑[]) s8 s9 s10 s11 s12 s13) (λQ' q=> ?_)
  (λk ρ=> ∃s8 s9 s10 s11 l,ρ=nrE p c q n (nrL a0 a1 a2 a3 a4 a5 a6 y zs) u m (↑l) s8 s9 s10 s11 s12 s13/\l.length=k/\ ∀d∈l,∃q r:Int,d=knD n q r/\1<=q/\q<=2^30) ⟨s8,s9,s10,s11,[],rfl,rfl,ae⟩ ?_ ?_
 .left
  refine⟨⟨ac,ac⟩,q⟩
 .rintro k ρ hk ⟨s8,s9,s10,s11,l,rfl,hl,hd⟩;obtain⟨v5,j5,v51,v52⟩: ∃v,atI (nrL a0 a1 a2 a3 a4 a5 a6 y zs) (5+(0+(k:Int)))=some (.int v)/\0<=v/\v<99:=by
   rcases(show k=0\/k=1 by lia)with rfl|rfl
   .exact⟨a5,wO 5 ac,N.b5⟩
   .exact⟨a6,wO 6 ac,N.b6⟩
  obtain⟨v3,j3,v31,v32⟩: ∃v,atI (nrL a0 a1 a2 a3 a4 a5 a6 y zs) (3+(0+(k:Int)))=some (.int v)/\0<=v/\v<99:=by
   rcases(show k=0\/k=1 by lia)with rfl|rfl
   .exact⟨a3,wO 3 ac,N.b3⟩
   .exact⟨a4,wO 4 ac,N.b4⟩
  obtain⟨w,jw,w1,w2⟩: ∃w,atI [D.int 2520,.int<|1+v3] (a2%2)=some (.int w)/\1<=w/\w<=2520:=by
   rcases(show a2%2=0\/a2%2=1 by lia)with e|e<;>rw[e]
   .exact⟨2520,bP (j:=0) rfl,ac,ac⟩
   .exact⟨1+v3,bP (j:=1) rfl,ad,ad⟩
  refine⟨by unfold nrE;simp,?_⟩
  show aF9 _ (nrE p c q n (nrL a0 a1 a2 a3 a4 a5 a6 y zs) u m (↑l) (!(0+(k:Int))) s9 s10 s11 s12 s13)
  unfold nrE;unfold aF9;rw[aM];left;rw[j5];right;unfold bA9;rw[aM];left;rw[j3];right;rw[i2];right;rw[cM _ ac,jw]
  refine⟨ac,ac,?_⟩
  right;unfold bA8;rw[aM];left;refine⟨n+1,9,6,λj=>p.getD j 0,v5-49,by rw[<-hn,<-aS6],⟨λj=>aJ (eX rp.ok.small j) ac,show(v5-49).natAbs<=64 by lia,ad,ac,ad⟩,?_⟩
  try right
  refine⟨_,w,rfl,?_⟩
  generalize hg:((Int.gcd (ps (λj=>p.getD j 0) (v5-49)<|n+1) w:Nat):Int)=g
  have d:g∣w:=by rw[<-hg];exact aR0 _ _
  have d0:0<=g:=by rw[<-hg];exact Int.natCast_nonneg _
  have d1:g≠0:=λz=>by
   rw[z]at d;have:=Int.zero_dvd.mp d
   lia
  have d2:=uH ad d
  try right
  unfold bA7;left;refine⟨n,g,v5-49,rfl,ad,n4,ad,show(v5-49).natAbs<=1073741824 by lia,?_⟩
  refine⟨b9 (show l.length<10 by lia) ac,_,_,_,_,_,rfl,by rw[bV,hl];rfl,λd hd'=> ?_⟩
  rcases dI.mp hd' with z|z
  .exact hd d z
  .exact⟨g,v5-49,cR.mp z,ad,ad⟩
 .rintro ρ ⟨s8,s9,s10,s11,l,rfl,hl,hd⟩
  match l,hl with
  | [d0,d1],_=>
   obtain⟨q0,r0,rfl,q01,q02⟩:=hd d0 ae
   obtain⟨q1,r1,rfl,q11,q12⟩:=hd d1 ae
   exact near_7 rp hn N hu m1 m2 q01 q02 q11 q12 h
theorem near_4 (rp:dQ p)(hn:p.length=n+1)(N:NrD n a0 a1 a2 a3 a4 a5 a6 y zs)(hu: ∀j,(u j).natAbs<=2^20)(h: ∀T,sJ 600 n T->Q (.pu<|.tup<|tbF n n T)) :
  b71 {Q with} [~~~aI p,!c,!q,!(n:Int),↑(nrL a0 a1 a2 a3 a4 a5 a6 y zs),~~~aI (rwF n u),none,none,none,none,none,none,none,none]:=by
 have b3:=N.b3;have i3:atI (nrL a0 a1 a2 a3 a4 a5 a6 y zs) 3=some (.int a3):=wO 3 ac
 unfold b71;rw[aM];left;rw[i3];right;unfold c15;rw[aM];left;exact⟨ac,near_6 (m:=1+a3) rp hn N hu ad ad h⟩
end
theorem e15: Ra c96 c97 ["p","c","q","n","f","x","m","s","k","r","o","a","t","e"]:=by
 rintro ds Q ⟨p,n,c,q,rfl,rp,hn,hq,h⟩;have lo:=rp.ok.lo;have hi:=rp.ok.hi;have n2:2<=n:=ad
 have n4:n<=4:=ad
 unfold c97;show(aS _ _:US) _ [~~~.tup (p.map .int),!c,!q,none,none,none,none,none,none,none,none,none,none,none];rw[aM];left;rw[aG,show(p.length:Int)-1=(n:Int)by lia]
 change b74 _ [~~~aI p,!c,!q,!(n:Int),none,none,none,none,none,none,none,none,none,none]
 unfold b74;rw[aM];left;rw[cD,sC,aG,nR];refine⟨ac,ac,⟨ad,ad,aJ (show(0+1)*n<=10 by lia) ac⟩,aJ (show 0+1+1+1+1+1+1+1+n<=20 by lia) ac,c,nrW n,q,by unfold nrW;rw[bX];rfl,by unfold nrW;simp;lia,hq,λw hw=> ?_,λxs hx=> ?_⟩
 .unfold nrW at hw;rcases dI.mp hw with z|z
  .clear hw
   revert w
   decide
  .rw[(List.mem_replicate.mp z).2]
   decide
 obtain⟨a0,a1,a2,a3,a4,a5,a6,y,zs,rfl,N⟩:=nr_of ad hx
 obtain⟨g,eg,gb⟩: ∃g:∅,y::zs=rwF n g/\ ∀j,(g j).natAbs<=2^8:=dN8 (by rw[cY];exact N.lz) λx hx=>by
  have:=N.by'
  rcases aZ.mp hx with rfl|z
  .show x.natAbs<=256
   lia
  .have:=N.bz x z;show x.natAbs<=256
   lia
 have d7:cutD (nrL a0 a1 a2 a3 a4 a5 a6 y zs) (some 7) none=(rwF n g).map .int:=by
  rw[show(7:Int)=((7:Nat):Int)from rfl,aX7 _ 7 (by unfold nrL;simp),<-eg]
  rfl
 have i0:atI (nrL a0 a1 a2 a3 a4 a5 a6 y zs) 0=some (.int a0):=wO 0 ac
 have i7:atI (nrL a0 a1 a2 a3 a4 a5 a6 y zs) 7=some (.int y):=wO 7 ac
 show b73 _ [~~~aI p,!c,!q,!(n:Int),↑(nrL a0 a1 a2 a3 a4 a5 a6 y zs),none,none,none,none,none,none,none,none,none]
 unfold b73;rw[aM,iP,dG,d4]
 refine dC (t0:=0) n (λk=>((rwF n g).map D.int).getD k .non) [~~~aI p,!c,!q,!(n:Int),↑(nrL a0 a1 a2 a3 a4 a5 a6 y zs),none,none,none,none,none,none,none,none,none] (λQ' q=> ?_) ad (λx l'=>[x,↑l']) none rfl (λ_ _ _=>rfl) (λ_ _=>bW _) (λ_ _ _ q=>q) (λ_ _ _=>rfl) (λk=> .int (g k-99)) ?_ ?_
 .left
  rw[d7,bE];exact q
 .intro k l' Q' hk q';rw[iK hk]at q'⊢;left;exact q'
 rw[kX];show b72 _ [~~~aI p,!c,!q,!(n:Int),↑(nrL a0 a1 a2 a3 a4 a5 a6 y zs),some<|.pu<|aI<|rwF n λj=>g j-99,none,none,none,none,none,none,none,none]
 have go: ∀u:∅,(∀j,(u j).natAbs<=2^20)->_:=λu hu=>near_4 (c:=c) (q:=q) rp hn N hu h
 have lz:=N.lz;obtain⟨v,ev,vb⟩: ∃v:∅,(1+y%2)::(rwF zs.length λk=>zs.getD k 0%5-2)=rwF n v/\ ∀j,(v j).natAbs<=2^20:=dN8 (by rw[cY,wG];exact lz) λx hx=>by
  rcases aZ.mp hx with rfl|z
  .show(1+y%2).natAbs<=1048576
   lia
  .obtain⟨k,_,rfl⟩:=dL.mp z;show(zs.getD k 0%5-2).natAbs<=1048576
   lia
 have d8:cutD (nrL a0 a1 a2 a3 a4 a5 a6 y zs) (some 8) none=zs.map .int:=by
  rw[show(8:Int)=((8:Nat):Int)from rfl,aX7 _ 8 (by unfold nrL;simp)]
  rfl
 have alt: ∀E:UD,(E.nx [~~~aI p,!c,!q,!(n:Int),↑(nrL a0 a1 a2 a3 a4 a5 a6 y zs),~~~aI (rwF n v),none,none,none,none,none,none,none,none])->(bF 5<|aQ cF<|a8 (uOp eV (gA<|a8 (uOp eV @1<|uOp jX (uIx (aT 4)<|@7)<|@2) aN)<|dF [] [none,none] 1 (dW<|uSl (aT 4) (lY<|@8) j4) (bO 0) (λρ Q=>Q true ρ)<|uOp M.gSub (uOp jX (aC 0)<|@5)<|@2) aN) E [~~~aI p,!c,!q,!(n:Int),↑(nrL a0 a1 a2 a3 a4 a5 a6 y zs),some<|.pu<|aI<|rwF n λj=>g j-99,none,none,none,none,none,none,none,none]:=λE hE=>by
  rw[iP,dG,d4,aD2];left;rw[i7];right;rw[cM _ ac]
  refine⟨ac,ac,?_⟩
  refine dC (t0:=0) zs.length (λk=>(zs.map D.int).getD k .non) [~~~aI p,!c,!q,!(n:Int),↑(nrL a0 a1 a2 a3 a4 a5 a6 y zs),some<|.pu<|aI<|rwF n λj=>g j-99,none,none,none,none,none,none,none,none] (λQ' q=> ?_) ad (λx l'=>[x,↑l']) none rfl (λ_ _ _=>rfl) (λ_ _=>bW _) (λ_ _ _ q=>q) (λ_ _ _=>rfl) (λk=> .int (zs.getD k 0%5-2)) ?_ ?_
  .left
   rw[d8,aG];exact q
  .intro k l' Q' hk q';have ek:(zs.map D.int).getD k .non= .int (zs.getD k 0):=by
    rw[aR,bJ,aU hk,aR,aU hk];rfl
   rw[ek]at q'⊢;left;rw[cM _ ac]
   exact⟨ac,q'⟩
  rw[kX];left;rw[bE];refine⟨aJ (show 0+1+zs.length<=10 by lia) ac,?_⟩
  have e:[D.int<|1+y%2]++(rwF zs.length λk=>zs.getD k 0%5-2).map D.int=(rwF n v).map .int:=by rw[<-ev];rfl
  rw[e];exact hE
 have orr: ∀K:Bool->Ev->Prop,K true [~~~aI p,!c,!q,!(n:Int),↑(nrL a0 a1 a2 a3 a4 a5 a6 y zs),some<|.pu<|aI<|rwF n λj=>g j-99,none,none,none,none,none,none,none,none]->K false [~~~aI p,!c,!q,!(n:Int),↑(nrL a0 a1 a2 a3 a4 a5 a6 y zs),some<|.pu<|aI<|rwF n λj=>g j-99,none,none,none,none,none,none,none,none]->uOr (cQ<|uOp (gJ false) (uIx (aT 4)<|@0)<|@3) (cQ<|uOp (c56 false) (aC 5)<|aQ cF<|a8 (uOp fG (gA<|a8 @0 aN)<|aC 3) aN) [~~~aI p,!c,!q,!(n:Int),↑(nrL a0 a1 a2 a3 a4 a5 a6 y zs),some<|.pu<|aI<|rwF n λj=>g j-99,none,none,none,none,none,none,none,none] K:=λK k1 k0=>by
  left
  rw[i0];right;split
  .exact k1
  .rw[cD,aJ6];refine⟨ac,⟨ad,ad,aJ (show(0+1)*n<=10 by lia) ac⟩,?_⟩
   refine cG0 (a:=rwF n λj=>g j-99) (b:=rwF n λ_=>0) ?_
   right;cases (false ^^ decide ((rwF n λj=>g j-99)=rwF n λ_=>0))with
   | true=>exact k1
   | false=>exact k0
 unfold b72;rw[aM,aJ4];refine orr _ ?_ ?_
 .rw[a9 rfl];exact alt _ (go v vb)
 .rw[a7 ac]
  exact go _ λj=>by
   have:=gb j;show(g j-99).natAbs<=1048576;have:(g j).natAbs<=256:=this
   lia
theorem bN7: ∀t:List (List Int),pdL (t.map aI)=some (t.map λr=>PyData.tuple (r.map .int))
 | []=>by simp[pdL]
 | r::t=>by simp[pdL,cT1,bN7 t]
theorem cJ3: ∀t:List (List Int),PyData.depthAll (t.map λr=>PyData.tuple (r.map .int))<=1
 | []=>by simp[PyData.depthAll]
 | r::t=>by
  have:=cJ3 t;simp[PyData.depthAll,PyData.depth,bJ6]
  lia
theorem cJ4: ∀t:List (List Int),PyData.eqvAll (t.map λr=>PyData.tuple (r.map .int)) (t.map λr=>PyData.tuple (r.map .int))=true
 | []=>by simp[PyData.eqvAll]
 | r::t=>by
  have e:=d01 r r;rw[kO rfl]at e;simp only[bY,PyData.eqvAll,e,cJ4 t,Bool.and_self]
theorem c16 {neg:Bool}{t:List (List Int)}{Q:B->Prop}(h:Q (.pu<|.bl<|neg ^^ true)):c56 neg (.lst<|t.map aI) (.lst<|t.map aI) Q:=by
 refine⟨.list<|t.map λr=>PyData.tuple (r.map .int),.list<|t.map λr=>PyData.tuple (r.map .int),by simp[pd,bN7],by simp[pd,bN7],?_,?_⟩
 .have:=cJ3 t;simp[PyData.depth]
  lia
 .simp only[PyData.eqv];rw[cJ4];exact h
def c17:US:=(cW<|uOp (c56 false) (aQ a61<|a8 (aC 1)<|a8 (aC 4)<|a8 (aC 7)<|a8 (aC 8) aN)<|aC 10)
def c18:US:=(aS (uIns 11<|uOp bX6 (iR<|a8 @1 aN)<|aC 3) c17)
def b75:US:=(aS (aK9 11<|uOp bX6 (iR<|a8 @0 aN)<|aC 3) c18)
def c19:US:=(aS (fS (aL9<|b34 (cQ<|uOp (gJ false) (aC 3)<|@4)<|b34 (cQ<|uOp (gJ false) (aC 7)<|@2)<|cQ<|uOp (oX λi j=>decide (i<j)) (aQ a63<|a8 (aC 4) aN)<|@16) (cW<|uC<|.bl true) dD) b75)
def c20:US:=(aS (fS (aL9<|cQ<|uOp (c56 true) (aC 11)<|aC 10) (cW<|uC<|.bl false) dD) c19)
def b76:US:=(aS (fS (aL9<|uOr (c46<|cQ<|aQ cQ4<|a8 (aC 11)<|a8 (uC<|.ty "list") aN)<|c46<|cQ<|aQ cD6<|a8 (dF [3] [none,some 3,none] 2 (dW<|aC 11) (bO 0) (λρ Q=>Q true ρ)<|aQ cU3<|a8 (aC 0)<|a8 (aC 1) aN) aN) (cW<|uC<|.bl false) dD) c20)
def b77:US:=(aS (bF 11<|aQ a61<|a8 (aC 1)<|a8 (aC 4)<|a8 (aC 7)<|a8 (aC 8) aN) b76)
def b78:US:=(aS (bF 10<|dF [2,8] [none,some 2,some 8,none] 3 (dW<|aC 9) (bO 0) (cQ<|uOp (gJ false) (aQ bB6<|a8 (aQ (kW 4)<|a8 (aQ yZ<|a8 (aC 1)<|a8 (aC 0) aN) aN) aN)<|aC 2)<|aC 0) b77)
def b79:US:=(aS (fS (aL9<|b34 (cQ<|uOp (oX λi j=>decide (j<i)) (uIx (aT 5)<|@2)<|@2)<|cQ<|uOp (oX λi j=>decide (j<=i)) (aC 7)<|@0) (bF 8<|aQ bB6<|a8 (aQ (kW 4)<|a8 (aQ yZ<|a8 (aC 2)<|a8 (uIx (aT 9)<|uOp jX (uIx (aT 5)<|@3)<|kF<|aT 9) aN) aN) aN) dD) b78)
def bN8:US:=(aS (bF 9<|dF [4] [none,some 4,none] 2 (dW<|aQ cV2<|a8 (aC 3)<|a8 (aC 7) aN) (bO 0) (cQ<|aQ dN5<|a8 (aC 1)<|a8 (aC 0) aN)<|aC 0) b79)
def bN9:US:=(aS (fS (aL9<|cQ<|uOp (oX λi j=>decide (j<i)) (aC 7)<|uIx (uV<|gA<|a8 @9<|a8 @3<|a8 @2 aN)<|uOp M.gSub (aC 3)<|@2) (cW<|aQ aU1<|a8 (aC 1)<|a8 (aC 4)<|a8 (aC 7)<|a8 (aC 8) aN) dD) bN8)
def cJ5:US:=(aS (bF 8<|uOp fG (aC 6)<|aQ b39<|a8 (uOp (oX λi j=>decide (j<i)) (uIx (aT 5)<|@2)<|@0) aN) bN9)
def cJ6:US:=(aS (bF 7<|aQ bN1<|a8 (aC 3)<|a8 (aC 5)<|a8 (aC 6)<|a8 (aQ a63<|a8 (aC 4) aN) aN) cJ5)
def cJ7:US:=(aS (bF 6<|aQ cS8<|a8 (aQ a44<|a8 (aC 0)<|a8 @5 aN)<|a8 @3<|a8 (uOp cD1 @10<|@20)<|a8 @999999883 aN) cJ6)
def cJ8:US:=(aS (bF 5<|aQ nK<|a8 (aQ a44<|a8 (aC 0)<|a8 @4 aN)<|a8 (gA<|a8 @8<|a8 @60<|a8 @8<|a8 (uOp cD1 @10<|@6)<|a8 @32 aN)<|a8 @999999893 aN) cJ7)
def bO0:US:=(aS (bF 4<|aQ c96<|a8 (aC 2)<|a8 (aQ a44<|a8 (aC 0)<|a8 @3 aN)<|a8 @999999929 aN) cJ8)
def cJ9:US:=(aS (bF 3<|uOp M.gSub (kF<|aT 2)<|@1) bO0)
def cK0:US:=(aS (bF 2<|b48 "poly"<|aC 1) cJ9)
def c98:US:=(aS (bF 1<|aQ c87<|a8 (aC 0)<|a8 @0<|a8 @999999937 aN) cK0)
theorem c21 {n:Nat}{t:Nat->∅}: ∀k,j7 t k (λ_=>0)=λ_=>0
 | 0=>rfl
 | k+1=>by
  show j7 t k (jP t k λ_=>0)=_
  have:jP t k (λ_=>0)=λ_=>0:=funext λj=>by
   show(0:Int)-0/t k k*t k j=0
   simp
  rw[this];exact c21 (n:=n) k
theorem dN9 (h:0<=r):(0:Int)∈csI r:=by
 refine dL.mpr ⟨r.toNat,eI.mpr ad,ad⟩
theorem c22 {r:Int}(h:0<=r): ∀n,replicate n 0∈eE r n
 | 0=>cR.mpr rfl
 | n+1=>aR4.mpr ⟨_,c22 h n,dL.mpr ⟨0,dN9 h,by rw[List.replicate_succ']⟩⟩
theorem d81 (n:Nat)(t:Nat->∅):aF6 n t (replicate n 0)=true:=by
 unfold aF6;have e:(λj=>(replicate n (0:Int)).getD j 0)=λ_=>0:=funext λj=>by
  rw[aR,zW];split<;>rfl
 rw[e,c21 (n:=n)];unfold bA4 rwF;simp
nonrec def iL (n:Nat)(t:Nat->∅)(r:Int):List (List Int):=(eE r n).filter (aF6 n t)
theorem dO0 (p:List Int)(n:Nat)(t:Nat->∅)(r m:Int):(iL n t r).filter (cU6 p n m)=bT2 p n t r m:=by
 unfold iL bT2;rw[List.filter_filter]
 congr 1
 funext x
 rw[Bool.and_comm]
section
variable {ns:List Int}{C:Addr}{p:List Int}{n:Nat}{t:Nat->∅}{w:List Int}{f r m:Int}{s9 s10 s11:Option B}{Q:B->Prop}
nonrec def lwE (ns:List Int)(C:Addr)(p:List Int)(n:Nat)(t:Nat->∅)(w:List Int)(f r m:Int)(s9 s10 s11:Option B):Ev:=[~~~.rol (ns.map .int),~~~j9 C p,~~~aI p,!(n:Int),~~~.tup (tbF n n t),~~~.lst (w.map .int),!f,!r,!m,s9,s10,s11]
theorem law_16 (rp:dQ p)(hn:p.length=n+1)(tk:sJ 600 n t)(hr:r<=mF n)(h:Q (.pu<|.bl true)) :
  b75 {Q with} (lwE ns C p n t w f r m s9 (↑((bT2 p n t r m).map aI))<|↑((bT2 p n t r m).map aI)):=by
 have n2:2<=n:=by have:=rp.ok.lo;lia
 have n4:n<=4:=by have:=rp.ok.hi;lia
 have k1:=(bM4 n2 n4 hr).1;have kb:(bT2 p n t r m).length<=1000:=aJ (a01 _ _) k1;unfold lwE;unfold b75;rw[aM];left;refine⟨ac,⟨ae,ad,ad,aJ (show(0+1)*n<=10 by lia) ac⟩,?_,?_⟩
 .rw[aG];exact iC kb ac
 unfold c18;rw[aM];left;refine⟨ac,⟨ae,ad,ad,aJ (show(0+1)*n<=10 by lia) ac⟩,?_,?_⟩
 .rw[bV,aG];exact iC (Nat.add_le_add_right kb 1) ac
 unfold c17;left;refine⟨C,p,n,t,r,m,rfl,rp,hn,tk,hr,?_⟩;try right
 exact c16 h
theorem dO1 {l:List D}{G:UT}{K:Bool->Ev->Prop}(e:ρ[11]? =some (↑l))(h:G (ρ.set 11<|~~~.lst l) λb _=>K b ρ):aL9 (uOr (c46<|cQ<|aQ cQ4<|a8 (aC 11)<|a8 (uC<|.ty "list") aN) G) ρ K:=by
 have v: ∀Q':B->Ev->Prop,aC 11 ρ Q'=Q' (.pu<|.lst l) (ρ.set 11<|~~~.lst l):=λQ'=>by
  unfold aC aB2;rw[e]
 unfold aL9 uOr c46;rw[aX9,dG,d4,v];left;exact h
theorem law_13 (rp:dQ p)(hn:p.length=n+1)(tk:sJ 600 n t)(hr:r<=mF n)(h:Q (.pu<|.bl true)) :
  b76 {Q with} (lwE ns C p n t w f r m s9 (↑((bT2 p n t r m).map aI))<|↑((bT2 p n t r m).map aI)):=by
 have n2:2<=n:=by have:=rp.ok.lo;lia
 have n4:n<=4:=by have:=rp.ok.hi;lia
 have k1:=(bM4 n2 n4 hr).1;have f16:=law_16 (ns:=ns) (C:=C) (w:=w) (f:=f) (m:=m) (s9:=s9) rp hn tk hr h;obtain⟨L,eL⟩: ∃L,L=bT2 p n t r m:=⟨_,rfl⟩;rw[<-eL]at f16⊢;have kb:L.length<=1000:=by rw[eL];exact aJ (a01 _ _) k1
 have lm: ∀x∈L,x.length=n:=λx hx=>by
  rw[eL]at hx;exact(aF5 (qL.mp hx).1).1
 clear eL;unfold lwE at f16⊢;unfold b76;rw[aM,aJ4];refine dO1 rfl ?_;unfold c46;rw[aX9,dG,d4]
 refine dC (t0:=0) L.length (λk=>(L.map aI).getD k .non) [~~~.rol (ns.map .int),~~~j9 C p,~~~aI p,!(n:Int),~~~.tup (tbF n n t),~~~.lst (w.map .int),!f,!r,!m,s9,↑(L.map aI),~~~.lst (L.map aI)] (λQ' q=> ?_) ad (λx l'=>[x,!(n:Int),↑l']) none rfl (λ_ _ _=>rfl) (λ_ _=>bW _) (λ_ _ _ q=>q) (λ_ _ _=>rfl) (λ_=> .bl true) ?_ ?_
 .left
  rw[aG];exact q
 .intro k l' Q' hk q';obtain⟨a,b⟩:=rE L hk;rw[a]at q'⊢;left;exact⟨L.getD k [],by rw[lm _ b],by rw[lm _ b];lia,q'⟩
 rw[show(List.range L.length).map (λ_=>D.bl true)=((List.range L.length).map λ_=>true).map D.bl by rw[gH];rfl]
 left
 rw[uX];right;rw[show((List.range L.length).map λ_=>true).all id=true by rw[a31];simp]
 left
 unfold c20;rw[aM,aJ4];unfold aL9;rw[aX9,aD2];left;refine c16 ?_;left;unfold c19;rw[aM];left;split
 .split
  .refine⟨n,t,rfl,n4,tk.bd,λz=> ?_⟩
   left
   split
   .exact h
   .exact f16
  .exact f16
 .exact f16
theorem law_11 (rp:dQ p)(hn:p.length=n+1)(tk:sJ 600 n t)(hr:r<=mF n)(h:Q (.pu<|.bl true)) :
  b78 {Q with} (lwE ns C p n t w f r m (↑((iL n t r).map aI)) s10 s11):=by
 have n2:2<=n:=by have:=rp.ok.lo;lia
 have n4:n<=4:=by have:=rp.ok.hi;lia
 have k1:=(bM4 n2 n4 hr).1;have kb:(iL n t r).length<=1000:=aJ (a01 _ _) k1;have r9:r<=9:=by
  have:=(a62 rp hn).2.1
  lia
 have rg: ∀k,k< (iL n t r).length->((iL n t r).map aI).getD k .non=aI ((iL n t r).getD k [])/\(iL n t r).getD k []=rwF n (λj=>((iL n t r).getD k []).getD j 0)/\ ∀j,(((iL n t r).getD k []).getD j 0).natAbs<=2^4:=λk hk=>by
  obtain⟨a,b⟩:=rE (iL n t r) hk;exact⟨a,aZ6 r9 (qL.mp b).1⟩
 unfold lwE;unfold b78;rw[aM,iP]
 refine a52 (t0:=0) (iL n t r).length (λk=>((iL n t r).map aI).getD k .non) (lwE ns C p n t w f r m (~~~.lst ((iL n t r).map aI)) s10 s11) (λQ' q=> ?_) kb (λx l=>[x,~~~aI p,!m,↑l]) none rfl (λ_ _ _=>rfl) (λ_ _=>bW _) (λ_ _ _ q=>q) (λ_ _ _=>rfl) (λk=>cU6 p n m ((iL n t r).getD k [])) (λk=>aI ((iL n t r).getD k [])) ?_ ?_ ?_
 .left
  rw[aG];exact q
 .intro k l Q' hk q;obtain⟨a1,a2,a3⟩:=rg k hk;rw[a1]at q⊢;generalize (iL n t r).getD k []=x at *;left;refine⟨p,n,4,λj=>x.getD j 0,by rw[<-a2],rp,hn,ac,a3,?_⟩
  try right
  refine⟨tbL n<|itT p n λj=>x.getD j 0,by rw[b00],bL7 (e:=40) ad n4 ac λi j hi=>aJ (rD (n:=n) rp.ok.small a3 i j) (eQ ac ad),?_⟩
  left
  rw[absK];exact q
 .intro k l Q' hk q;rw[(rg k hk).1]at q⊢;left;exact q
 .rw[bM3 (iL n t r) (cU6 p n m) aI,dO0];show b77 _ (lwE ns C p n t w f r m (~~~.lst ((iL n t r).map aI)) (↑((bT2 p n t r m).map aI)) s11);unfold lwE;unfold b77;rw[aM];left;exact⟨C,p,n,t,r,m,rfl,rp,hn,tk,hr,law_13 rp hn tk hr h⟩
theorem law_9 (rp:dQ p)(hn:p.length=n+1)(tk:sJ 600 n t)(bw:Below w [8,60,8,1000000,32])(hr:r<=mF n)(h:Q (.pu<|.bl true)) :
  bN8 {Q with} (lwE ns C p n t w f r m s9 s10 s11):=by
 have n2:2<=n:=by have:=rp.ok.lo;lia
 have n4:n<=4:=by have:=rp.ok.hi;lia
 obtain⟨k1,k19⟩:=bM4 n2 n4 hr;have r9:r<=9:=by
  have:=(a62 rp hn).2.1
  lia
 have rg: ∀k,k< (eE r n).length->((eE r n).map aI).getD k .non=aI ((eE r n).getD k [])/\(eE r n).getD k []=rwF n (λj=>((eE r n).getD k []).getD j 0)/\ ∀j,(((eE r n).getD k []).getD j 0).natAbs<=2^4:=λk hk=>by
  obtain⟨a,b⟩:=rE (eE r n) hk;exact⟨a,aZ6 r9 b⟩
 obtain⟨w0,w1,w2,w3,w4,rfl⟩: ∃w0 w1 w2 w3 w4,w=[w0,w1,w2,w3,w4]:=by
  match w,bw.1 with
  | [w0,w1,w2,w3,w4],_=>exact⟨w0,w1,w2,w3,w4,rfl⟩
 have b3:=bw.2 3 w3 1000000 rfl rfl;have f11:=λm=>law_11 (ns:=ns) (C:=C) (w:=[w0,w1,w2,w3,w4]) (f:=f) (m:=m) (s10:=s10) (s11:=s11) rp hn tk hr h
 have i2:atI [D.int w0,.int w1,.int w2,.int w3,.int w4] 2=some (.int w2):=bP (j:=2) rfl;have i3:atI [D.int w0,.int w1,.int w2,.int w3,.int w4] 3=some (.int w3):=bP (j:=3) rfl;unfold bN8;rw[aM,iP]
 refine a52 (t0:=0) (eE r n).length (λk=>((eE r n).map aI).getD k .non) (lwE ns C p n t [w0,w1,w2,w3,w4] f r m s9 s10 s11) (λQ' q=> ?_) k1 (λx l=>[x,~~~.tup (tbF n n t),↑l]) none rfl (λ_ _ _=>rfl) (λ_ _=>bW _) (λ_ _ _ q=>q) (λ_ _ _=>rfl) (λk=>aF6 n t ((eE r n).getD k [])) (λk=>aI ((eE r n).getD k [])) ?_ ?_ ?_
 .unfold lwE at q⊢;unfold dW;rw[dG,d4];left;refine⟨r,n,rfl,k19,n4,λb hb=> ?_⟩
  rcases hb with rfl|rfl
  .left
   rw[aG];exact q
  .left
   rw[aG];exact q
 .intro k l Q' hk q;obtain⟨a1,a2,a3⟩:=rg k hk;rw[a1]at q⊢;generalize (eE r n).getD k []=x at *;left;refine⟨n,t,λj=>x.getD j 0,by rw[<-a2],n4,tk,λj=>aJ (a3 j) (eQ ac ac),?_⟩
  try right
  exact q
 .intro k l Q' hk q;rw[(rg k hk).1]at q⊢;left;exact q
 rw[bM3 (eE r n) (aF6 n t) aI];show b79 _ (lwE ns C p n t [w0,w1,w2,w3,w4] f r m (↑((iL n t r).map aI)) s10 s11);unfold lwE at f11⊢;unfold b79;rw[aM];simp only[bY,fM]at f11⊢;left;rw[i2];right;split
 .split
  .rename_i r0
   rw[i3];right;have z0:replicate n 0∈iL n t r:=qL.mpr ⟨c22 r0 n,d81 n t⟩;have lp:0< (iL n t r).length:=List.length_pos_of_mem z0;obtain⟨k,hk,ek⟩: ∃k:Nat,k< (iL n t r).length/\w3.fmod ((iL n t r).length:Int)=(k:Int):=by
    rw[cM _ ad]
    have e1:=cT w3 (show((iL n t r).length:Int)≠0 by lia)
    have e2:=cX w3 (show(0:Int)< ((iL n t r).length:Int)by lia)
    exact⟨(w3%((iL n t r).length:Int)).toNat,ad,ad⟩
   rw[aG,ek];refine⟨ad,?_⟩
   obtain⟨a,b⟩:=rE (iL n t r) hk;obtain⟨a2,a3⟩:=aZ6 r9 (qL.mp b).1;rw[show atI ((iL n t r).map aI) (k:Int)=some (aI<|(iL n t r).getD k [])from bP (by rw[bJ,aU hk,aR,aU hk];rfl)]
   right;generalize (iL n t r).getD k []=x at *;refine⟨p,n,4,λj=>x.getD j 0,by rw[<-a2],rp,hn,ac,a3,?_⟩
   try right
   refine⟨tbL n<|itT p n λj=>x.getD j 0,by rw[b00],bL7 (e:=40) ad n4 ac λi j hi=>aJ (rD (n:=n) rp.ok.small a3 i j) (eQ ac ad),?_⟩
   try right
   exact f11 _
  .exact f11 m
 .exact f11 m
end
theorem rd_law: Ra bW7 c98 ["s","g","p","n","t","w","f","r","m","a","d","o"]:=by
 rintro ds Q ⟨ns,rfl,hl,h⟩;unfold c98;show(aS _ _:US) _ [~~~.rol (ns.map .int),none,none,none,none,none,none,none,none,none,none,none];rw[aM];left;refine⟨ns,0,999999937,rfl,hl,ac,ac,λC p rp=> ?_⟩
 try right
 have lo:=rp.ok.lo;have hi:=rp.ok.hi;obtain⟨n,hn⟩: ∃n,p.length=n+1:=⟨p.length-1,ad⟩
 have n2:2<=n:=ad
 have n4:n<=4:=ad
 unfold cK0;rw[aM,iP,bZ4 (C:=C) (p:=p) rfl];left;unfold cJ9;rw[aM];simp only[aI];left;rw[aG,show(p.length:Int)-1=(n:Int)by lia]
 change bO0 _ [~~~.rol (ns.map .int),~~~j9 C p,~~~aI p,!(n:Int),none,none,none,none,none,none,none,none]
 unfold bO0;rw[aM];left;refine⟨ns,3,rfl,hl,ac,ac,λc=> ?_⟩
 try right
 refine⟨p,n,c,999999929,rfl,rp,hn,ac,λt tk=> ?_⟩
 try right
 unfold cJ8;rw[aM];left;refine⟨ns,4,rfl,hl,ac,ac,λc2=> ?_⟩
 left
 refine⟨cpl ac ac ac,ac,c2,[8,60,8,1000000,32],999999893,rfl,ac,ac,ac,λw bw=> ?_⟩
 try right
 unfold cJ7;rw[aM];left;refine⟨ns,5,rfl,hl,ac,ac,λc3=> ?_⟩
 left
 refine⟨cpl ac ac ac,c3,3,100000000000000000000,999999883,rfl,ac,ac,ac,ac,λf f1 f2=> ?_⟩
 try right
 unfold cJ6;rw[aM];left;refine⟨n,t,rfl,n4,tk.bd,λz=> ?_⟩
 left
 refine⟨n,w,f,z,rfl,n2,n4,bw,λr=> ?_⟩
 try right
 have f9:=λm hr=>law_9 (ns:=ns) (C:=C) (t:=t) (w:=w) (f:=f) (r:=r) (m:=m) (s9:=none) (s10:=none) (s11:=none) rp hn tk bw hr h
 obtain⟨w0,w1,w2,w3,w4,rfl⟩: ∃w0 w1 w2 w3 w4,w=[w0,w1,w2,w3,w4]:=by
  clear f9
  match w,bw.1 with
  | [w0,w1,w2,w3,w4],_=>exact⟨w0,w1,w2,w3,w4,rfl⟩
 have i2:atI [D.int w0,.int w1,.int w2,.int w3,.int w4] 2=some (.int w2):=bP (j:=2) rfl;have mo:atI [D.int 9,.int 3,.int 2] ((n:Int)-2)=some (.int<|mF n):=by
  rcases(show n=2\/n=3\/n=4 by lia)with rfl|rfl|rfl
  .exact bP (j:=0) rfl
  .exact bP (j:=1) rfl
  .exact bP (j:=2) rfl
 have f8: ∀m:Int,bN9 {Q with} (lwE ns C p n t [w0,w1,w2,w3,w4] f r m none none none):=λm=>by
  have f9:=f9 m;unfold lwE at f9⊢;unfold bN9;rw[aM];left;refine⟨ac,?_⟩
  rw[mo];right
  by_cases c:mF n<r
  .rw[a9 c];exact⟨C,p,n,_,r,m,rfl,rp,hn,c,h⟩
  .rw[a7 c];exact f9 ad
 unfold lwE at f8;unfold cJ5;rw[aM];simp only[bY,fM]at f8⊢;left;rw[i2];right;refine⟨cmR ?_ ?_,f8 _⟩<;>split<;>decide
abbrev pR:=sX
abbrev pS:=sY
theorem aA7: Ra pR pS ["f","p","u","s","total","v","w"]:=bC2
theorem d82:bootBuiltins "sorted"=some (.builtin "sorted"):=af
end M
end
namespace M
set_option maxHeartbeats 4000000
def top (i:Nat):Stmt:=PySem.Challenge.pw_ringhouse_k50_boxed.main.body.getD i (.Pass ⟨0,0,0,0⟩)
abbrev bmV:List Value:=[.type "ValueError",.type "Exception",.type "BaseException",.type "object"]
abbrev vN:String:="ValueError.__new__"
def nk:NameKind->Bool
 | .local=>true
 | .cell=>true
 | _=>false
def nm (s:Stmt):List Str:=((aF s).names.filter λx=>nk x.2).map (·.1)
def pm (s:Stmt):List Str:=(nm s).take (jQ s).args.length
abbrev b03:Stmt:=top 8
abbrev d14:List Str:=nm b03
abbrev cK1:List Str:=pm b03
abbrev vO:Stmt:=top 9
abbrev bO1:List Str:=nm vO
abbrev bB0:List Str:=pm vO
abbrev kY:Stmt:=top 10
abbrev a97:List Str:=nm kY
abbrev zD:List Str:=pm kY
abbrev sK:Stmt:=top 11
abbrev bB1:List Str:=nm sK
abbrev b04:List Str:=pm sK
abbrev aJ8:Stmt:=top 13
abbrev d15:List Str:=nm aJ8
abbrev k7:List Str:=pm aJ8
abbrev oO:Stmt:=top 14
abbrev aG0:List Str:=nm oO
abbrev b05:List Str:=pm oO
abbrev oP:Stmt:=top 16
abbrev aG1:List Str:=nm oP
abbrev b06:List Str:=pm oP
abbrev pC:Stmt:=top 17
abbrev b07:List Str:=nm pC
abbrev aM3:List Str:=pm pC
abbrev aG2:Stmt:=top 18
abbrev cK2:List Str:=nm aG2
abbrev c23:List Str:=pm aG2
abbrev aG3:Stmt:=top 21
abbrev cK3:List Str:=nm aG3
abbrev c24:List Str:=pm aG3
abbrev k8:Stmt:=top 22
abbrev zE:List Str:=nm k8
abbrev wP:List Str:=pm k8
abbrev tZ:Stmt:=top 24
abbrev b80:List Str:=nm tZ
abbrev bO2:List Str:=pm tZ
abbrev zF:Stmt:=top 26
abbrev c25:List Str:=nm zF
abbrev bO3:List Str:=pm zF
abbrev l6:Stmt:=top 29
abbrev zG:List Str:=nm l6
abbrev aU6:List Str:=pm l6
abbrev iU:Stmt:=top 30
abbrev t9:List Str:=nm iU
abbrev zH:List Str:=pm iU
abbrev i8:Stmt:=top 33
abbrev rG:List Str:=nm i8
abbrev wQ:List Str:=pm i8
abbrev iM:Stmt:=top 34
abbrev vP:List Str:=nm iM
abbrev tK:List Str:=pm iM
abbrev zI:Stmt:=top 36
abbrev c26:List Str:=nm zI
abbrev bO4:List Str:=pm zI
abbrev pE:Stmt:=top 37
abbrev b08:List Str:=nm pE
abbrev aM4:List Str:=pm pE
abbrev jA:Stmt:=top 38
abbrev wR:List Str:=nm jA
abbrev vQ:List Str:=pm jA
abbrev gS:Stmt:=top 39
abbrev sL:List Str:=nm gS
abbrev pT:List Str:=pm gS
abbrev pF:Stmt:=top 41
abbrev b09:List Str:=nm pF
abbrev aM5:List Str:=pm pF
abbrev oQ:Stmt:=top 43
abbrev aG4:List Str:=nm oQ
abbrev b10:List Str:=pm oQ
abbrev l7:Stmt:=top 44
abbrev xR:List Str:=nm l7
abbrev aG5:List Str:=pm l7
abbrev mQ:Stmt:=top 46
abbrev a67:List Str:=nm mQ
abbrev aM6:List Str:=pm mQ
abbrev mG:Stmt:=top 47
abbrev aG6:List Str:=nm mG
abbrev a98:List Str:=pm mG
abbrev rH:Stmt:=top 48
abbrev aU7:List Str:=nm rH
abbrev bB2:List Str:=pm rH
abbrev mH:Stmt:=top 49
abbrev aG7:List Str:=nm mH
abbrev a99:List Str:=pm mH
abbrev pG:Stmt:=top 51
abbrev b11:List Str:=nm pG
abbrev aM7:List Str:=pm pG
abbrev nN:Stmt:=top 52
abbrev aM8:List Str:=nm nN
abbrev aG8:List Str:=pm nN
abbrev gN:Stmt:=top 53
abbrev oE:List Str:=nm gN
abbrev tL:List Str:=pm gN
abbrev gT:Stmt:=top 54
abbrev sM:List Str:=nm gT
abbrev pU:List Str:=pm gT
abbrev l8:Stmt:=top 57
abbrev xS:List Str:=nm l8
abbrev aG9:List Str:=pm l8
abbrev mS:Stmt:=top 58
abbrev a68:List Str:=nm mS
abbrev aM9:List Str:=pm mS
abbrev kA:Stmt:=top 59
abbrev vR:List Str:=nm kA
abbrev aA0:List Str:=pm kA
abbrev fY:Stmt:=top 63
abbrev wS:List Str:=nm fY
abbrev vS:List Str:=pm fY
abbrev gU:Stmt:=top 64
abbrev vT:List Str:=nm gU
abbrev aA1:List Str:=pm gU
abbrev b12:Stmt:=top 66
abbrev d16:List Str:=nm b12
abbrev cK4:List Str:=pm b12
abbrev b13:Stmt:=top 67
abbrev d17:List Str:=nm b13
abbrev cK5:List Str:=pm b13
abbrev zJ:Stmt:=top 68
abbrev c27:List Str:=nm zJ
abbrev bO5:List Str:=pm zJ
abbrev b81:Stmt:=top 69
abbrev cV5:List Str:=nm b81
abbrev d18:List Str:=pm b81
abbrev bO6:Stmt:=top 70
abbrev dO2:List Str:=nm bO6
abbrev d19:List Str:=pm bO6
abbrev pH:Stmt:=top 71
abbrev b14:List Str:=nm pH
abbrev aN0:List Str:=pm pH
abbrev bO7:Stmt:=top 72
abbrev dO3:List Str:=nm bO7
abbrev d20:List Str:=pm bO7
abbrev aH0:Stmt:=top 73
abbrev cK6:List Str:=nm aH0
abbrev c28:List Str:=pm aH0
abbrev b15:Stmt:=top 74
abbrev d21:List Str:=nm b15
abbrev cK7:List Str:=pm b15
abbrev b16:Stmt:=top 75
abbrev d22:List Str:=nm b16
abbrev cK8:List Str:=pm b16
abbrev bO8:Stmt:=top 76
abbrev dO4:List Str:=nm bO8
abbrev rJ:List Str:=pm bO8
abbrev b17:Stmt:=top 77
abbrev d23:List Str:=nm b17
abbrev cK9:List Str:=pm b17
abbrev bF5:Stmt:=top 78
abbrev c99:List Str:=["_law_poly_here","_law_x","_law_many","_law_turn","_law_rows","_law_row_here","_law_k"]
abbrev cL0:List Str:=["_law_poly_here","_law_x"]
abbrev wT:Stmt:=top 79
abbrev a69:List Str:=["_law_many","_law_m","_law_rows","_law_table_here","_law_row_here","_law_left","_law_at","_law_part","_law_edge","_law_low","_law_i","_law_j"]
abbrev cL1:List Str:=["_law_many","_law_m","_law_rows"]
abbrev u4:Stmt:=top 80
abbrev b82:List Str:=nm u4
abbrev bO9:List Str:=pm u4
abbrev bP0:Stmt:=top 81
abbrev dO5:List Str:=nm bP0
abbrev d24:List Str:=pm bP0
abbrev aH1:Stmt:=top 82
abbrev bP1:List Str:=nm aH1
abbrev d25:List Str:=pm aH1
abbrev cL2:Stmt:=top 83
abbrev e58:List Str:=nm cL2
abbrev dO6:List Str:=pm cL2
abbrev zK:Stmt:=top 84
abbrev c29:List Str:=nm zK
abbrev bP2:List Str:=pm zK
abbrev cL3:Stmt:=top 85
abbrev e59:List Str:=nm cL3
abbrev dO7:List Str:=pm cL3
abbrev d83:Stmt:=top 86
abbrev N_in:List Str:=nm d83
abbrev e60:List Str:=pm d83
abbrev b18:Stmt:=top 87
abbrev d26:List Str:=nm b18
abbrev cL4:List Str:=pm b18
abbrev c30:Stmt:=top 88
abbrev dO8:List Str:=nm c30
abbrev dO9:List Str:=pm c30
abbrev zL:Stmt:=top 89
abbrev c31:List Str:=nm zL
abbrev bP3:List Str:=pm zL
abbrev b19:Stmt:=top 90
abbrev d27:List Str:=nm b19
abbrev cL5:List Str:=pm b19
abbrev aA2:Stmt:=top 91
abbrev cL6:List Str:=nm aA2
abbrev PP_law:List Str:=pm aA2
local macro_rules| `(tactic| walk_at "s")=> `(tactic| exact⟨rfl,rfl,rfl,by decide +kernel,rfl,by decide +kernel,by decide +kernel⟩)
theorem bP4:aX d14 cK1 (aF b03):=by walk_at "s"
theorem cL7:aX bO1 bB0 (aF vO):=by walk_at "s"
theorem eP:aX a97 zD (aF kY):=by walk_at "s"
theorem tU:aX bB1 b04 (aF sK):=by walk_at "s"
theorem pI:aX d15 k7 (aF aJ8):=by walk_at "s"
theorem cA0:aX aG0 b05 (aF oO):=by walk_at "s"
theorem a70:aX aG1 b06 (aF oP):=by walk_at "s"
theorem xT:aX b07 aM3 (aF pC):=by walk_at "s"
theorem d84:aX cK2 c23 (aF aG2):=by walk_at "s"
theorem zM:aX cK3 c24 (aF aG3):=by walk_at "s"
theorem b20:aX zE wP (aF k8):=by walk_at "s"
theorem vU:aX b80 bO2 (aF tZ):=by walk_at "s"
theorem cV6:aX c25 bO3 (aF zF):=by walk_at "s"
theorem bP5:aX zG aU6 (aF l6):=by walk_at "s"
theorem mT:aX t9 zH (aF iU):=by walk_at "s"
theorem b21:aX rG wQ (aF i8):=by walk_at "s"
theorem aL3:aX vP tK (aF iM):=by walk_at "s"
theorem aU8:aX c26 bO4 (aF zI):=by walk_at "s"
theorem xU:aX b08 aM4 (aF pE):=by walk_at "s"
theorem oF:aX wR vQ (aF jA):=by walk_at "s"
theorem gC:aX sL pT (aF gS):=by walk_at "s"
theorem xV:aX b09 aM5 (aF pF):=by walk_at "s"
theorem a71:aX aG4 b10 (aF oQ):=by walk_at "s"
theorem kB:aX xR aG5 (aF l7):=by walk_at "s"
theorem bT4:aX a67 aM6 (aF mQ):=by walk_at "s"
theorem kZ:aX aG6 a98 (aF mG):=by walk_at "s"
theorem cL8:aX aU7 bB2 (aF rH):=by walk_at "s"
theorem nO:aX aG7 a99 (aF mH):=by walk_at "s"
theorem xW:aX b11 aM7 (aF pG):=by walk_at "s"
theorem iN:aX aM8 aG8 (aF nN):=by walk_at "s"
theorem tM:aX oE tL (aF gN):=by walk_at "s"
theorem fB:aX sM pU (aF gT):=by walk_at "s"
theorem bP6:aX xS aG9 (aF l8):=by walk_at "s"
theorem bT5:aX a68 aM9 (aF mS):=by walk_at "s"
theorem iV:aX vR aA0 (aF kA):=by walk_at "s"
theorem vV:aX wS vS (aF fY):=by walk_at "s"
theorem nP:aX vT aA1 (aF gU):=by walk_at "s"
theorem bP7:aX d16 cK4 (aF b12):=by walk_at "s"
theorem zN:aX d17 cK5 (aF b13):=by walk_at "s"
theorem a72:aX c27 bO5 (aF zJ):=by walk_at "s"
theorem aJ9:aX cV5 d18 (aF b81):=by walk_at "s"
theorem e16:aX dO2 d19 (aF bO6):=by walk_at "s"
theorem xX:aX b14 aN0 (aF pH):=by walk_at "s"
theorem aK0:aX dO3 d20 (aF bO7):=by walk_at "s"
theorem c32:aX cK6 c28 (aF aH0):=by walk_at "s"
theorem b22:aX d21 cK7 (aF b15):=by walk_at "s"
theorem zO:aX d22 cK8 (aF b16):=by walk_at "s"
theorem aH2:aX dO4 rJ (aF bO8):=by walk_at "s"
theorem sN:aX d23 cK9 (aF b17):=by walk_at "s"
theorem vW:aX c99 cL0 (aF bF5):=by walk_at "s"
theorem kC:aX a69 cL1 (aF wT):=by walk_at "s"
theorem a73:aX b82 bO9 (aF u4):=by walk_at "s"
theorem a74:aX dO5 d24 (aF bP0):=by walk_at "s"
theorem iQ:aX bP1 d25 (aF aH1):=by walk_at "s"
theorem bP8:aX e58 dO6 (aF cL2):=by walk_at "s"
theorem a75:aX c29 bP2 (aF zK):=by walk_at "s"
theorem aU9:aX e59 dO7 (aF cL3):=by walk_at "s"
theorem cL9:aX N_in e60 (aF d83):=by walk_at "s"
theorem dP0:aX d26 cL4 (aF b18):=by walk_at "s"
theorem sc_row:aX dO8 dO9 (aF c30):=by walk_at "s"
theorem bP9:aX c31 bP3 (aF zL):=by walk_at "s"
theorem cM0:aX d27 cL5 (aF b19):=by walk_at "s"
theorem rK:aX cL6 PP_law (aF aA2):=by walk_at "s"
abbrev pJ:Stmt:=(c68<|top 3).getD 0 (.Pass ⟨0,0,0,0⟩)
theorem bT6:aX ["self","left","right"] ["self","left","right"] (aF pJ):=by walk_at "s"
abbrev vX:Stmt:=(c68<|top 5).getD 0 (.Pass ⟨0,0,0,0⟩)
theorem cM1:aX ["self","prime","number"] ["self","prime","number"] (aF vX):=by walk_at "s"
abbrev aH3:Stmt:=(c68<|top 62).getD 0 (.Pass ⟨0,0,0,0⟩)
theorem d28:aX ["self","poly","size"] ["self","poly"] (aF aH3):=by walk_at "s"
structure Zs (mg:Str->Option Value):Prop where
 z0:mg "len"=none
 z1:mg "max"=none
 z2:mg "list"=none
 z3:mg "reversed"=none
 z4:mg "range"=none
 z5:mg "enumerate"=none
 z6:mg "tuple"=none
 z7:mg "zip"=none
 z8:mg "any"=none
 z9:mg "abs"=none
 z10:mg "all"=none
 z11:mg "sum"=none
 z12:mg "min"=none
 z13:mg "sorted"=none
 z14:mg "int"=none
 z15:mg "isinstance"=none
 z16:mg "bool"=none
 z17:mg "ValueError"=none
abbrev DT (P:Program)(w:World)(K:PySem.W.Frag)(mg:Str->Option Value)(base:Heap)(N:List Str)(q:Str)(t:Stmt)(k:Nat)(u:US):Prop:= ∀{f:Addr} {cdv:Value} {A:Around} {outer:List Env} {s:Shared} {H:Hp} {E:XK},gX k (A.deeper<|envOfC q (aF t) s.heap.objs.size f cdv)->sR (uS CX0 P w K mg base N q (aF t) f cdv A outer s H E).nox (eF t) u
section
variable (P:Program)(w:World)(K:PySem.W.Frag)(mg:Str->Option Value)(base:Heap)
abbrev cM2:=Fn P w K mg base "cut" cK1 1 aD6
abbrev cM3:=Fn P w K mg base "padded" bB0 1 aE7
abbrev mU:=Fn P w K mg base "poly_parted" zD 2 gL
abbrev b23:=Fn P w K mg base "poly_at" b04 1 tP
abbrev cM4:=Fn P w K mg base "det" k7 5 (gB 4)
abbrev cA1:=Fn P w K mg base "without" b05 1 a45
abbrev cA2:=Fn P w K mg base "t_times" b06 1 a56
abbrev bT7:=Fn P w K mg base "table_of" aM3 2 xN
abbrev c33:=Fn P w K mg base "norm" c23 6 aJ7
abbrev d85:=Fn P w K mg base "root" c24 1 b58
abbrev wU:=Fn P w K mg base "small_primes" wP 1 lJ
abbrev cV7:=Fn P w K mg base "rest" bO2 1 aT3
abbrev bQ0:=Fn P w K mg base "holds" bO3 2 a59
abbrev cV8:=Fn P w K mg base "boxed" aU6 7 a61
abbrev zP:=Fn P w K mg base "rows_within" zH 1 mO
abbrev b24:=Fn P w K mg base "is_ring_poly" wQ 1 pA
abbrev nF:=Fn P w K mg base "need_ring_poly" tK 2 hJ
abbrev cV9:=Fn P w K mg base "apart" bO4 4 aS9
abbrev aN1:=Fn P w K mg base "dividers" aM4 1 rT
abbrev aV0:=Fn P w K mg base "line_and_rest" vQ 3 oB
abbrev aA8:=Fn P w K mg base "two_by_two_apart" pT 3 l9
abbrev bT8:=Fn P w K mg base "two_with" aM5 2 xL
abbrev cA3:=Fn P w K mg base "measure" b10 6 a54
abbrev bQ1:=Fn P w K mg base "root_sums" aG5 1 v8
abbrev xY:=Fn P w K mg base "mod_poly" aM6 2 jO
abbrev bC5:=Fn P w K mg base "mod_parted" a98 4 sV
abbrev cM5:=Fn P w K mg base "scaled" bB2 3 wL
abbrev bC6:=Fn P w K mg base "inverse_of" a99 1 sT
abbrev bT9:=Fn P w K mg base "split_by" aM7 6 xG
abbrev bQ2:=Fn P w K mg base "lines_out" aG8 5 vE
abbrev aL4:=Fn P w K mg base "rootless_parts" tL 2 n6
abbrev aA9:=Fn P w K mg base "two_by_two_split" pU 1 pR
abbrev bQ3:=Fn P w K mg base "papers_of" aG9 8 vG
abbrev bU0:=Fn P w K mg base "parts_at" aM9 7 xI
abbrev bC7:=Fn P w K mg base "outside_of" aA0 3 sZ
abbrev cM6:=Fn P w K mg base "_law_mixed" cK4 1 aC8
abbrev b25:=Fn P w K mg base "_law_draws" cK5 2 nK
abbrev cW0:=Fn P w K mg base "_law_shifted" bO5 1 a58
abbrev e17:=Fn P w K mg base "_law_poly" d18 3 c86
abbrev d29:=Fn P w K mg base "_law_cell" d19 1 a44
abbrev bU1:=Fn P w K mg base "_law_known_ring" aN0 2 xP
abbrev e18:=Fn P w K mg base "_law_ring" d20 12 c87
abbrev c34:=Fn P w K mg base "_law_shared" c28 1 zC
abbrev dP1:=Fn P w K mg base "_law_value" cK7 1 bM6
abbrev dP2:=Fn P w K mg base "_law_known" cK8 1 aZ7
abbrev cW1:=Fn P w K mg base "_law_det" rJ 5 (kW 4)
abbrev cM7:=Fn P w K mg base "_law_times" cK9 1 aZ1
abbrev bQ4:=Fn P w K mg base "_law_table" cL0 2 yZ
abbrev cM8:=Fn P w K mg base "_law_stair" cL1 1 aY2
abbrev cW2:=Fn P w K mg base "_law_product" bO9 2 aT7
abbrev e19:=Fn P w K mg base "_law_made" d24 6 bF4
abbrev e20:=Fn P w K mg base "_law_near" d25 7 c96
abbrev TF_far:=Fn P w K mg base "_law_far" dO6 3 cS8
abbrev cW3:=Fn P w K mg base "_law_corners" bP2 1 a63
abbrev TF_box:=Fn P w K mg base "_law_box" dO7 1 cV2
abbrev TF_in:=Fn P w K mg base "_law_in" e60 1 dN5
abbrev dP3:=Fn P w K mg base "_law_whole" cL4 1 aX5
abbrev TF_row:=Fn P w K mg base "_law_row" dO9 2 cU3
abbrev cW4:=Fn P w K mg base "_law_refused" bP3 8 aU1
abbrev dP4:=Fn P w K mg base "_law_reach" cL5 1 bN1
end
section
variable {P:Program}{w:World}{K:PySem.W.Frag}{mg:Str->Option Value}{base:Heap}
theorem d86 (Z:Zs mg):DT<$>d14 "cut" b03 0 bK5:=λhr=>
 (bH 1 bP4.nd (eJ (bM 0) rfl Z.z0)<|bC (aB3 iE (PUW.pt<|oW (fQ aB6 (aP 1) aD)<|oV<|fQ fJ (bU (bM 0)<|aK bL (aP 1) aD) aD)<|aY<|us_g 1 bP4.nd aD iu_sub)<|eM<|d52 (aP 0) jW<|gQ<|aP 1)
theorem cA4 (Z:Zs mg):DT<$>bO1 "padded" vO 0 aE8:=λhr=>
 (eM<|aK bZ (aP 0)<|aK c58 (eB<|b7 aB)<|aK bL (aP 1)<|eJ (bM 0) rfl Z.z0)
theorem b26 (Z:Zs mg)(a78:cM2<$>P):DT<$>a97 "poly_parted" kY 1 r8:=λhr=>
 (bH 2 eP.nd (aK bL (eJ (bM 1) rfl Z.z0) aD)<|bH 3 eP.nd (dP (cu_max rfl) rfl Z.z1 bt_max (b7<|aE (aK bL (eJ (bM 0) rfl Z.z0)<|aP 2) aB))<|bH 4 eP.nd (cB bE0 rfl Z.z2 aX6 (aO 0 aB))<|bH 5 eP.nd (aK cA (cH<|b7 aB)<|aP 3)<|bC (kU 6 eP.nd (cY9 rfl Z.z3 rfl Z.z4 (aO 3 aB))<|bH 7 eP.nd (bU (bM 4)<|aK bZ (aP 6)<|aP 2)<|bC (jN 5 (pv 5) (aP 7)<|aP 6)<|aY<|b36 iE rfl (dV6 (by rfl) Z.z5<|aO 1 aB) (wZ rfl (fF 8 (cG eP.nd rfl (Or.inl rfl))<|fF 9 (cG eP.nd rfl (Or.inl rfl)) rR) (dR<|dR nG)) (aY<|dV5 4 (pv 4) (aK bZ (aP 6)<|aP 8) (aK cA (aP 7)<|aP 9) dB3))<|eM<|eB<|aE (cP a78 hr<|aE (cB dE rfl Z.z6 dB (aO 5 aB)) aB)<|aE (cP a78 hr<|aE (cB dE rfl Z.z6 dB (aO 4 aB)) aB) aB)
theorem bU2 (Z:Zs mg):DT<$>bB1 "poly_at" sK 0 a53:=λhr=>
 (bH 2 tU.nd aD<|bC (kU 3 tU.nd (cZ1 rfl Z.z3 (aO 0 aB))<|aY<|sS 2 tU.nd<|aK bZ (aK cA (aP 2)<|aP 1)<|aP 3)<|aY<|jR 2<|pv 2)
theorem aK1 (Z:Zs mg){k:Nat}{gB:Φ}(hk:1<=k)(wV:Fn<$>"det" k7 k gB)(oR:cA1<$>P):DT<$>d15 "det" aJ8 k (bJ1 gB):=λhr=>
 (bC (cC8 (a35 fJ (eJ (mZ 0<|pv 0) rfl Z.z0) aD<|aS0 _) (aY<|c48<|aB4 (kH<|aB4 (mZ 0<|pv 0) aD λ_ _=>rfl) aD λ_ _=>rfl) c47)<|bC (xA 1 pI.nd rfl (Or.inl rfl) aD (hl:=il (n:=4) rfl ac))<|bC (xA 2 pI.nd rfl (Or.inl rfl) aD (hl:=il (n:=4) rfl ac))<|bC (b36 iE rfl (cN rfl Z.z4 (aE (eJ (mZ 0<|pv 0) rfl Z.z0) aB)) (mL 3<|cG pI.nd rfl (Or.inl rfl)) (bC (dD6 1 pI.nd rfl (Or.inl rfl) (aK cA (aK cA (d3 2<|pv 2)<|aB4 (kH<|aB4 (mZ 0<|pv 0) (d3 3<|pv 3) λ_ _=>rfl) aD λ_ _=>rfl)<|yM wV hr (aH _) rfl (aE (yM oR hr hk rfl (aE (d3 0<|pv 0)<|aE (d3 3<|pv 3) aB)) aB)) cQ1 (hl:=il (n:=4) rfl ac))<|aY<|xA 2 pI.nd rfl (Or.inl rfl) (gK<|d3 2<|pv 2) (hl:=il (n:=4) rfl ac)))<|aY<|jR 1<|pv 1)
theorem bU3 (Z:Zs mg):DT<$>aG0 "without" oO 0 a46:=λhr=>
 (eM<|cB dE rfl Z.z6 dB (aE (mC ["row",".acc"] (aF oO).names aG0 (eC<|aK bZ (j6 (bM 0) jW<|gQ<|aP 1)<|j6 (bM 0) (gQ<|aK bZ (aP 1) aD) jW) (λ_ _ _ _ _ _=>dN) λ_ _ _ _ _ _=>(j6 (bM 0) (gQ aD) jW)) aB))
theorem bU4 (Z:Zs mg):DT<$>aG1 "t_times" oP 0 a57:=λhr=>
 (bH 2 a70.nd (bU (bM 1)<|gK aD)<|bH 3 a70.nd (aK bZ (eB<|b7 aB)<|j6 (bM 1) jW<|gQ<|gK aD)<|eM<|cB dE rfl Z.z6 dB (aE (mC ["i","moved","last","ring",".acc"] (aF oP).names aG1 (cN rfl Z.z4 (aE (aC7<|aP 0) aB)) (λ_ _ _ _ _ _=>dN) λ_ _ _ _ _ _=>(aK bL (bU (bM 1)<|aP 0)<|aK cA (aP 2)<|bU (kH<|aC7<|aP 3)<|aP 0)) aB))
theorem bQ5 (Z:Zs mg)(aH7:cA2<$>P):DT<$>b07 "table_of" pC 1 xO:=λhr=>
 (bH 2 xT.nd (cH<|aO 1 aB)<|bC (kU 3 xT.nd (cN rfl Z.z4 (aE (aK bL (aC7<|aP 0) aD) aB))<|aY<|iT 2 (pv 2)<|cP aH7 hr<|aO 0<|aE (bU (bM 2)<|gK aD) aB)<|eM<|cB dE rfl Z.z6 dB (aO 2 aB))
theorem cW5 (Z:Zs mg)(wV:cM4<$>P)(a79:bT7<$>P):DT<$>cK2 "norm" aG2 5 b61:=λhr=>
 (eM<|cP wV hr<|aE (cP a79 hr<|aO 0<|aO 1 aB) aB)
theorem cW6 (Z:Zs mg):DT<$>cK3 "root" aG3 0 b59:=λhr=>
 (bH 1 zM.nd (aP 0)<|bH 2 zM.nd (aK uU (aK bZ (aP 0) aD) aD)<|bC (aB3 iE (fQ bW6 (aP 2)<|aP 1)<|bH 1 zM.nd (aP 2)<|aY<|sS 2 zM.nd<|aK uU (aK bZ (aP 1)<|aK uU (aP 0)<|aP 1) aD)<|aY<|jR 1<|pv 1)
theorem aV1 (Z:Zs mg){kD:Addr}(iO:mg "SMALL_PRIMES"=some (.ref kD))(vY:KT K kD (T_SMALL_PRIMES.map V.int)):DT<$>zE "small_primes" k8 0 oZ:=λhr=>
 (eM<|cB bE0 rfl Z.z2 aX6 (aE (dW1 rfl iO vY) aB))
theorem cM9 (Z:Zs mg):DT<$>b80 "rest" tZ 0 aT4:=λhr=>
 (bH 2 vU.nd (aP 1)<|bC (kU 3 vU.nd (cY9 rfl Z.z3 rfl Z.z4 (aE (eJ (bM 1) rfl Z.z0) aB))<|bH 4 vU.nd (aK uU (bU (bM 2)<|aP 3)<|bU (kH<|bU (bM 0)<|aP 3)<|aP 3)<|aY<|sS 2 vU.nd<|cB dE rfl Z.z6 dB (aE (yN (js:=[4]) (N:=["c","d","many",".acc"]) (cap:=[none,none,some 4,none]) (last:=3) (esc:=(aF tZ).names) (XN:=b80) rfl rfl af ac ac rfl (cR2 (by rfl) Z.z7<|aO 2<|aE (bU (bM 0)<|aP 3) aB) (λ_ _ _ _ _ _=>(wZ rfl (fF 0 (cG (show Nodup (["c","d","many",".acc"]:List Str)by decide +kernel) rfl (Or.inl rfl))<|fF 1 (cG (show Nodup (["c","d","many",".acc"]:List Str)by decide +kernel) rfl (Or.inl rfl)) rR) (dR<|dR nG))) (λ_ _ _ _ _ _=>dN) (λ_ _ _ _ _ _=>(aK bL (aP 0)<|aK cA (aP 2)<|aP 1))) aB))<|aY<|jR 2<|pv 2)
theorem cN0 (Z:Zs mg)(b86:cV7<$>P):DT<$>c25 "holds" zF 1 aT5:=λhr=>
 (eM<|cP9<|dP (dW5 rfl) rfl Z.z8 bt_any (aE (cP b86 hr<|aO 0<|aO 1 aB) aB))
theorem cN1 (Z:Zs mg){dS:Addr}(dU:mg "GREATEST_REACH"=some (.ref dS))(i9:KD K dS gM)(iW:zP<$>P)(u5:bQ0<$>P)(zQ:c33<$>P):DT<$>zG "boxed" l6 6 aT6:=λhr=>
 (gR (fQ aB6 (aP 2)<|cE7 rfl dU i9 (aC7<|aP 0)) (aY bG7)<|eM<|mC ["x","ideal","ring","m",".acc"] (aF l6).names zG (eC<|cP iW hr<|aO 2<|aE (aC7<|aP 0) aB) (λ_ _ _ _ _ _=>(aW7<|PUW.pt<|oW (b95<|cP u5 hr<|aO 1<|aO 0 aB)<|oV<|fQ fJ (dP xB rfl Z.z9 xE (aE (cP zQ hr<|aO 2<|aO 0 aB) aB))<|aP 3)) λ_ _ _ _ _ _=>(aP 0))
theorem b27 (Z:Zs mg):DT<$>t9 "rows_within" iU 0 rF:=λhr=>
 (bH 2 mT.nd (cH<|pQ (eB aB) aB)<|bC (kU 3 mT.nd (cN rfl Z.z4 (aO 1 aB))<|aY<|cE4 (js:=[0]) (N:=["row","c","reach",".acc"]) (cap:=[none,none,some 0,none]) (last:=3) (esc:=(aF iU).names) (XN:=t9) 2 rfl rfl af ac ac ac rfl (eC<|aP 2) (λ_ _ _ _ _ _=>(mL 0<|cG (show Nodup (["row","c","reach",".acc"]:List Str)by decide +kernel) rfl (Or.inl rfl))) (λ_ _ _ _ _ _=>dN) (λ_ _ _ _ _ _=>(bX7 rfl Z.z4 (sA (gK<|aP 2)<|aE (aK bZ (aP 2) aD) aB))) (λ_ _ _ _ _ _=>(mL 1<|cG (show Nodup (["row","c","reach",".acc"]:List Str)by decide +kernel) rfl (Or.inl rfl))) (λ_ _ _ _ _ _=>dN) (λ_ _ _ _ _ _=>(aK bZ (aP 0)<|eB<|aO 1 aB)) (cG mT.nd rfl (Or.inl rfl)) (il (n:=4) rfl ac))<|aY<|jR 2<|pv 2)
theorem aV2 (Z:Zs mg){rL:Tok}(gO:mg "GREATEST_PLACE"=some (.int 499 rL)):DT<$>rG "is_ring_poly" i8 0 pB:=λhr=>
 (gR (PUW.pt<|aS1 (fQ bW6 (eJ (bM 0) rfl Z.z0) aD)<|aS1 (fQ aB6 (eJ (bM 0) rfl Z.z0) aD)<|aI7<|fQ cD2 (bU (bM 0)<|gK aD) aD) (eM bW4)<|eM<|dP (bH1 rfl) rfl Z.z10 bH2 (aE (mC ["c",".acc"] (aF i8).names rG (eC<|aP 0) (λ_ _ _ _ _ _=>dN) λ_ _ _ _ _ _=>(cR8 e46 (dP xB rfl Z.z9 xE (aO 0 aB))<|cY7 rfl gO)) aB))
theorem aH4 (Z:Zs mg)(rM:b24<$>P):DT<$>vP "need_ring_poly" iM 1 nB:=λhr=>
 (aY<|c60 (bD9<|b95<|cP rM hr<|aO 0 aB)<|aY bG7)
theorem cN2 (Z:Zs mg)(dO:nF<$>P)(pK:aV0<$>P)(mI:aA8<$>P):DT<$>c26 "apart" zI 3 aT0:=λhr=>
 (bC (c55<|cP dO hr<|aO 0 aB)<|bH 1 aU8.nd (cP pK hr<|aO 0 aB)<|gR (PUW.pt<|oW (c59<|aP 1)<|oV<|fQ fJ (eJ (bM 0) rfl Z.z0) aD) (aY<|sS 1 aU8.nd<|cP mI hr<|aO 0 aB)<|aY<|jR 1<|pv 1)
theorem bQ6 (Z:Zs mg):DT<$>b08 "dividers" pE 0 xK:=λhr=>
 (gR (fQ fJ (aP 0) aD) (eM<|cH<|b7 aB)<|bH 1 xU.nd (cH aB)<|bC (kU 2 xU.nd (b37 rfl Z.z4 (b7<|aE (aK bZ (dP xB rfl Z.z9 xE (aO 0 aB)) aD) aB))<|aY<|c60 (fQ fJ (aK eO (aP 0)<|aP 2) aD)<|bC (iT 1 (pv 1)<|aP 2)<|aY<|iT 1 (pv 1)<|gK<|aP 2)<|aY<|jR 1<|pv 1)
theorem aL5 (Z:Zs mg)(mV:aN1<$>P)(oS:b23<$>P)(d5:mU<$>P):DT<$>wR "line_and_rest" jA 2 oC:=λhr=>
 (bC (kU 1 oF.nd (eC<|cP mV hr<|aE (bU (bM 0) aD) aB)<|aY<|c60 (fQ fJ (cP oS hr<|aO 0<|aO 1 aB) aD)<|bH 2 oF.nd (eB<|sA (gK<|aP 1)<|b7 aB)<|eM<|eB<|aO 2<|aE (bU (kH<|cP d5 hr<|aO 0<|aO 2 aB) aD) aB)<|eM bG5)
theorem a76 (Z:Zs mg)(mV:aN1<$>P)(a80:bT8<$>P):DT<$>sL "two_by_two" gS 2 lB:=λhr=>
 (bC (kU 1 gC.nd (eC<|cP mV hr<|aE (bU (bM 0) aD) aB)<|bH 2 gC.nd (aK uU (bU (bM 0) aD)<|aP 1)<|aY<|kU 3 gC.nd (eC<|cP a80 hr<|aE (bU (bM 0) aD)<|aE (aK bL (aK bL (bU (bM 0) aD)<|aP 1)<|aP 2) aB)<|bH 4 gC.nd (aK bL (bU (bM 0) aD)<|aP 3)<|aY<|c60 (fQ fJ (aK bZ (aK cA (aP 3)<|aP 2)<|aK cA (aP 1)<|aP 4)<|bU (bM 0) aD)<|eM<|eB<|pQ (eB<|aO 1<|aO 3<|b7 aB)<|pQ (eB<|aO 2<|aO 4<|b7 aB) aB)<|eM bG5)
theorem bQ7 (Z:Zs mg)(bR2:d85<$>P):DT<$>b09 "two_with" pF 1 xM:=λhr=>
 (bH 2 xV.nd (aK bL (aK cA (aP 0)<|aP 0)<|aK cA aD<|aP 1)<|gR (fQ bW6 (aP 2) aD) (eM<|cH aB)<|bH 3 xV.nd (cP bR2 hr<|aO 2 aB)<|gR (fQ cD2 (aK cA (aP 3)<|aP 3)<|aP 2) (eM<|cH aB)<|eM<|cH<|aE (aK uU (aK bZ (aP 0)<|aP 3) aD)<|aE (aK uU (aK bL (aP 0)<|aP 3) aD) aB)
theorem bU5 (Z:Zs mg)(dO:nF<$>P)(xZ:bQ1<$>P)(wV:cM4<$>P):DT<$>aG4 "measure" oQ 5 a55:=λhr=>
 (bC (c55<|cP dO hr<|aO 0 aB)<|bH 1 a71.nd (aK bL (eJ (bM 0) rfl Z.z0) aD)<|bH 2 a71.nd (cP xZ hr<|aO 0<|aE (aK bL (aK cA aD<|aP 1) aD) aB)<|eM<|cP wV hr<|aE (cB dE rfl Z.z6 dB (aE (mC ["i","sums","n",".acc"] (aF oQ).names aG4 (cN rfl Z.z4 (aO 1 aB)) (λ_ _ _ _ _ _=>dN) λ_ _ _ _ _ _=>(cB dE rfl Z.z6 dB (aE (j6 (bM 1) (gQ<|aP 0)<|gQ<|aK bZ (aP 0)<|aP 2) aB))) aB)) aB)
theorem bC8 (Z:Zs mg):DT<$>xR "root_sums" l7 0 v9:=λhr=>
 (bH 2 kB.nd (aK bL (eJ (bM 0) rfl Z.z0) aD)<|bH 3 kB.nd (cH<|aO 2 aB)<|bC (kU 4 kB.nd (b37 rfl Z.z4 (b7<|aO 1 aB))<|bH 5 kB.nd (dP (cu_sum rfl) rfl Z.z11 bt_sum (aE (mC ["i","poly","n","sums","k",".acc"] (aF l7).names xR (b37 rfl Z.z4 (b7<|aE (aK bZ (dP (cu_min rfl) rfl Z.z12 bt_min (aE (aK bL (aP 4) aD)<|aO 2 aB)) aD) aB)) (λ_ _ _ _ _ _=>dN) λ_ _ _ _ _ _=>(aK cA (bU (bM 1)<|aK bL (aP 2)<|aP 0)<|bU (bM 3)<|aK bL (aP 4)<|aP 0)) aB))<|gR (fQ e46 (aP 4)<|aP 2) (aY<|us_g 5 kB.nd (aK cA (aP 4)<|bU (bM 0)<|aK bL (aP 2)<|aP 4) cQ1)<|aY<|iT 3 (pv 3)<|gK<|aP 5)<|aY<|jR 3<|pv 3)
theorem bQ8 (Z:Zs mg)(a78:cM2<$>P):DT<$>a67 "mod_poly" mQ 1 xF:=λhr=>
 (eM<|cP a78 hr<|aE (cB dE rfl Z.z6 dB (aE (mC ["c","p",".acc"] (aF mQ).names a67 (eC<|aP 0) (λ_ _ _ _ _ _=>dN) λ_ _ _ _ _ _=>(aK eO (aP 0)<|aP 1)) aB)) aB)
theorem b83 (Z:Zs mg)(fZ:xY<$>P)(vZ:bC6<$>P)(d5:mU<$>P)(a81:cM5<$>P):DT<$>aG6 "mod_parted" mG 3 sW:=λhr=>
 (bH 3 kZ.nd (cP fZ hr<|aO 1<|aO 2 aB)<|bH 4 kZ.nd (cP vZ hr<|aE (bU (bM 3)<|gK aD)<|aO 2 aB)<|bC (cQ0 (cP d5 hr<|aE (cP fZ hr<|aO 0<|aO 2 aB)<|aE (cP a81 hr<|aO 3<|aO 4<|aO 2 aB) aB)<|wZ rfl (fF 5 (cG kZ.nd rfl (Or.inl rfl))<|fF 6 (cG kZ.nd rfl (Or.inl rfl)) rR) (dR<|dR nG))<|eM<|eB<|aE (cP a81 hr<|aO 5<|aO 4<|aO 2 aB)<|aE (cP fZ hr<|aO 6<|aO 2 aB) aB)
theorem cA5 (Z:Zs mg)(fZ:xY<$>P):DT<$>aU7 "scaled" rH 2 aD7:=λhr=>
 (eM<|cP fZ hr<|aE (cB dE rfl Z.z6 dB (aE (mC ["c","k",".acc"] (aF rH).names aU7 (eC<|aP 0) (λ_ _ _ _ _ _=>dN) λ_ _ _ _ _ _=>(aK cA (aP 1)<|aP 0)) aB))<|aO 2 aB)
theorem b84 (Z:Zs mg):DT<$>aG7 "inverse_of" mH 0 sU:=λhr=>
 (bH 2 nO.nd aD<|bC (kU 3 nO.nd (cN rfl Z.z4 (aE (aK bL (aP 1) aD) aB))<|aY<|sS 2 nO.nd<|aK eO (aK cA (aP 2)<|aP 0)<|aP 1)<|aY<|jR 2<|pv 2)
theorem bQ9 (Z:Zs mg)(iA:wU<$>P)(yA:bQ2<$>P)(fZ:xY<$>P)(oG:aL4<$>P):DT<$>b11 "split_by" pG 5 xH:=λhr=>
 (gR (a35 dE6 (aP 1) (dE1 iA hr ac rfl) rfl) (aY bG7)<|bC (cQ0 (cP yA hr<|aE (cP fZ hr<|aO 0<|aO 1 aB)<|aO 1 aB)<|wZ rfl (fF 2 (cG xW.nd rfl (Or.inl rfl))<|fF 3 (cG xW.nd rfl (Or.inl rfl)) rR) (dR<|dR nG))<|eM<|aK bZ (aP 2)<|cP oG hr<|aO 3<|aO 1 aB)
theorem bC9 (Z:Zs mg)(oS:b23<$>P)(w6:bC5<$>P):DT<$>aM8 "lines_out" nN 4 vF:=λhr=>
 (bH 2 iN.nd (cH aB)<|bH 3 iN.nd (aP 0)<|bC (kU 4 iN.nd (cN rfl Z.z4 (aO 1 aB))<|bH 5 iN.nd aD<|bC (aB3 iE (fQ fJ (aK eO (cP oS hr<|aO 3<|sA (gK<|aP 4) aB)<|aP 1) aD)<|bH 3 iN.nd (bU (kH<|cP w6 hr<|aO 3<|pQ (eB<|aO 4<|b7 aB)<|aO 1 aB) aD)<|aY<|us_g 5 iN.nd aD cQ1)<|aY<|c60 (fQ aB6 (aP 5) aD)<|aY<|iT 2 (pv 2)<|eB<|pQ (eB<|aO 4<|b7 aB)<|aO 5 aB)<|eM<|eB<|aO 2<|aO 3 aB)
theorem aH5 (Z:Zs mg)(mJ:aA9<$>P):DT<$>oE "rootless_parts" gN 1 nA:=λhr=>
 (gR (fQ fJ (eJ (bM 0) rfl Z.z0) aD) (eM<|cH aB)<|bH 2 tM.nd (dD2 (fQ fJ (eJ (bM 0) rfl Z.z0) aD) (cP mJ hr<|aO 0<|aO 1 aB)<|cH aB)<|gR (fQ fJ (eJ (bM 2) rfl Z.z0) aD) (eM<|cH<|pQ (eB<|aO 0<|b7 aB) aB)<|gR (fQ (cR1 hr.units) (bU (bM 2) aD)<|bU (bM 2) aD) (eM<|cH<|pQ (eB<|aE (bU (bM 2) aD)<|b7 aB) aB)<|eM<|mC ["g",".acc"] (aF gN).names oE (eC<|dP dG5 rfl Z.z13 d82 (aO 2 aB)) (λ_ _ _ _ _ _=>dN) λ_ _ _ _ _ _=>(eB<|aO 0<|b7 aB))
theorem a77 (Z:Zs mg):DT<$>sM "two_by_two" gT 0 pS:=λhr=>
 (bC (kU 2 fB.nd (cN rfl Z.z4 (aO 1 aB))<|bH 3 fB.nd (aK eO (aK bL (bU (bM 0) aD)<|aP 2)<|aP 1)<|bH 4 fB.nd (aK bL (bU (bM 0) aD)<|aK cA (aP 2)<|aP 3)<|aY<|kU 5 fB.nd (cN rfl Z.z4 (aO 1 aB))<|bH 6 fB.nd (aK eO (aK bL (aP 4)<|aP 5)<|aP 1)<|aY<|c60 (PUW.pt<|oW (fQ fJ (aK eO (aK cA (aP 5)<|aP 6)<|aP 1)<|bU (bM 0) aD)<|oV<|fQ fJ (aK eO (aK bZ (aK cA (aP 2)<|aP 6)<|aK cA (aP 5)<|aP 3)<|aP 1)<|bU (bM 0) aD)<|eM<|cH<|pQ (eB<|aO 5<|aO 2<|b7 aB)<|pQ (eB<|aO 6<|aO 3<|b7 aB) aB)<|eM<|cH aB)
theorem bD0 (Z:Zs mg)(iA:wU<$>P)(a82:bU0<$>P):DT<$>xS "papers_of" l8 7 vH:=λhr=>
 (eM<|mC ["p","poly","size",".acc"] (aF l8).names xS (eC<|dE1 iA hr ac rfl) (λ_ _ _ _ _ _=>(aW7<|fQ fJ (aK eO (aP 2)<|aK cA (aP 0)<|aP 0) aD)) λ_ _ _ _ _ _=>(eB<|aO 0<|aE (cP a82 hr<|aO 1<|aO 0 aB) aB))
theorem bR0 (Z:Zs mg)(a83:bT9<$>P)(d5:mU<$>P):DT<$>a68 "parts_at" mS 6 xJ:=λhr=>
 (eM<|yN (js:=[0]) (N:=["g","often","poly",".acc"]) (cap:=[none,none,some 0,none]) (last:=3) (esc:=(aF mS).names) (XN:=a68) rfl rfl af ac ac rfl (eC<|cP a83 hr<|aO 0<|aO 1 aB) (λ_ _ _ _ _ _=>(wZ rfl (fF 0 (cG (show Nodup (["g","often","poly",".acc"]:List Str)by decide +kernel) rfl (Or.inl rfl))<|fF 1 (cG (show Nodup (["g","often","poly",".acc"]:List Str)by decide +kernel) rfl (Or.inl rfl)) rR) (dR<|dR nG))) (λ_ _ _ _ _ _=>dN) (λ_ _ _ _ _ _=>(eB<|aO 0<|aO 1<|aE (bU (kH<|cP d5 hr<|aO 2<|aO 0 aB) aD) aB)))
theorem b85 (Z:Zs mg)(d5:mU<$>P):DT<$>vR "outside_of" kA 2 t7:=λhr=>
 (bC (b36 iE rfl (eC<|aP 1) (wZ rfl (fF 2 (cG iV.nd rfl (Or.inr rfl))<|fF 3 (cG iV.nd rfl (Or.inl rfl)) rR) (dR<|dR nG)) (aY<|b36 iE rfl (eC<|aP 3) (wZ rfl (fF 4 (cG iV.nd rfl (Or.inl rfl))<|fF 5 (cG iV.nd rfl (Or.inl rfl))<|fF 6 (cG iV.nd rfl (Or.inl rfl)) rR) (dR<|dR<|dR nG)) (aY<|c60 (PUW.pt<|oW (fQ dD9 (aP 5) aD)<|oV<|b95<|dP (bH1 rfl) rfl Z.z10 bH2 (aE (mC ["c","p",".acc"] (aF kA).names vR (eC<|aP 6) (λ_ _ _ _ _ _=>dN) λ_ _ _ _ _ _=>(cR8 fJ (aK eO (aP 0)<|aK cA (aP 1)<|aP 1) aD)) aB))<|eM<|eB<|aO 2<|aE (bU (kH<|cP d5 hr<|aO 0<|aO 4 aB) aD) aB)))<|eM bG5)
theorem aH6 (Z:Zs mg){fH:Addr}(jB:mg "FallsApart"=some (.ref fH)){hZ:Addr}{bU6:FuncData}(mW:a93 K fH hZ bmV vN=true)(a84:cF2 K fH hZ bU6 "left" "right")(b87:cV9<$>P){f:Addr}{cdv:Value}{A:Around}{outer:List Env}{s:Shared}{H:Hp}{E:XK}(hr:gX 4 (A.deeper<|envOfC "need_together" (aF fY) s.heap.objs.size f cdv)) :
  yS (uS (CXr P w base) P w K mg base wS "need_together" (aF fY) f cdv A outer s H E) E (eF fY) nE:=
 (bE5 (aX3<|xA 1 vV.nd rfl (Or.inl rfl) (yM b87 hr ac rfl (aE (d3 0<|pv 0) aB)) (hl:=il (n:=2) rfl ac))<|b47<|cZ6 (cE2<|d3 1<|pv 1) (b47<|bY1 (k:=0) pV mW a84 (hr.mono ac) rfl jB rfl (aE (aB4 (mZ 1<|pv 1) aD λ_ _=>rfl)<|aE (aB4 (mZ 1<|pv 1) aD λ_ _=>rfl) aB) c64 rfl ac) c66)
theorem b28 (Z:Zs mg){gZ:Addr}(mK:mg "NotWhole"=some (.ref gZ)){kI:Addr}{cN7:FuncData}(rN:a93 K gZ kI bmV vN=true)(aV3:cF2 K gZ kI cN7 "prime" "number")(w8:bC7<$>P)(yB:bQ3<$>P)(aV4:cM3<$>P){f:Addr}{cdv:Value}{A:Around}{outer:List Env}{s:Shared}{H:Hp}{E:XK}(hr:gX 8 (A.deeper<|envOfC "need_whole" (aF gU) s.heap.objs.size f cdv)) :
  yS (uS (CXr P w base) P w K mg base vT "need_whole" (aF gU) f cdv A outer s H E) E (eF gU) rB:=
 (bE5 (aX3<|xA 2 nP.nd rfl (Or.inl rfl) (yM w8 hr ac rfl (aE (d3 0<|pv 0)<|aE (yM yB hr ac rfl (aE (d3 0<|pv 0)<|aE (d3 1<|pv 1) aB)) aB)) (hl:=il (n:=5) rfl ac))<|b47<|cZ6 (cE2<|d3 2<|pv 2) (bE5 (aX3<|cQ0 (d3 2<|pv 2)<|wZ rfl (fF 3 (cG nP.nd rfl (Or.inr rfl))<|fF 4 (cG nP.nd rfl (Or.inl rfl)) rR) (dR<|dR nG))<|b47<|bY1 (k:=0) pV rN aV3 (hr.mono ac) rfl mK rfl (aE (d3 3<|pv 3)<|aE (yM aV4 hr ac rfl (aE (cB dE rfl Z.z6 dB (aE (yN (js:=[3]) (N:=["c","p",".acc"]) (cap:=[none,some 3,none]) (last:=2) (esc:=(aF gU).names) (XN:=vT) rfl rfl af ac ac rfl (eC<|d3 4<|pv 4) (λ_ _ _ _ _ _=>(mL 0<|cG (show Nodup (["c","p",".acc"]:List Str)by decide +kernel) rfl (Or.inl rfl))) (λ_ _ _ _ _ _=>dN) (λ_ _ _ _ _ _=>(aK eO (d3 0<|pv 0)<|d3 1<|pv 1))) aB))<|aE (aK bL (eJ (mZ 0<|pv 0) rfl Z.z0) aD) aB)) aB) c64 rfl ac) c66)
theorem d87 (Z:Zs mg):DT<$>d16 "_law_mixed" b12 0 bI5:=λhr=>
 (bH 3 bP7.nd (aK eO (aK cA (aK bZ (aK bZ (aK bZ (aP 0)<|aK cA (aK cA aD<|aP 1)<|aP 1)<|aK cA aD<|aP 1) aD) aD) aD)<|bH 3 bP7.nd (aK eO (aK cA (aP 3)<|aP 3) aD)<|eM<|aK eO (aK cA (aP 3) aD)<|aP 2)
theorem d88 (Z:Zs mg)(aK2:cM6<$>P):DT<$>d17 "_law_draws" b13 1 bI6:=λhr=>
 (bH 3 zN.nd aD<|gR (fQ dD9 (aP 0)<|aK b38 aD aD) (aY<|sS 3 zN.nd<|aK bL (aP 0)<|aK b38 aD aD)<|bH 4 zN.nd (cH aB)<|bC (kU 5 zN.nd (cN rfl Z.z4 (aE (eJ (bM 1) rfl Z.z0) aB))<|aY<|cC8 (fQ aB6 (aP 3) aD) (bC (iT 4 (pv 4)<|aK eO (aP 3)<|bU (bM 1)<|aP 5)<|aY<|sS 3 zN.nd<|aK uU (aP 3)<|bU (bM 1)<|aP 5)<|aY<|iT 4 (pv 4)<|aK eO (cP aK2 hr<|aO 0<|aO 5<|aO 2 aB)<|bU (bM 1)<|aP 5)<|aY<|jR 4<|pv 4)
theorem cN3 (Z:Zs mg):DT<$>c27 "_law_shifted" zJ 0 aT2:=λhr=>
 (bH 2 a72.nd (cB bE0 rfl Z.z2 aX6 (aO 0 aB))<|bC (kU 3 a72.nd (cN rfl Z.z4 (aE (aK bL (eJ (bM 2) rfl Z.z0) aD) aB))<|aY<|kU 4 a72.nd (yO rfl Z.z4 (aE (aK bL (eJ (bM 2) rfl Z.z0) aD)<|aE (aK bL (aP 3) aD)<|sA (gK aD) aB))<|aY<|jN 2 (pv 2) (aK bZ (bU (bM 2)<|aP 4)<|aK cA (aP 1)<|bU (bM 2)<|aK bZ (aP 4) aD)<|aP 4)<|eM<|cB dE rfl Z.z6 dB (aO 2 aB))
theorem dP5 (Z:Zs mg)(jU:b25<$>P)(aK3:cW0<$>P):DT<$>cV5 "_law_poly" b81 2 c89:=λhr=>
 (bH 2 aJ9.nd (cP jU hr<|aO 0<|aE (cH<|b7<|b7 aB)<|aO 1 aB)<|bH 3 aJ9.nd (j6 (kH<|cP jU hr<|aO 0<|aE (cH<|b7<|b7<|b7<|b7<|b7<|b7 aB)<|aO 1 aB) (gQ aD)<|gQ<|aK bZ (bU (bM 2) aD) aD)<|gR (fQ fJ (bU (bM 2) aD) aD) (eM<|cB dE rfl Z.z6 dB (aE (aK bZ (mC ["_law_place",".acc"] (aF b81).names cV5 (eC<|aP 3) (λ_ _ _ _ _ _=>dN) λ_ _ _ _ _ _=>(aK bL (aP 0) aD))<|cH<|b7 aB) aB))<|bH 4 aJ9.nd (cP jU hr<|aO 0<|aE (cH<|b7<|b7<|b7<|b7<|b7<|b7<|b7 aB)<|aO 1 aB)<|gR (fQ fJ (bU (bM 2) aD) aD) (bH 4 aJ9.nd (cP jU hr<|aO 0<|aE (cH<|b7<|b7<|b7<|b7 aB)<|aO 1 aB)<|eM<|eB<|aE (aK bL (bU (bM 4) aD) aD)<|aE (aK bL (bU (bM 4) aD) aD)<|b7 aB)<|gR (fQ fJ (bU (bM 2) aD) aD) (eM<|cP aK3 hr<|pQ (eB<|aE (aK bL (bU (bM 4) aD) aD)<|aE (aK bL (bU (bM 4) aD) aD)<|aE (aK bL (bU (bM 4) aD) aD)<|b7 aB)<|aE (aK bL (bU (bM 4) aD) aD) aB)<|bH 4 aJ9.nd (cP jU hr<|aO 0<|aE (cH<|b7<|b7<|b7<|b7<|b7<|b7<|b7 aB)<|aO 1 aB)<|eM<|cP aK3 hr<|pQ (eB<|aE (aK bL (bU (bM 4) aD) aD)<|aE (aK bL (bU (bM 4) aD) aD)<|aE (aK bL (bU (bM 4) aD) aD)<|aE (aK bL (bU (bM 4) aD) aD)<|b7 aB)<|aE (aK bL (bU (bM 4) aD) aD) aB)
theorem dP6 (Z:Zs mg):DT<$>dO2 "_law_cell" bO6 0 c70:=λhr=>
 (gR (fQ fJ (eJ (bM 0) rfl Z.z0) aD) (eM<|aK cA aD<|aK bZ (aP 1) aD)<|gR (fQ bW6 (aP 1)<|eJ (bM 0) rfl Z.z0) (eM<|bU (bM 0)<|aP 1)<|eM<|aK bZ (bU (bM 0)<|aK eO (aP 1)<|eJ (bM 0) rfl Z.z0)<|aK cA aD<|aP 1)
theorem bR1 (Z:Zs mg)(aK2:cM6<$>P):DT<$>b14 "_law_known_ring" pH 1 xQ:=λhr=>
 (by refine WS.out ?_;exact ws_lw (cR7 (aA4<|aA4<|aA4 aC4)<|cR7 (d55<|aA4<|aA4 aC4)<|cR7 (aA4<|aA4<|aA4 aC4)<|cR7 (d55<|aA4<|aA4 aC4)<|cR7 (d55<|d55<|aA4<|aA4 aC4)<|cR7 (d55<|aA4<|aA4<|aA4 aC4)<|cR7 (d55<|aA4<|aA4<|aA4 aC4) aC4) (ws_of<|bH 1 xX.nd (aK bZ (aP 1)<|cH<|pQ (eB<|b7<|b7<|b7<|b7<|b7 aB)<|pQ (eB<|sA (gK aD)<|sA (gK aD)<|b7<|b7<|b7 aB)<|pQ (eB<|b7<|b7<|b7<|b7<|b7 aB)<|pQ (eB<|sA (gK aD)<|b7<|b7<|b7<|b7 aB)<|pQ (eB<|b7<|b7<|sA (gK aD)<|b7<|b7 aB) aB)<|eM<|bU (bM 1)<|aK eO (cP aK2 hr<|aO 0<|b7<|b7 aB) aD) xX.nd)
theorem dP7 (Z:Zs mg){eZ:Addr}(i5:mg "RingError"=some (.ref eZ))(kJ:excIn K eZ bmV vN=true)(iB: ∀n∈(["FallsApart","TooGreat","NotWhole"]:List Str),∀C,mg n=some (.ref C)->a43 K eZ C bmV vN)(bF7:MkX<$>"Ring" 10 ["poly","degree","measure"] yX)(cW8:e17<$>P)(a85:d29<$>P)(a86:bU1<$>P):DT<$>dO3 "_law_ring" bO7 11 c88:=λhr=>
 (bH 3 aK0.nd bG5<|bC (kU 4 aK0.nd (cN rfl Z.z4 (b7 aB))<|aY<|c60 (c59<|aP 3)<|aY<|dX2 3 ["FallsApart","TooGreat","NotWhole"] pV bF7 hr ac rfl rfl rfl rfl rfl (λ_=>(aE (cP cW8 hr<|aE (cP a85 hr<|aO 0<|aE (aK bZ (aP 1)<|aP 4) aB)<|aO 2 aB) aB)) aK0.nd rfl (Or.inl rfl) (λ_=>(aY<|sS 3 aK0.nd bG5)) rfl i5 kJ iB (il (n:=5) rfl ac))<|gR (c59<|aP 3) (aY<|sS 3 aK0.nd<|dX1 bF7 hr ac rfl (aE (cP a86 hr<|aE (cP a85 hr<|aO 0<|aO 1 aB) aB) aB))<|aY<|jR 3<|pv 3)
theorem cW7 (Z:Zs mg):DT<$>cK6 "_law_shared" aH0 0 b65:=λhr=>
 (bC (aB3 iE (fQ cD2 (aP 1) aD)<|aY<|us_par 0 1 rfl c32.nd rfl rfl ac rfl rfl (aO 1<|aE (aK eO (aP 0)<|aP 1) aB) rfl (hl:=il2 (n:=2) rfl ac ac))<|eM<|dP xB rfl Z.z9 xE (aO 0 aB))
theorem d89 (Z:Zs mg):DT<$>d21 "_law_value" b15 0 bM7:=λhr=>
 (bH 2 b22.nd aD<|bC (kU 3 b22.nd (cZ1 rfl Z.z3 (aO 0 aB))<|aY<|sS 2 b22.nd<|aK bZ (aK cA (aP 2)<|aP 1)<|aP 3)<|aY<|jR 2<|pv 2)
theorem d90 (Z:Zs mg):DT<$>d22 "_law_known" b16 0 bM8:=λhr=>
 (bH 3 zO.nd (cH aB)<|bH 4 zO.nd aD<|bC (kU 5 zO.nd (cN rfl Z.z4 (aO 0 aB))<|bH 6 zO.nd (aK cA (cH<|b7 aB)<|aP 0)<|bC (cC8 (fQ fJ (aP 5) aD) (aY<|jN 6 (pv 6) (aP 1) aD)<|bH 4 zO.nd (aK eO (aK cA (aP 4)<|aP 2)<|aP 1)<|bC (jN 6 (pv 6) (aK eO (gK<|aP 4)<|aP 1) aD)<|aY<|jN 6 (pv 6) aD<|aP 5)<|aY<|iT 3 (pv 3)<|cB dE rfl Z.z6 dB (aO 6 aB))<|eM<|cB dE rfl Z.z6 dB (aO 3 aB))
theorem bF6 (Z:Zs mg){k:Nat}{kW:Φ}(hk:1<=k)(aA3:Fn<$>"_law_det" rJ k kW):DT<$>dO4 "_law_det" bO8 k (cU8 kW):=λhr=>
 (bC (cC8 (a35 fJ (eJ (mZ 0<|pv 0) rfl Z.z0) aD<|aS0 _) (aY<|c48<|aB4 (kH<|aB4 (mZ 0<|pv 0) aD λ_ _=>rfl) aD λ_ _=>rfl) c47)<|bC (xA 1 aH2.nd rfl (Or.inl rfl) aD (hl:=il (n:=4) rfl ac))<|bC (b36 iE rfl (cN rfl Z.z4 (aE (eJ (mZ 0<|pv 0) rfl Z.z0) aB)) (mL 2<|cG aH2.nd rfl (Or.inl rfl)) (bC (oM (js:=[]) (N:=["_law_row_here",".acc"]) (cap:=[none,none]) (last:=1) (esc:=(aF bO8).names) (XN:=dO4) 3 rfl rfl af ac ac rfl (eC<|aK bZ (j6 (mZ 0<|pv 0) jW<|gQ<|d3 2<|pv 2)<|j6 (mZ 0<|pv 0) (gQ<|aK bZ (d3 2<|pv 2) aD) jW) (λ_ _ _ _ _ _=>(mL 0<|cG (show Nodup (["_law_row_here",".acc"]:List Str)by decide +kernel) rfl (Or.inl rfl))) (λ_ _ _ _ _ _=>dN) (λ_ _ _ _ _ _=>(j6 (mZ 0<|pv 0) (gQ aD) jW)) (cG aH2.nd rfl (Or.inl rfl)) (il (n:=4) rfl ac))<|aY<|xA 1 aH2.nd rfl (Or.inl rfl) (aK bZ (d3 1<|pv 1)<|aK cA (aK cA (aK bL aD<|aK cA aD<|aK eO (d3 2<|pv 2) aD)<|aB4 (kH<|aB4 (mZ 0<|pv 0) (d3 2<|pv 2) λ_ _=>rfl) aD λ_ _=>rfl)<|yM aA3 hr (aH _) rfl (aE (d3 3<|pv 3) aB)) (hl:=il (n:=4) rfl ac)))<|aY<|jR 1<|pv 1)
theorem d91 (Z:Zs mg):DT<$>d23 "_law_times" b17 0 bL6:=λhr=>
 (bH 3 sN.nd (aK bL (eJ (bM 0) rfl Z.z0) aD)<|bH 4 sN.nd (aK cA (cH<|b7 aB)<|aK bL (aK cA aD<|aP 3) aD)<|bC (kU 5 sN.nd (cN rfl Z.z4 (aO 3 aB))<|aY<|kU 6 sN.nd (cN rfl Z.z4 (aO 3 aB))<|aY<|jN 4 (pv 4) (aK bZ (bU (bM 4)<|aK bZ (aP 5)<|aP 6)<|aK cA (bU (bM 1)<|aP 5)<|bU (bM 2)<|aP 6)<|aK bZ (aP 5)<|aP 6)<|bC (kU 7 sN.nd (yO rfl Z.z4 (aE (aK bL (aK cA aD<|aP 3) aD)<|aE (aK bL (aP 3) aD)<|sA (gK aD) aB))<|aY<|kU 6 sN.nd (cN rfl Z.z4 (aO 3 aB))<|bH 8 sN.nd (aK bZ (aK bL (aP 7)<|aP 3)<|aP 6)<|aY<|jN 4 (pv 4) (aK bL (bU (bM 4)<|aP 8)<|aK cA (bU (bM 4)<|aP 7)<|bU (bM 0)<|aP 6)<|aP 8)<|eM<|cB dE rfl Z.z6 dB (aE (j6 (bM 4) jW<|gQ<|aP 3) aB))
theorem d92 (Z:Zs mg)(aK4:cM7<$>P):DT<$>c99 "_law_table" bF5 1 bM5:=λhr=>
 (bH 2 vW.nd (aK bL (eJ (bM 0) rfl Z.z0) aD)<|bH 3 vW.nd (cB dE rfl Z.z6 dB (aE (mC ["_law_k",".acc"] (aF bF5).names c99 (cN rfl Z.z4 (aO 2 aB)) (λ_ _ _ _ _ _=>dN) λ_ _ _ _ _ _=>(cB cQ3 rfl Z.z14 c71 (aE (cR8 fJ (aP 0) aD) aB))) aB))<|bH 4 vW.nd (cH aB)<|bH 5 vW.nd (cB dE rfl Z.z6 dB (aO 1 aB))<|bC (kU 6 vW.nd (cN rfl Z.z4 (aO 2 aB))<|bC (iT 4 (pv 4)<|aP 5)<|aY<|sS 5 vW.nd<|cP aK4 hr<|aO 0<|aO 3<|aO 5 aB)<|aY<|jR 4<|pv 4)
theorem d93 (Z:Zs mg):DT<$>a69 "_law_stair" wT 0 bK2:=λhr=>
 (bC (oM (js:=[0,1]) (N:=["_law_i","_law_many","_law_m",".acc"]) (cap:=[none,some 0,some 1,none]) (last:=3) (esc:=(aF wT).names) (XN:=a69) 3 rfl rfl af ac ac rfl (cN rfl Z.z4 (aO 0 aB)) (λ_ _ _ _ _ _=>(mL 0<|cG (show Nodup (["_law_i","_law_many","_law_m",".acc"]:List Str)by decide +kernel) rfl (Or.inr rfl))) (λ_ _ _ _ _ _=>dN) (λ_ _ _ _ _ _=>(mC ["_law_j","_law_m","_law_i",".acc"] [(".0",NameKind.local),("_law_i",NameKind.cell),("range",NameKind.globalImplicit),("_law_m",NameKind.cell),("_law_many",NameKind.cell)] ["_law_i","_law_many","_law_m",".acc"] (cN rfl Z.z4 (aO 1 aB)) (λ_ _ _ _ _ _=>dN) λ_ _ _ _ _ _=>(aK cA (aP 1)<|cB cQ3 rfl Z.z14 c71 (aE (cR8 fJ (aP 2)<|aP 0) aB)))) (cG kC.nd rfl (Or.inl rfl)) (il (n:=12) rfl ac))<|bC (kU 4 kC.nd (eC<|aP 2)<|bC (oM (js:=[1]) (N:=["_law_place","_law_m",".acc"]) (cap:=[none,some 1,none]) (last:=2) (esc:=(aF wT).names) (XN:=a69) 5 rfl rfl af ac ac rfl (eC<|aP 4) (λ_ _ _ _ _ _=>(mL 0<|cG (show Nodup (["_law_place","_law_m",".acc"]:List Str)by decide +kernel) rfl (Or.inl rfl))) (λ_ _ _ _ _ _=>dN) (λ_ _ _ _ _ _=>(aK eO (aP 0)<|aP 1)) (cG kC.nd rfl (Or.inl rfl)) (il (n:=12) rfl ac))<|aY<|kU 6 kC.nd (yO rfl Z.z4 (aE (aK bL (aP 0) aD)<|sA (gK aD)<|sA (gK aD) aB))<|aY<|aB3 iE (fQ cD2 (bU (bM 5)<|aP 6) aD)<|bH 7 kC.nd (aK uU (bU (kH<|bU (bM 3)<|aP 6)<|aP 6)<|bU (bM 5)<|aP 6)<|bH 8 kC.nd (aK bL (bU (kH<|bU (bM 3)<|aP 6)<|aP 6)<|aK cA (aP 7)<|bU (bM 5)<|aP 6)<|bH 9 kC.nd (j6 (kH<|bU (bM 3)<|aP 6) jW<|gQ<|aP 6)<|bC (oM (js:=[7,1]) (N:=["_law_a","_law_b","_law_part","_law_m",".acc"]) (cap:=[none,none,some 7,some 1,none]) (last:=4) (esc:=(aF wT).names) (XN:=a69) 9 rfl rfl af ac ac rfl (cR2 (by rfl) Z.z7<|aO 9<|aO 5 aB) (λ_ _ _ _ _ _=>(wZ rfl (fF 0 (cG (show Nodup (["_law_a","_law_b","_law_part","_law_m",".acc"]:List Str)by decide +kernel) rfl (Or.inl rfl))<|fF 1 (cG (show Nodup (["_law_a","_law_b","_law_part","_law_m",".acc"]:List Str)by decide +kernel) rfl (Or.inl rfl)) rR) (dR<|dR nG))) (λ_ _ _ _ _ _=>dN) (λ_ _ _ _ _ _=>(aK eO (aK bL (aP 0)<|aK cA (aP 2)<|aP 1)<|aP 3)) (cG kC.nd rfl (Or.inl rfl)) (il (n:=12) rfl ac))<|bC (jN 3 (pv 3) (aP 5)<|aP 6)<|aY<|sS 5 kC.nd<|aK bZ (aK bZ (aP 9)<|cH<|aO 8 aB)<|aK cA (cH<|b7 aB)<|aK bL (aK bL (aP 0) aD)<|aP 6)<|bC (kU 10 kC.nd (cN rfl Z.z4 (aO 0 aB))<|aY<|kU 11 kC.nd (yO rfl Z.z4 (aE (aK bL (aP 10) aD)<|sA (gK aD)<|sA (gK aD) aB))<|bH 7 kC.nd (aK uU (bU (kH<|bU (bM 3)<|aP 10)<|aP 11)<|bU (kH<|bU (bM 3)<|aP 11)<|aP 11)<|aY<|jN 3 (pv 3) (yN (js:=[7]) (N:=["_law_a","_law_b","_law_part",".acc"]) (cap:=[none,none,some 7,none]) (last:=3) (esc:=(aF wT).names) (XN:=a69) rfl rfl af ac ac rfl (cR2 (by rfl) Z.z7<|aE (bU (bM 3)<|aP 10)<|aE (bU (bM 3)<|aP 11) aB) (λ_ _ _ _ _ _=>(wZ rfl (fF 0 (cG (show Nodup (["_law_a","_law_b","_law_part",".acc"]:List Str)by decide +kernel) rfl (Or.inl rfl))<|fF 1 (cG (show Nodup (["_law_a","_law_b","_law_part",".acc"]:List Str)by decide +kernel) rfl (Or.inl rfl)) rR) (dR<|dR nG))) (λ_ _ _ _ _ _=>dN) (λ_ _ _ _ _ _=>(aK bL (aP 0)<|aK cA (aP 2)<|aP 1)))<|aP 10)<|eM<|cB dE rfl Z.z6 dB (aE (mC ["_law_row_here",".acc"] (aF wT).names a69 (eC<|aP 3) (λ_ _ _ _ _ _=>dN) λ_ _ _ _ _ _=>(cB dE rfl Z.z6 dB (aO 0 aB))) aB))
theorem cN4 (Z:Zs mg)(aK4:cM7<$>P)(aK5:cM8<$>P):DT<$>b82 "_law_product" u4 1 aT8:=λhr=>
 (bH 3 a73.nd (cH aB)<|bC (kU 4 a73.nd (eC<|aP 1)<|aY<|sS 3 a73.nd<|aK bZ (aP 3)<|mC ["_law_y","_law_poly_here","_law_x",".acc"] (aF u4).names b82 (eC<|aP 2) (λ_ _ _ _ _ _=>dN) λ_ _ _ _ _ _=>(cP aK4 hr<|aO 1<|aO 2<|aO 0 aB))<|eM<|cP aK5 hr<|aE (aK bL (eJ (bM 0) rfl Z.z0) aD)<|aE (aK cA (bU (kH<|bU (bM 1) aD) aD)<|bU (kH<|bU (bM 2) aD) aD)<|aO 3 aB)
theorem dP8 (Z:Zs mg)(rV:bQ4<$>P)(wA:c34<$>P)(aA3:cW1<$>P)(aK5:cM8<$>P):DT<$>dO5 "_law_made" bP0 5 c94:=λhr=>
 (bH 2 a74.nd aD<|bH 3 a74.nd (cH aB)<|bC (kU 4 a74.nd (eC<|aP 1)<|bH 5 a74.nd (cP rV hr<|aO 0<|aO 4 aB)<|bH 2 a74.nd (cP wA hr<|aO 2<|aE (cP aA3 hr<|aO 5 aB) aB)<|aY<|sS 3 a74.nd<|aK bZ (aP 3)<|aP 5)<|eM<|cP aK5 hr<|aE (aK bL (eJ (bM 0) rfl Z.z0) aD)<|aO 2<|aO 3 aB)
theorem dP9 (Z:Zs mg)(jU:b25<$>P)(wA:c34<$>P)(cA7:dP1<$>P)(bF8:dP2<$>P)(aA3:cW1<$>P)(rV:bQ4<$>P)(b88:cW2<$>P)(cW9:e19<$>P):DT<$>bP1 "_law_near" aH1 6 c97:=λhr=>
 (bH 3 iQ.nd (aK bL (eJ (bM 0) rfl Z.z0) aD)<|bH 4 iQ.nd (cP jU hr<|aO 1<|aE (aK bZ (cH<|b7<|b7<|b7<|b7<|b7<|b7<|b7 aB)<|aK cA (cH<|b7 aB)<|aP 3)<|aO 2 aB)<|bH 5 iQ.nd (cB dE rfl Z.z6 dB (aE (mC ["_law_place",".acc"] (aF aH1).names bP1 (eC<|j6 (bM 4) (gQ aD) jW) (λ_ _ _ _ _ _=>dN) λ_ _ _ _ _ _=>(aK bL (aP 0) aD)) aB))<|gR (PUW.pt<|aS1 (fQ fJ (bU (bM 4) aD) aD)<|aI7<|fQ (cR1 hr.units) (aP 5)<|cB dE rfl Z.z6 dB (aE (aK cA (cH<|b7 aB)<|aP 3) aB)) (aY<|sS 5 iQ.nd<|cB dE rfl Z.z6 dB (aE (aK bZ (cH<|aE (aK bZ aD<|aK eO (bU (bM 4) aD) aD) aB)<|mC ["_law_place",".acc"] (aF aH1).names bP1 (eC<|j6 (bM 4) (gQ aD) jW) (λ_ _ _ _ _ _=>dN) λ_ _ _ _ _ _=>(aK bL (aK eO (aP 0) aD) aD)) aB))<|bH 6 iQ.nd (aK bZ aD<|bU (bM 4) aD)<|bH 7 iQ.nd (cH aB)<|bC (kU 8 iQ.nd (cN rfl Z.z4 (b7 aB))<|bH 9 iQ.nd (aK bL (bU (bM 4)<|aK bZ aD<|aP 8) aD)<|bH 10 iQ.nd (bU (kH<|cH<|b7<|aE (aK bZ aD<|bU (bM 4)<|aK bZ aD<|aP 8) aB)<|aK eO (bU (bM 4) aD) aD)<|bH 11 iQ.nd (cP wA hr<|aE (cP cA7 hr<|aO 0<|aO 9 aB)<|aO 10 aB)<|aY<|iT 7 (pv 7)<|cP bF8 hr<|aO 3<|aO 11<|aO 9 aB)<|gR (fQ fJ (bU (bM 4) aD) aD) (aY<|sS 6 iQ.nd<|cP wA hr<|aE (cP aA3 hr<|aE (cP rV hr<|aO 0<|aO 5 aB) aB)<|b7 aB)<|bH 12 iQ.nd (bU (bM 7) aD)<|gR (fQ fJ (bU (bM 4) aD) aD) (aY<|sS 12 iQ.nd<|cP b88 hr<|aO 0<|aE (bU (bM 7) aD)<|aE (bU (bM 7) aD) aB)<|gR (PUW.pt<|aS1 (fQ fJ (bU (bM 4) aD) aD)<|aI7<|fQ fJ (bU (bM 4) aD) aD) (aY<|sS 12 iQ.nd<|cP cW9 hr<|aO 0<|aE (cH<|aO 5<|aE (cB dE rfl Z.z6 dB (aE (aK bZ (cH<|aO 6 aB)<|aK cA (cH<|b7 aB)<|aK bL (aP 3) aD) aB)) aB) aB)<|gR (fQ fJ (bU (bM 4) aD) aD) (aY<|sS 12 iQ.nd<|cP bF8 hr<|aO 3<|b7<|b7 aB)<|bH 13 iQ.nd aD<|gR (PUW.pt<|aS1 (fQ fJ (bU (bM 4) aD) aD)<|aI7<|fQ fJ (bU (bM 4) aD) aD) (aY<|sS 13 iQ.nd<|aK bZ aD<|bU (bM 4) aD)<|eM<|cB dE rfl Z.z6 dB (aE (mC ["_law_row_here","_law_content",".acc"] (aF aH1).names bP1 (eC<|aP 12) (λ_ _ _ _ _ _=>dN) λ_ _ _ _ _ _=>(cB dE rfl Z.z6 dB (aE (mC ["_law_place","_law_content",".acc"] [(".0",NameKind.local),("_law_row_here",NameKind.local),("tuple",NameKind.globalImplicit),("_law_content",NameKind.cell)] ["_law_row_here","_law_content",".acc"] (eC<|aP 0) (λ_ _ _ _ _ _=>dN) λ_ _ _ _ _ _=>(aK cA (aP 1)<|aP 0)) aB))) aB))
theorem e21 (Z:Zs mg)(jU:b25<$>P):DT<$>e58 "_law_far" cL2 2 cS9:=λhr=>
 (bH 4 bP8.nd (cP jU hr<|aO 0<|aE (aK bZ (cH<|b7 aB)<|aK cA (cH<|aE (aK b38 aD aD) aB)<|aP 1)<|aO 3 aB)<|bH 5 bP8.nd aD<|bC (kU 6 bP8.nd (eC<|j6 (bM 4) (gQ aD) jW)<|aY<|sS 5 bP8.nd<|aK bZ (aK cA (aP 5)<|aK b38 aD aD)<|aP 6)<|gR (fQ fJ (bU (bM 4) aD) aD) (eM aD)<|gR (fQ fJ (bU (bM 4) aD) aD) (eM<|aK bL (aK eO (aP 5) aD) aD)<|eM<|aK bL (aK eO (aP 5)<|aK bZ (aK cA aD<|aP 2) aD)<|aP 2)
theorem cN5 (Z:Zs mg):DT<$>c29 "_law_corners" zK 0 aT9:=λhr=>
 (bH 1 a75.nd aD<|bC (kU 2 a75.nd (cN rfl Z.z4 (aE (eJ (bM 0) rfl Z.z0) aB))<|aY<|sS 1 a75.nd<|aK cA (aP 1)<|bU (kH<|bU (bM 0)<|aP 2)<|aP 2)<|aY<|jR 1<|pv 1)
theorem e22 (Z:Zs mg):DT<$>e59 "_law_box" cL3 0 cV3:=λhr=>
 (bH 2 aU9.nd (cH<|pQ (eB aB) aB)<|bC (kU 3 aU9.nd (cN rfl Z.z4 (aO 0 aB))<|bH 4 aU9.nd (cH aB)<|bC (kU 5 aU9.nd (eC<|aP 2)<|aY<|kU 6 aU9.nd (bX7 rfl Z.z4 (sA (gK<|aP 1)<|aE (aK bZ (aP 1) aD) aB))<|aY<|iT 4 (pv 4)<|aK bZ (aP 5)<|eB<|aO 6 aB)<|aY<|sS 2 aU9.nd<|aP 4)<|aY<|jR 2<|pv 2)
theorem der_in (Z:Zs mg):DT<$>N_in "_law_in" d83 0 dN6:=λhr=>
 (bH 2 cL9.nd (cB bE0 rfl Z.z2 aX6 (aO 1 aB))<|bC (kU 3 cL9.nd (yO rfl Z.z4 (aE (aK bL (eJ (bM 0) rfl Z.z0) aD)<|sA (gK aD)<|sA (gK aD) aB))<|bH 4 cL9.nd (aK uU (bU (bM 2)<|aP 3)<|bU (kH<|bU (bM 0)<|aP 3)<|aP 3)<|aY<|kU 5 cL9.nd (cN rfl Z.z4 (aE (aK bZ (aP 3) aD) aB))<|aY<|jN 2 (pv 2) (aK bL (bU (bM 2)<|aP 5)<|aK cA (aP 4)<|bU (kH<|bU (bM 0)<|aP 3)<|aP 5)<|aP 5)<|eM<|dP (bH1 rfl) rfl Z.z10 bH2 (aE (mC ["_law_place",".acc"] (aF d83).names N_in (eC<|aP 2) (λ_ _ _ _ _ _=>dN) λ_ _ _ _ _ _=>(cR8 fJ (aP 0) aD)) aB))
theorem d94 (Z:Zs mg):DT<$>d26 "_law_whole" b18 0 bI9:=λhr=>
 (eM<|cP8 (dP c50 rfl Z.z15 rS (aO 0<|aE (cD3 rfl Z.z14 c71) aB))<|dD1<|cP9<|dP c50 rfl Z.z15 rS (aO 0<|aE (cD3 rfl Z.z16 dY2) aB))
theorem e23 (Z:Zs mg)(cA8:dP3<$>P):DT<$>dO8 "_law_row" c30 1 cU2:=λhr=>
 (gR (PUW.pt<|aS1 (bD9<|b95<|dP c50 rfl Z.z15 rS (aO 0<|aE (cD3 rfl Z.z6 dB) aB))<|aI7<|fQ cD2 (eJ (bM 0) rfl Z.z0)<|aP 1) (eM bW4)<|eM<|dP (bH1 rfl) rfl Z.z10 bH2 (aE (mC ["_law_place",".acc"] (aF c30).names dO8 (eC<|aP 0) (λ_ _ _ _ _ _=>dN) λ_ _ _ _ _ _=>(cP cA8 hr<|aO 0 aB)) aB))
theorem cN6 (Z:Zs mg){eZ:Addr}(i5:mg "RingError"=some (.ref eZ))(kJ:excIn K eZ bmV vN=true){bQ:Addr}(eY:mg "TooGreat"=some (.ref bQ))(hG:excIn K bQ bmV vN=true){oU:Addr}(rO:mg "NoPrime"=some (.ref oU))(aK6:excIn K oU bmV vN=true)(iB: ∀n∈(["FallsApart","TooGreat","NotWhole"]:List Str),∀C,mg n=some (.ref C)->a43 K eZ C bmV vN)(KX_TooGreat:dI3 K bQ)(U1_TooGreat:a43 K bQ bQ bmV vN)(ki_TooGreat_TooGreat:kitOne K (.ref bQ) (.ref bQ)=some true)(ki_TooGreat_ValueError:kitOne K (.ref bQ) (.type "ValueError")=some true)(ki_TooGreat_NoPrime:kitOne K (.ref bQ) (.ref oU)=some false)(aV5:FnX<$>"boxed" aU6 7 wN):DT<$>c31 "_law_refused" zL 7 aU2:=λhr=>
 (bC (dY0 4 (.inl ⟨rfl,rfl⟩) pV rfl rfl rfl rfl (dX8 aV5 hr ac rfl (λ_=>(aO 0<|aO 1<|aO 2<|aO 3 aB))) (λa oe x ho hx=>(eM<|cP8 (cS7 4 KX_TooGreat (jF ..) ho hx (pv 4) (dI6 rfl eY) rfl ki_TooGreat_TooGreat rfl Z.z15)<|cP8 (cS7 4 KX_TooGreat (jF ..) ho hx (pv 4) (cD3 rfl Z.z17 bS1) rfl ki_TooGreat_ValueError rfl Z.z15)<|dD1<|cP9<|cS7 4 KX_TooGreat (jF ..) ho hx (pv 4) (dI6 rfl rO) rfl ki_TooGreat_NoPrime rfl Z.z15)) rfl i5 (.inl kJ) eY (iB _ ac _ eY) bP9.nd rfl rfl (il (n:=5) rfl ac))<|eM bW4)
theorem d95 (Z:Zs mg):DT<$>d27 "_law_reach" b19 0 bN5:=λhr=>
 (bH 4 cM0.nd (bU (kH<|cH<|b7<|b7<|b7 aB)<|aK bL (aP 0) aD)<|gR (fQ fJ (bU (bM 1) aD) aD) (eM<|aK bZ (aK bZ (aP 4) aD)<|bU (kH<|cH<|b7<|aE (bU (bM 1) aD)<|aE (dP xB rfl Z.z9 xE (aO 2 aB)) aB)<|aK eO (bU (bM 1) aD) aD)<|gR (fQ fJ (bU (bM 1) aD) aD) (eM<|aK bL (gK aD)<|bU (kH<|cH<|b7<|aE (bU (bM 1) aD)<|aE (dP xB rfl Z.z9 xE (aO 2 aB)) aB)<|aK eO (bU (bM 1) aD) aD)<|gR (PUW.pt<|oW (fQ fJ (aP 0) aD)<|oW (fQ bW6 (aP 3) aD)<|oV<|fQ aB6 (bU (bM 1) aD) aD) (eM<|aK eO (bU (bM 1) aD) aD)<|eM<|aK eO (bU (bM 1) aD)<|aK bZ (aP 4) aD)
theorem e24 (Z:Zs mg)(cX0:e18<$>P)(cX1:e20<$>P)(a85:d29<$>P)(jU:b25<$>P)(dQ1:TF_far<$>P)(cA9:dP4<$>P)(aK7:cW3<$>P)(b89:cW4<$>P)(dQ2:TF_box<$>P)(F_in:TF_in<$>P)(aA3:cW1<$>P)(rV:bQ4<$>P)(aK8:cV8<$>P)(dQ3:TF_row<$>P):DT<$>cL6 "law" aA2 12 c98:=λhr=>
 (bH 1 rK.nd (cP cX0 hr<|aO 0<|b7<|b7 aB)<|bH 2 rK.nd (aC7<|aP 1)<|bH 3 rK.nd (aK bL (eJ (bM 2) rfl Z.z0) aD)<|bH 4 rK.nd (cP cX1 hr<|aO 2<|aE (cP a85 hr<|aO 0<|b7 aB)<|b7 aB)<|bH 5 rK.nd (cP jU hr<|aE (cP a85 hr<|aO 0<|b7 aB)<|aE (cH<|b7<|b7<|b7<|aE (aK b38 aD aD)<|b7 aB)<|b7 aB)<|bH 6 rK.nd (cP dQ1 hr<|aE (cP a85 hr<|aO 0<|b7 aB)<|b7<|aE (aK b38 aD aD)<|b7 aB)<|bH 7 rK.nd (cP cA9 hr<|aO 3<|aO 5<|aO 6<|aE (cP aK7 hr<|aO 4 aB) aB)<|bH 8 rK.nd (aK cA (aP 6)<|cB cQ3 rfl Z.z14 c71 (aE (cR8 aB6 (bU (bM 5) aD) aD) aB))<|gR (aW9<|fQ aB6 (aP 7)<|bU (kH<|cH<|b7<|b7<|b7 aB)<|aK bL (aP 3) aD) (eM<|cP b89 hr<|aO 1<|aO 4<|aO 7<|aO 8 aB)<|bC (oM (js:=[4]) (N:=["_law_row_here","_law_table_here",".acc"]) (cap:=[none,some 4,none]) (last:=2) (esc:=(aF aA2).names) (XN:=cL6) 9 rfl rfl af ac ac rfl (eC<|cP dQ2 hr<|aO 3<|aO 7 aB) (λ_ _ _ _ _ _=>(mL 0<|cG (show Nodup (["_law_row_here","_law_table_here",".acc"]:List Str)by decide +kernel) rfl (Or.inl rfl))) (λ_ _ _ _ _ _=>(aW7<|b95<|cP F_in hr<|aO 1<|aO 0 aB)) (λ_ _ _ _ _ _=>(aP 0)) (cG rK.nd rfl (Or.inl rfl)) (il (n:=12) rfl ac))<|gR (aW9<|PUW.pt<|oW (fQ aB6 (bU (bM 5) aD) aD)<|oV<|fQ dD9 (aP 7) aD) (aY<|sS 8 rK.nd<|dP xB rfl Z.z9 xE (aE (cP aA3 hr<|aE (cP rV hr<|aO 2<|aE (bU (bM 9)<|aK eO (bU (bM 5) aD)<|eJ (bM 9) rfl Z.z0) aB) aB) aB))<|bC (oM (js:=[2,8]) (N:=["_law_row_here","_law_poly_here","_law_m",".acc"]) (cap:=[none,some 2,some 8,none]) (last:=3) (esc:=(aF aA2).names) (XN:=cL6) 10 rfl rfl af ac ac rfl (eC<|aP 9) (λ_ _ _ _ _ _=>(mL 0<|cG (show Nodup (["_law_row_here","_law_poly_here","_law_m",".acc"]:List Str)by decide +kernel) rfl (Or.inl rfl))) (λ_ _ _ _ _ _=>(aW7<|fQ fJ (dP xB rfl Z.z9 xE (aE (cP aA3 hr<|aE (cP rV hr<|aO 1<|aO 0 aB) aB) aB))<|aP 2)) (λ_ _ _ _ _ _=>(aP 0)) (cG rK.nd rfl (Or.inl rfl)) (il (n:=12) rfl ac))<|bH 11 rK.nd (cP aK8 hr<|aO 1<|aO 4<|aO 7<|aO 8 aB)<|gR (aW9<|PUW.pt<|aS1 (bD9<|b95<|dP c50 rfl Z.z15 rS (aO 11<|aE (cD3 rfl Z.z2 aX6) aB))<|aI7<|bD9<|b95<|dP (bH1 rfl) rfl Z.z10 bH2 (aE (mC ["_law_row_here","_law_many",".acc"] (aF aA2).names cL6 (eC<|aP 11) (λ_ _ _ _ _ _=>dN) λ_ _ _ _ _ _=>(cP dQ3 hr<|aO 0<|aO 1 aB)) aB)) (eM bW4)<|gR (aW9<|fQ (ou_neD hr.units) (aP 11)<|aP 10) (eM bW4)<|gR (aW9<|PUW.pt<|oW (fQ fJ (aP 3) aD)<|oW (fQ fJ (aP 7) aD)<|oV<|fQ bW6 (cP aK7 hr<|aO 4 aB) aD) (eM bW4)<|bC (iT 11 (pv 11)<|aK c58 (eB<|b7 aB)<|aP 3)<|bC (d59 11 (pv 11)<|aK c58 (eB<|b7 aB)<|aP 3)<|eM<|cR8 (cR1 hr.units) (cP aK8 hr<|aO 1<|aO 4<|aO 7<|aO 8 aB)<|aP 10)
theorem cA6 (Z:Zs mg){dS:Addr}(dU:mg "GREATEST_REACH"=some (.ref dS))(i9:KD K dS gM){bQ:Addr}(eY:mg "TooGreat"=some (.ref bQ))(hG:excIn K bQ bmV vN=true)(iW:zP<$>P)(u5:bQ0<$>P)(zQ:c33<$>P){f:Addr}{cdv:Value}{A:Around}{outer:List Env}{s:Shared}{H:Hp}{E:XK}(hr:gX 6 (A.deeper<|envOfC "boxed" (aF l6) s.heap.objs.size f cdv)) :
  yS (uS (CXr P w base) P w K mg base zG "boxed" (aF l6) f cdv A outer s H E) E (eF l6) aF7:=
 (bE5 (cZ6 (a35 aB6 (d3 2<|pv 2) (cE7 rfl dU i9 (aC7<|d3 0<|pv 0))<|aS0 _) (b47<|cF4 pV hG rfl eY rfl (aE dC9 aB) c64 rfl) c66)<|cF3<|aY<|c48<|yN (js:=[1,0,3]) (N:=["x","ideal","ring","m",".acc"]) (cap:=[none,some 1,some 0,some 3,none]) (last:=4) (esc:=(aF l6).names) (XN:=zG) rfl rfl af ac ac rfl (eC<|yM iW hr ac rfl (aE (d3 2<|pv 2)<|aE (aC7<|d3 0<|pv 0) aB)) (λ_ _ _ _ _ _=>(mL 0<|cG (show Nodup (["x","ideal","ring","m",".acc"]:List Str)by decide +kernel) rfl (Or.inl rfl))) (λ_ _ _ _ _ _=>(aW7<|PUW.pt<|oW (b95<|yM u5 hr ac rfl (aE (d3 1<|pv 1)<|aE (d3 0<|pv 0) aB))<|oV<|a35 fJ (dP xB rfl Z.z9 xE (aE (yM zQ hr ac rfl (aE (d3 2<|pv 2)<|aE (d3 0<|pv 0) aB)) aB)) (d3 3<|pv 3)<|aS0 _)) (λ_ _ _ _ _ _=>(d3 0<|pv 0)))
theorem d96 (Z:Zs mg){oH:Tok}(fN:mg "GREATEST_MEASURE"=some (.int 39999 oH)){bQ:Addr}(eY:mg "TooGreat"=some (.ref bQ))(hG:excIn K bQ bmV vN=true)(dO:nF<$>P)(aH8:cA3<$>P)(oJ:FnX<$>"need_together" vS 5 jT)(tD:FnX<$>"need_whole" aA1 9 mM){f:Addr}{cdv:Value}{A:Around}{outer:List Env}{s:Shared}{H:Hp}{E:XK}(hr:gX 9 (A.deeper<|envOfC "Ring.__init__" (aF aH3) s.heap.objs.size f cdv)) :
  PSs (uS (CXr P w base) P w K mg base ["self","poly","size"] "Ring.__init__" (aF aH3) f cdv A outer s H E) (eF aH3) (λD=>lSX K mg E bL2 {D with nx:=tS3 K "poly" "degree" "measure" bL3 bL4 bL5 D}):=
 (bE6 (aX3<|c55<|yM dO hr ac rfl (aE (d3 1<|pv 1) aB))<|bE6 (cZ7 oJ hr ac e49 rfl (aE (d3 1<|pv 1) aB))<|bE6 (aX3<|xA 2 d28.nd rfl (Or.inl rfl) (yM aH8 hr ac rfl (aE (d3 1<|pv 1) aB)) (hl:=il (n:=3) rfl ac))<|bE6 (cZ6 (a35 aB6 (dP xB rfl Z.z9 xE (aE (d3 2<|pv 2) aB)) (cY7 rfl fN)<|aS0 _) (b47<|cF4 pV hG rfl eY rfl (aE dC9 aB) c64 rfl) c66)<|dX3 (cZ7 tD hr ac e49 rfl (aE (d3 1<|pv 1)<|aE (d3 2<|pv 2) aB))<|yJ (cP0 (pv 0) (d3 1<|pv 1) rfl)<|yJ (cP0 (pv 0) (aK bL (eJ (mZ 1<|pv 1) rfl Z.z0) aD) rfl)<|c36<|cP0 (pv 0) (d3 2<|pv 2) rfl)
end
theorem lC {P:List Value->Prop}{n:Nat}(h: ∀a us,us.length=n->P (a::us)): ∀us:List Value,us.length=n+1->P us:=λus=>us.casesOn (λe=>nomatch e) λa us e=>h a us (Nat.succ.inj e)
theorem lN0 {P:List Value->Prop}(h:P []): ∀us:List Value,us.length=0->P us:=λus=>us.casesOn (λ_=>h) λ_ _ e=>nomatch e
local macro_rules| `(tactic| walk_at "b0")=> `(tactic| exact λ_ _ _ _ _ _=>lN0 rfl)
theorem lN1 {P:List Value->Prop}(h: ∀a0,P [a0]): ∀us:List Value,us.length=1->P us:=lC λa0=>lN0 (h a0)
local macro_rules| `(tactic| walk_at "b1")=> `(tactic| exact λ_ _ _ _ _ _=>lN1 λ_=>rfl)
theorem lN2 {P:List Value->Prop}(h: ∀a0 a1,P [a0,a1]): ∀us:List Value,us.length=2->P us:=lC λa0=>lC λa1=>lN0 (h a0 a1)
local macro_rules| `(tactic| walk_at "b2")=> `(tactic| exact λ_ _ _ _ _ _=>lN2 λ_ _=>rfl)
theorem lN3 {P:List Value->Prop}(h: ∀a0 a1 a2,P [a0,a1,a2]): ∀us:List Value,us.length=3->P us:=lC λa0=>lC λa1=>lC λa2=>lN0 (h a0 a1 a2)
local macro_rules| `(tactic| walk_at "b3")=> `(tactic| exact λ_ _ _ _ _ _=>lN3 λ_ _ _=>rfl)
theorem lN4 {P:List Value->Prop}(h: ∀a0 a1 a2 a3,P [a0,a1,a2,a3]): ∀us:List Value,us.length=4->P us:=lC λa0=>lC λa1=>lC λa2=>lC λa3=>lN0 (h a0 a1 a2 a3)
local macro_rules| `(tactic| walk_at "b4")=> `(tactic| exact λ_ _ _ _ _ _=>lN4 λ_ _ _ _=>rfl)
local macro_rules| `(tactic| walk_at "n")=> `(tactic| (intro _ _ h;repeat (first| (obtain⟨e,_⟩:=h;subst e;rfl)|obtain⟨_,h⟩:=h)))
structure FD where
 oc:Value
 od:Option Addr
 kV:Value
 dc:Value
 pm:Value
 an:Option Addr
 cd:Value
 ct:Value
 sl:Array (Option Value)
abbrev fA (K:PySem.W.Frag)(x y:Str)(s:Stmt)(f:Addr):Prop:= ∃d:FD,nsIn K mainGlobals y=some (some<|.ref f)/\K.lookup f=some ⟨d.oc,d.od,.func<|fnOf x x (jQ s) (eF s) (aF s) .none d.kV d.dc d.pm d.an d.cd d.ct,d.sl⟩/\codeIn K d.cd x=true/\keepIn K (.ref f)=true
theorem fnAt {K:PySem.W.Frag}{x y:Str}{s:Stmt}{f:Addr}{oc:Value}{od:Option Addr}{kV dc pm:Value}{an:Option Addr}{cd ct:Value}{sl:Array (Option Value)}(a:nsIn K mainGlobals y=some (some<|.ref f))(b:K.lookup f=some ⟨oc,od,.func<|fnOf x x (jQ s) (eF s) (aF s) .none kV dc pm an cd ct,sl⟩)(c:codeIn K cd x=true)(k:keepIn K (.ref f)=true):fA K x y s f:=⟨⟨oc,od,kV,dc,pm,an,cd,ct,sl⟩,a,b,c,k⟩
theorem dQ0 {K:PySem.W.Frag}{x y:Str}{s:Stmt}{f:Addr}(p:fA K x y s f): ∃fd,Fun K x x s f fd/\nsIn K mainGlobals y=some (some<|.ref f):=let ⟨_,a,b,c,k⟩:=p;⟨_,b33 b c k,a⟩
section
variable {P:Program}{w:World}{K:PySem.W.Frag}{mg:Str->Option Value}{base h:Heap}(X:K.In h)(G:h.Ns mainGlobals mg){x y:Str}{st:Stmt}{f:Addr}{N ps:List Str}{k:Nat}(p:fA K x y st f)(b: ∀(kV doc pm:Value) (an:Option Addr) (cdv ct:Value) (us:List Value),us.length=ps.length->bindArgs (fnOf x x (jQ st) (eF st) (aF st) .none kV doc pm an cdv ct) ⟨us,[]⟩=pure (ps.zip us))(S:aX N ps (aF st))
include X G p b S
theorem fn_b {φ:Φ}(len: ∀ds Q,φ ds Q->ds.length=ps.length){t:US}(der:DT<$>N x st k t)(rd: ∀ds Q,φ ds Q->t {Q with} (init N ds)):Fn<$>y ps (k+1) φ:=
 let ⟨_,U,m⟩:=dQ0 p
 Fn.mkA U (cJ X G m) (U.binds b) S len (λ_ _ _ _ _ _=>der) rd
theorem fnX_b {φ:ΦX}(q:x=y)(len: ∀ds Q Ex,φ ds Q Ex->ds.length=ps.length){t:USX}(der: ∀(cdv:Value) (A:Around) (outer:List Env) (s:Shared) (H:Hp) (E:XK),gX k (A.deeper<|envOfC x (aF st) s.heap.objs.size f cdv)->yS (uS (CXr P w base) P w K mg base N x (aF st) f cdv A outer s H E) E (eF st) t)(rd: ∀ds Q Ex,φ ds Q Ex->t Ex {Q with} (init N ds)):FnX<$>y ps (k+1) φ:=
 let ⟨_,U,m⟩:=dQ0 p
 q▸FnX.mk' U (cJ X G<|q▸m) (U.binds b) S len der rd
end
theorem all_mk {l:PySem.W.OpenLaw}{w:World}{K:PySem.W.Frag}{h:Heap}{mg:Str->Option Value}{fa f1 f2 f3 f4 f5 f6 f7 f8 f9 f10 f11 f12 f13 f14 f15 f16 f17 f18 f19 f20 f21 f22 f23 f24 f25 f26 f27 f28 f29 f30 f31 f32 f33 f34 f35 f36 f37 f38 f39 f40 f41 f42 f43 f44 f45 f46 f47 f48 f49 f50 f51 f52 f53 f54 f55 f56 f57 f58 f59 f60 f61 f62 f63 hZ kI b29 bQ oU fH gZ eZ rP kD dS:Addr}(X:K.In h)(G:h.Ns mainGlobals mg)(hfa:mg "law"=some (.ref fa))
  {bU7 bU8 cN8 cN9 e25 e26 bD1:Option Addr} {bU9 cO0 e27 bD2:Array (Option Value)} {bV0 bV1 bV2 aN2 bV3 cO1 cO2 cO3 bB3 cO4 e28 e29 e30 d30 e31 e32:Value} {aV6 d97 tV a87:ClassData} {rL oH:Tok} {b90:Array Value} {n_SMALL_PRIMES:Nat} {es_GREATEST_REACH:Array DictEntry} {ep_GREATEST_REACH:Nat}
  (P1:fA K "cut" "cut" b03 f1)
  (P2:fA K "padded" "padded" vO f2)
  (P3:fA K "poly_parted" "poly_parted" kY f3)
  (P4:fA K "poly_at" "poly_at" sK f4)
  (P5:fA K "det" "det" aJ8 f5)
  (P6:fA K "without" "without" oO f6)
  (P7:fA K "t_times" "t_times" oP f7)
  (P8:fA K "table_of" "table_of" pC f8)
  (P9:fA K "norm" "norm" aG2 f9)
  (P10:fA K "root" "root" aG3 f10)
  (P11:fA K "small_primes" "small_primes" k8 f11)
  (P12:fA K "rest" "rest" tZ f12)
  (P13:fA K "holds" "holds" zF f13)
  (P14:fA K "boxed" "boxed" l6 f14)
  (P15:fA K "rows_within" "rows_within" iU f15)
  (P16:fA K "is_ring_poly" "is_ring_poly" i8 f16)
  (P17:fA K "need_ring_poly" "need_ring_poly" iM f17)
  (P18:fA K "apart" "apart" zI f18)
  (P19:fA K "dividers" "dividers" pE f19)
  (P20:fA K "line_and_rest" "line_and_rest" jA f20)
  (P21:fA K "two_by_two" "two_by_two_apart" gS f21)
  (P22:fA K "two_with" "two_with" pF f22)
  (P23:fA K "measure" "measure" oQ f23)
  (P24:fA K "root_sums" "root_sums" l7 f24)
  (P25:fA K "mod_poly" "mod_poly" mQ f25)
  (P26:fA K "mod_parted" "mod_parted" mG f26)
  (P27:fA K "scaled" "scaled" rH f27)
  (P28:fA K "inverse_of" "inverse_of" mH f28)
  (P29:fA K "split_by" "split_by" pG f29)
  (P30:fA K "lines_out" "lines_out" nN f30)
  (P31:fA K "rootless_parts" "rootless_parts" gN f31)
  (P32:fA K "two_by_two" "two_by_two_split" gT f32)
  (P33:fA K "papers_of" "papers_of" l8 f33)
  (P34:fA K "parts_at" "parts_at" mS f34)
  (P35:fA K "outside_of" "outside_of" kA f35)
  (P36:fA K "need_together" "need_together" fY f36)
  (P37:fA K "need_whole" "need_whole" gU f37)
  (P38:fA K "_law_mixed" "_law_mixed" b12 f38)
  (P39:fA K "_law_draws" "_law_draws" b13 f39)
  (P40:fA K "_law_shifted" "_law_shifted" zJ f40)
  (P41:fA K "_law_poly" "_law_poly" b81 f41)
  (P42:fA K "_law_cell" "_law_cell" bO6 f42)
  (P43:fA K "_law_known_ring" "_law_known_ring" pH f43)
  (P44:fA K "_law_ring" "_law_ring" bO7 f44)
  (P45:fA K "_law_shared" "_law_shared" aH0 f45)
  (P46:fA K "_law_value" "_law_value" b15 f46)
  (P47:fA K "_law_known" "_law_known" b16 f47)
  (P48:fA K "_law_det" "_law_det" bO8 f48)
  (P49:fA K "_law_times" "_law_times" b17 f49)
  (P50:fA K "_law_table" "_law_table" bF5 f50)
  (P51:fA K "_law_stair" "_law_stair" wT f51)
  (P52:fA K "_law_product" "_law_product" u4 f52)
  (P53:fA K "_law_made" "_law_made" bP0 f53)
  (P54:fA K "_law_near" "_law_near" aH1 f54)
  (P55:fA K "_law_far" "_law_far" cL2 f55)
  (P56:fA K "_law_corners" "_law_corners" zK f56)
  (P57:fA K "_law_box" "_law_box" cL3 f57)
  (P58:fA K "_law_in" "_law_in" d83 f58)
  (P59:fA K "_law_whole" "_law_whole" b18 f59)
  (P60:fA K "_law_row" "_law_row" c30 f60)
  (P61:fA K "_law_refused" "_law_refused" zL f61)
  (P62:fA K "_law_reach" "_law_reach" b19 f62)
  (P63:fA K "law" "law" aA2 f63)
  (eY:nsIn K mainGlobals "TooGreat"=some (some<|.ref bQ))
  (rO:nsIn K mainGlobals "NoPrime"=some (some<|.ref oU))
  (jB:nsIn K mainGlobals "FallsApart"=some (some<|.ref fH))
  (mK:nsIn K mainGlobals "NotWhole"=some (some<|.ref gZ))
  (i5:nsIn K mainGlobals "RingError"=some (some<|.ref eZ))
  (bR3:nsIn K mainGlobals "Ring"=some (some<|.ref rP))
  (aN3:PySem.W.findIn K (.ref fH) "__init__"=some (some<|.ref hZ))
  (bB4:PySem.W.findIn K (.ref gZ) "__init__"=some (some<|.ref kI))
  (cB0:PySem.W.findIn K (.ref rP) "__init__"=some (some<|.ref b29))
  (a88:K.lookup hZ=some ⟨.type "function",bU7,.func<|fnOf "__init__" "FallsApart.__init__" (jQ pJ) (eF pJ) (aF pJ) .none bV0 bV1 bV2 bU8 aN2 bV3,bU9⟩)
  (aV7:K.lookup kI=some ⟨.type "function",cN8,.func<|fnOf "__init__" "NotWhole.__init__" (jQ vX) (eF vX) (aF vX) .none cO1 cO2 cO3 cN9 bB3 cO4,cO0⟩)
  (cX2:K.lookup b29=some ⟨e32,e25,.func<|fnOf "__init__" "Ring.__init__" (jQ aH3) (eF aH3) (aF aH3) .none e28 e29 e30 e26 d30 e31,e27⟩)
  (yC:codeIn K aN2 "FallsApart.__init__"=true)
  (yD:keepIn K (.ref hZ)=true)
  (aH9:codeIn K bB3 "NotWhole.__init__"=true)
  (aI0:keepIn K (.ref kI)=true)
  (cB1:codeIn K d30 "Ring.__init__"=true)
  (cB2:keepIn K (.ref b29)=true)
  (mW:a93 K fH hZ [.type "ValueError",.type "Exception",.type "BaseException",.type "object"] "ValueError.__new__"=true)
  (rN:a93 K gZ kI [.type "ValueError",.type "Exception",.type "BaseException",.type "object"] "ValueError.__new__"=true)
  (hG:excIn K bQ [.type "ValueError",.type "Exception",.type "BaseException",.type "object"] "ValueError.__new__"=true)
  (aK6:excIn K oU [.type "ValueError",.type "Exception",.type "BaseException",.type "object"] "ValueError.__new__"=true)
  (kJ:excIn K eZ [.type "ValueError",.type "Exception",.type "BaseException",.type "object"] "ValueError.__new__"=true)
  (sO:PySem.W.clsIn K bQ=some aV6)
  (bR4:PySem.W.clsIn K oU=some d97)
  (rW:PySem.W.clsIn K fH=some tV)
  (wW:PySem.W.clsIn K gZ=some a87)
  (kE:(tV).mro.contains (.ref eZ)=true)
  (lD:(aV6).mro.contains (.ref eZ)=true)
  (lF:(a87).mro.contains (.ref eZ)=true)
  (se_TooGreat:(aV6).mro.contains (.ref bQ)=true)
  (kg_TooGreat:PySem.W.findIn K (.ref bQ) "__getattribute__"=some (some<|.builtin "BaseException.__getattribute__"))
  (kh_TooGreat:PySem.W.findIn K (.ref bQ) "__getattr__"=some none)
  (ka_TooGreat:PySem.W.findIn K (.ref bQ) "__class__"=some (some<|.builtin "object.__class__"))
  (kn_TooGreat:PySem.W.specialIn K (.builtin "object.__class__") "__get__"=some (some<|.builtin "getset_descriptor.__get__"))
  (kt_TooGreat:PySem.W.takesIn K (.builtin "object.__class__")=some true)
  (km_TooGreat:PySem.W.mroIn K bQ (.type "object")=some true)
  (kb_TooGreat:PySem.W.mroIn K bQ (.type "BaseException")=some true)
  (ki_TooGreat_TooGreat:kitOne K (.ref bQ) (.ref bQ)=some true)
  (ki_TooGreat_ValueError:kitOne K (.ref bQ) (.type "ValueError")=some true)
  (ki_TooGreat_NoPrime:kitOne K (.ref bQ) (.ref oU)=some false)
  (yE:uZ (tV).mro=true)
  (yF:(tV).hasDict=true)
  (yG:PySem.W.findIn K (.ref fH) "__setattr__"=some (some<|.builtin "object.__setattr__"))
  (yH:PySem.W.findIn K (.ref fH) "left"=some none)
  (yI:PySem.W.findIn K (.ref fH) "right"=some none)
  (aI1:uZ (a87).mro=true)
  (aI2:(a87).hasDict=true)
  (aI3:PySem.W.findIn K (.ref gZ) "__setattr__"=some (some<|.builtin "object.__setattr__"))
  (aI4:PySem.W.findIn K (.ref gZ) "prime"=some none)
  (aI5:PySem.W.findIn K (.ref gZ) "number"=some none)
  (mk_Ring:makesIn K rP=true)
  (fn_Ring:PySem.W.isFn K (.ref b29)=true)
  (kc_Ring:keepIn K (.ref rP)=true)
  (pg_Ring:plainGet K rP Str.empty=true)
  (cB3:hasDictIn K rP=true)
  (po_Ring:plainOver K rP=true)
  (cB4:PySem.W.findIn K (.ref rP) "__setattr__"=some (some<|.builtin "object.__setattr__"))
  (cB5:PySem.W.findIn K (.ref rP) "poly"=some none)
  (b91:PySem.W.findIn K (.ref rP) "degree"=some none)
  (aV8:PySem.W.findIn K (.ref rP) "measure"=some none)
  (dQ4:nsIn K mainGlobals "len"=some none)
  (dQ5:nsIn K mainGlobals "max"=some none)
  (cX3:nsIn K mainGlobals "list"=some none)
  (aV9:nsIn K mainGlobals "reversed"=some none)
  (cB6:nsIn K mainGlobals "range"=some none)
  (aI6:nsIn K mainGlobals "enumerate"=some none)
  (cB7:nsIn K mainGlobals "tuple"=some none)
  (dQ6:nsIn K mainGlobals "zip"=some none)
  (dQ7:nsIn K mainGlobals "any"=some none)
  (dQ8:nsIn K mainGlobals "abs"=some none)
  (dQ9:nsIn K mainGlobals "all"=some none)
  (dR0:nsIn K mainGlobals "sum"=some none)
  (dR1:nsIn K mainGlobals "min"=some none)
  (bR5:nsIn K mainGlobals "sorted"=some none)
  (dR2:nsIn K mainGlobals "int"=some none)
  (a89:nsIn K mainGlobals "isinstance"=some none)
  (cX4:nsIn K mainGlobals "bool"=some none)
  (a90:nsIn K mainGlobals "ValueError"=some none)
  (gO:nsIn K mainGlobals "GREATEST_PLACE"=some (some<|.int 499 rL))
  (fN:nsIn K mainGlobals "GREATEST_MEASURE"=some (some<|.int 39999 oH))
  (iO:nsIn K mainGlobals "SMALL_PRIMES"=some (some<|.ref kD))
  (tE:K.lookup kD=some ⟨.type "tuple",bD1,.seq b90 n_SMALL_PRIMES,bD2⟩)
  (tF:b90.size<=sizeLine)
  (tG:Vals (T_SMALL_PRIMES.map V.int) b90.toList)
  (dU:nsIn K mainGlobals "GREATEST_REACH"=some (some<|.ref dS))
  (pL:K.lookup dS=some ⟨.type "dict",none,.dict es_GREATEST_REACH ep_GREATEST_REACH,#[]⟩)
  (ns_GREATEST_REACH:(dS==sysModules)=false)
  (ke_GREATEST_REACH:dG9 es_GREATEST_REACH.toList gM) :
  ∃fd:FuncData,(∀(s:Shared) (v:Value),BindsTo s fd ⟨[v],[]⟩ [("_law_script",v)])/\ ∀base:Heap,K.In base->base.Ns mainGlobals mg->sQ l.prog w K mg base CX0 13 fa fd ["_law_script"] (spP K bW7):=by
 have h5:=P5.choose_spec;have h48:=P48.choose_spec;have h63:=P63.choose_spec;have e:=hfa.symm.trans (cJ X G h63.1);cases e;have Z:Zs mg:=⟨dY X G dQ4,dY X G dQ5,dY X G cX3,dY X G aV9,dY X G cB6,dY X G aI6,dY X G cB7,dY X G dQ6,dY X G dQ7,dY X G dQ8,dY X G dQ9,dY X G dR0,dY X G dR1,dY X G bR5,dY X G dR2,dY X G a89,dY X G cX4,dY X G a90⟩;have gO:=cJ X G gO;have fN:=cJ X G fN;have iO:=cJ X G iO
 have dU:=cJ X G dU;have vY:KT K kD (T_SMALL_PRIMES.map V.int):=kt_of tE tF tG;have i9:KD K dS gM:=⟨ns_GREATEST_REACH,ac,_,es_GREATEST_REACH,ep_GREATEST_REACH,pL,⟨rfl,rfl,rfl⟩,rfl,ke_GREATEST_REACH⟩
 have eY:=cJ X G eY;have rO:=cJ X G rO;have jB:=cJ X G jB;have mK:=cJ X G mK;have i5:=cJ X G i5;have bR3:=cJ X G bR3;have a84:cF2 K fH hZ _ "left" "right":=cZ8 (st:=pJ) (x0:="self") (x1:="left") (x2:="right") a88 yC yD rfl bT6 rfl rfl rfl ac ac ac (λ_ _ _ _ _ _=>lN3 λ_ _ _=>rfl) rW yE yF yG yH yI
 have aV3:cF2 K gZ kI _ "prime" "number":=cZ8 (st:=vX) (x0:="self") (x1:="prime") (x2:="number") aV7 aH9 aI0 rfl cM1 rfl rfl rfl ac ac ac (λ_ _ _ _ _ _=>lN3 λ_ _ _=>rfl) wW aI1 aI2 aI3 aI4 aI5
 have iB: ∀n∈(["FallsApart","TooGreat","NotWhole"]:List Str),∀C,mg n=some (.ref C)->a43 K eZ C bmV vN:=by
  intro n hn C hm;simp only[aZ,eS,eU]at hn;rcases hn with rfl|rfl|rfl
  . (have e:=hm.symm.trans jB;cases e;exact aJ2 (.inr ⟨_,mW⟩) rW kE)
  . (have e:=hm.symm.trans eY;cases e;exact aJ2 (.inl hG) sO lD)
  . (have e:=hm.symm.trans mK;cases e;exact aJ2 (.inr ⟨_,rN⟩) wW lF)
 have KX_TooGreat:dI3 K bQ:=⟨by rw[sO];rfl,kg_TooGreat,kh_TooGreat,ka_TooGreat,kn_TooGreat,kt_TooGreat,km_TooGreat,kb_TooGreat⟩
 have U1_TooGreat:a43 K bQ bQ bmV vN:=aJ2 (.inl hG) sO se_TooGreat;have U5:=b33 (st:=aJ8) h5.2.1 h5.2.2.1 h5.2.2.2;have U48:=b33 (st:=bO8) h48.2.1 h48.2.2.1 h48.2.2.2;have U63:=b33 (st:=aA2) h63.2.1 h63.2.2.1 h63.2.2.2;have UR:=b33 (st:=aH3) cX2 cB1 cB2
 refine⟨fnOf "law" "law" (jQ aA2) (eF aA2) (aF aA2) .none P63.choose.kV P63.choose.dc P63.choose.pm P63.choose.an P63.choose.cd P63.choose.ct,λs v=> .of_eq rfl,λbase _ _=> ?_⟩
 have mB:= @fn_b l.prog w K mg base h X G;have mX:= @fnX_b l.prog w K mg base h X G;have a78:=mB P1 (by walk_at "b1") bP4 ag (d86 Z) dJ9
 have aV4:=mB P2 ah cL7 ag (cA4 Z) cH5
 have d5:=mB P3 ah eP ag (b26 Z a78) b51
 have oS:=mB P4 ah tU ag (bU2 Z) c80
 have oR:=mB P6 ah cA0 ag (bU3 Z) c73
 have d98:Fn l.prog w K mg base "det" k7 1 (gB 0):=Fn.void U5 (cJ X G h5.1) (U5.binds (ps:=k7)<|by walk_at "b1") cT0
 have d99:Fn l.prog w K mg base "det" k7 2 (gB 1):=Fn.mk' U5 (cJ X G h5.1) (U5.binds (ps:=k7)<|by walk_at "b1") pI (aJ3 _) (λcdv A outer s H E hr=>aK1 Z ac d98 oR hr) (aX8 0 ac)
 have dA0:Fn l.prog w K mg base "det" k7 3 (gB 2):=Fn.mk' U5 (cJ X G h5.1) (U5.binds (ps:=k7)<|by walk_at "b1") pI (aJ3 _) (λcdv A outer s H E hr=>aK1 Z ac d99 oR hr) (aX8 1 ac)
 have dA1:Fn l.prog w K mg base "det" k7 4 (gB 3):=Fn.mk' U5 (cJ X G h5.1) (U5.binds (ps:=k7)<|by walk_at "b1") pI (aJ3 _) (λcdv A outer s H E hr=>aK1 Z ac dA0 oR hr) (aX8 2 ac)
 have dA2:Fn l.prog w K mg base "det" k7 5 (gB 4):=Fn.mk' U5 (cJ X G h5.1) (U5.binds (ps:=k7)<|by walk_at "b1") pI (aJ3 _) (λcdv A outer s H E hr=>aK1 Z ac dA1 oR hr) (aX8 3 ac)
 have wV:=dA2;have aH7:=mB P7 ah a70 ag (bU4 Z) c84
 have a79:=mB P8 ah xT ag (bQ5 Z aH7) bS8
 have zQ:=mB P9 ah d84 ag (cW5 Z wV a79) d75
 have bR2:=mB P10 (by walk_at "b1") zM ag (cW6 Z) d70
 have iA:=mB P11 (by walk_at "b0") b20 ag (aV1 Z iO vY) aY5
 have b86:=mB P12 ah vU ag (cM9 Z) cU4
 have u5:=mB P13 ah cV6 ag (cN0 Z b86) cU5
 have iW:=mB P15 ah mT ag (b27 Z) b62
 have aK8:=mB P14 (by walk_at "b4") bP5 ag (cN1 Z dU i9 iW u5 zQ) cU7
 have rM:=mB P16 (by walk_at "b1") b21 ag (aV2 Z gO) aY8
 have dO:=mB P17 (by walk_at "b1") aL3 ag (aH4 Z rM) aL1
 have mV:=mB P19 (by walk_at "b1") xU ag (bQ6 Z) bS6
 have pK:=mB P20 (by walk_at "b1") oF ag (aL5 Z mV oS d5) aS8
 have a80:=mB P22 ah xV ag (bQ7 Z bR2) bS7
 have mI:=mB P21 (by walk_at "b1") gC ag (a76 Z mV a80) aA5
 have b87:=mB P18 (by walk_at "b1") aU8 ag (cN2 Z dO pK mI) cT9
 have xZ:=mB P24 ah kB ag (bC8 Z) bJ2
 have aH8:=mB P23 (by walk_at "b1") a71 ag (bU5 Z dO xZ wV) c81
 have fZ:=mB P25 ah bT4 ag (bQ8 Z a78) bS2
 have vZ:=mB P28 ah nO ag (b84 Z) bC0
 have a81:=mB P27 (by walk_at "b3") cL8 ag (cA5 Z fZ) cG4
 have w6:=mB P26 (by walk_at "b3") kZ ag (b83 Z fZ vZ d5 a81) bC1
 have yA:=mB P30 ah iN ag (bC9 Z oS w6) bK8
 have mJ:=mB P32 ah fB ag (a77 Z) aA7
 have oG:=mB P31 ah tM ag (aH5 Z mJ) aL0
 have a83:=mB P29 ah xW ag (bQ9 Z iA yA fZ oG) bS3
 have a82:=mB P34 ah bT5 ag (bR0 Z a83 d5) bS4
 have yB:=mB P33 ah bP6 ag (bD0 Z iA a82) bL0
 have w8:=mB P35 ah iV ag (b85 Z d5) bC3
 have oJ:=mX P36 (by walk_at "b1") vV rfl aE9 (λ_ _ _ _ _ _ hr=>aH6 Z jB mW a84 b87 hr) aL2
 have tD:=mX P37 ah nP rfl aY9 (λ_ _ _ _ _ _ hr=>b28 Z mK rN aV3 w8 yB aV4 hr) b60
 have aK2:=mB P38 (by walk_at "b3") bP7 ag (d87 Z) dI8
 have jU:=mB P39 (by walk_at "b3") zN ag (d88 Z aK2) dI9
 have aK3:=mB P40 ah a72 ag (cN3 Z) cU1
 have cW8:=mB P41 ah aJ9 ag (dP5 Z jU aK3) e08
 have a85:=mB P42 ah e16 ag (dP6 Z) dY1
 have a86:=mB P43 (by walk_at "b1") xX ag (bR1 Z aK2) bT1
 have okR:OkC K rP ["poly","degree","measure"]:=⟨⟨pg_Ring,cB3,po_Ring,cB4⟩,λf hf=>by
  simp only[aZ,eS,eU]at hf;rcases hf with rfl|rfl|rfl
  .exact cB5
  .exact b91
  .exact aV8⟩
 have fR:=dI2 UR d28 okR ac ac ac d72 ac (λcdv A outer s H E hr=>d96 Z fN eY hG dO aH8 oJ tD hr) dL7
 have bR:=UR.binds (ps:=["self","poly"]) λ_ _ _ _ _ _ us hl=>match us,hl with| [_,_],_=>rfl
 have bF7:MkX l.prog w K mg base "Ring" 10 ["poly","degree","measure"] yX:=⟨rP,b29,_,["self","poly"],Mk.mk mk_Ring cB0 fn_Ring kc_Ring,okR,fR,bR,bR3⟩;have cX0:=mB P44 (by walk_at "b3") aK0 ag (dP7 Z i5 kJ iB bF7 cW8 a85 a86) e06
 have wA:=mB P45 ah c32 ag (cW7 Z) d80
 have cA7:=mB P46 ah b22 ag (d89 Z) dN2
 have bF8:=mB P47 (by walk_at "b3") zO ag (d90 Z) dN3
 have e33:Fn l.prog w K mg base "_law_det" rJ 1 (kW 0):=Fn.void U48 (cJ X G h48.1) (U48.binds (ps:=rJ)<|by walk_at "b1") dN1
 have e34:Fn l.prog w K mg base "_law_det" rJ 2 (kW 1):=Fn.mk' U48 (cJ X G h48.1) (U48.binds (ps:=rJ)<|by walk_at "b1") aH2 (bF3 _) (λcdv A outer s H E hr=>bF6 Z ac e33 hr) (c91 0 ac)
 have e35:Fn l.prog w K mg base "_law_det" rJ 3 (kW 2):=Fn.mk' U48 (cJ X G h48.1) (U48.binds (ps:=rJ)<|by walk_at "b1") aH2 (bF3 _) (λcdv A outer s H E hr=>bF6 Z ac e34 hr) (c91 1 ac)
 have e36:Fn l.prog w K mg base "_law_det" rJ 4 (kW 3):=Fn.mk' U48 (cJ X G h48.1) (U48.binds (ps:=rJ)<|by walk_at "b1") aH2 (bF3 _) (λcdv A outer s H E hr=>bF6 Z ac e35 hr) (c91 2 ac)
 have e37:Fn l.prog w K mg base "_law_det" rJ 5 (kW 4):=Fn.mk' U48 (cJ X G h48.1) (U48.binds (ps:=rJ)<|by walk_at "b1") aH2 (bF3 _) (λcdv A outer s H E hr=>bF6 Z ac e36 hr) (c91 3 ac)
 have aA3:=e37;have aK4:=mB P49 (by walk_at "b3") sN ag (d91 Z) dM2
 have rV:=mB P50 ah vW ag (d92 Z aK4) dN0
 have aK5:=mB P51 (by walk_at "b3") kC ag (d93 Z) dJ8
 have b88:=mB P52 (by walk_at "b3") a73 ag (cN4 Z aK4 aK5) cV0
 have cW9:=mB P53 ah a74 ag (dP8 Z rV wA aA3 aK5) e11
 have cX1:=mB P54 (by walk_at "b3") iQ ag (dP9 Z jU wA cA7 bF8 aA3 rV b88 cW9) e15
 have dQ1:=mB P55 (by walk_at "b4") bP8 ag (e21 Z jU) rd_far
 have aK7:=mB P56 (by walk_at "b1") a75 ag (cN5 Z) cV1
 have dQ2:=mB P57 ah aU9 ag (e22 Z) rd_box
 have F_in:=mB P58 ah cL9 ag (der_in Z) rd_in
 have cA8:=mB P59 (by walk_at "b1") dP0 ag (d94 Z) dJ2
 have dQ3:=mB P60 ah sc_row ag (e23 Z cA8) rd_row
 have aV5:=mX P14 (by walk_at "b4") bP5 rfl c90 (λ_ _ _ _ _ _ hr=>cA6 Z dU i9 eY hG iW u5 zQ hr) cI7
 have b89:=mB P61 (by walk_at "b4") bP9 ag (cN6 Z i5 kJ eY hG rO aK6 iB KX_TooGreat U1_TooGreat ki_TooGreat_TooGreat ki_TooGreat_ValueError ki_TooGreat_NoPrime aV5) cV4
 have cA9:=mB P62 (by walk_at "b4") cM0 ag (d95 Z) dN7
 exact c52 U63 rK dY3 (λcdv A outer s H E hr=>⟨c98,e24 Z cX0 cX1 a85 jU dQ1 cA9 aK7 b89 dQ2 F_in aA3 rV aK8 dQ3 hr,rd_law⟩)
end M
open PySem PySem.W PyProof.Rows
local macro_rules| `(tactic| walk_at "f")=> `(tactic| (refine' M.fnAt ?x1 ?x2 ?x3 ?x4;(case x1=>k_is);(case x2=>k_is);(case x3=>k_is);(case x4=>k_is)))
namespace PySem.W.Fast
def tw8357832624671990630:=()
def tw3722335690018329554:=()
def tw11336860477327797702:=()
def tw7822564886603400383:=()
def tw13129515663933003617:=()
def tw9511651638411465815:=()
def tw7035162234272775629:=()
def tw12584707341340467458:=()
def tw8757391118642347986:=()
def tw903254372350845965:=()
def tw6213103201552586292:=()
def tw4788251453806527226:=()
def tw10709688189921736138:=()
def tw9126422015171245118:=()
def tw10519026062714022952:=()
def tw1049711292121453415:=()
def tw15243338818918028940:=()
def tw625313959958313906:=()
def tw6207246614775513731:=()
def tw3833528063202096048:=()
def tw7216636756865910940:=()
def tw9486288591502662225:=()
def tw11681813471831752032:=()
def tw16629691347167453170:=()
def tw15989154372750254902:=()
def tw18149065588682276016:=()
def tw16510472885412347718:=()
def tw16492903969375126169:=()
def tw5543117846332310994:=()
def tw9435685653769007212:=()
def tw17959541431652080163:=()
def tw15213028391820033145:=()
def tw13745988486502430008:=()
def tw9784743534780694046:=()
def tw12004861086820692281:=()
def tw1441281363648130833:=()
def tw2676083467459943271:=()
def tw9168978413154337604:=()
def tw12862443360890376260:=()
def tw12845683647304559693:=()
def tw18437784860097302962:=()
def tw1794362960229013095:=()
def tw17539519629528982799:=()
def tw9072092304886753442:=()
def tw16043738475391743074:=()
def tw11103086438794621916:=()
def tw5203251162517960749:=()
def tw11583356041178624631:=()
def tw9628862245339234610:=()
def tw8550475694039951182:=()
def tw12548602001143483206:=()
def tw17062422968374952953:=()
def tw16487890204419417669:=()
def tw9614180284762622451:=()
def tw13813279843911062139:=()
def tw11243287558968723167:=()
def tw8229033439831859568:=()
def tw17238613490023798523:=()
def tw1260944008080618584:=()
def tw10270112672966018542:=()
def tw4104053264944068426:=()
def tw6998901549383093846:=()
def tw13868644302983502628:=()
def tw12281133543549314698:=()
def tw1976730153859984652:=()
def tw9767864897626273344:=()
def tw17155396736987146244:=()
def tw4968912494618616460:=()
def tw2800255317446485876:=()
def tw10210707155815628385:=()
def tw1477025382541499001:=()
def tw10115868977539856463:=()
def tw3352491262523866246:=()
def tw3225347196561359503:=()
def tw17578720267398910474:=()
def tw867302029482764504:=()
def tw15312846894828856310:=()
def tw2248866365368147473:=()
def tw6118095140682166266:=()
def tw6936860752131314680:=()
def tw18217609271301051199:=()
def tw6550207262071940769:=()
def tw6404748600946111372:=()
def tw18170342257758696929:=()
def tw8735551851292025605:=()
def tw16619107212462111239:=()
def tw16670078018671234174:=()
def tw14750769304354810814:=()
def tw1070570253942497725:=()
def tw434128863228273641:=()
def tw8638209788880628288:=()
def tw15212560425461053924:=()
def tw4254381911473098175:=()
def tw15096806825937849214:=()
def tw10904510784159468684:=()
def tw17355015482971343224:=()
def tw2175168044201293377:=()
def tw12388513265263390715:=()
def tw637150945667964092:=()
def tw8943083433564411156:=()
def tw178763387564837957:=()
def tw5879605866579173542:=()
def tw1538951384799390574:=()
def tw10124431487863805565:=()
def tw18183018931355547029:=()
def tw14538567807407985681:=()
def tw2302830609511564283:=()
def tw18404598928549979708:=()
def tw17628987830924574281:=()
def tw8333306482738739604:=()
def tw2939823562019710702:=()
def tw13011891947721297767:=()
def tw2771411326193241967:=()
def tw16574035840412836129:=()
def tw438806289303467558:=()
def tw6783584043044897698:=()
def tw8855016087462527890:=()
def tw2201145917975838839:=()
def tw8555250707387913409:=()
def tw11745656058561590933:=()
def tw4596981581972726883:=()
def tw8872910184560437669:=()
def tw1554167041213874712:=()
def tw18304985080603290994:=()
def tw8204392122731359990:=()
def tw11602739501786372605:=()
def tw1554658314965344386:=()
def tw12808768462418645736:=()
def tw9043544312138998972:=()
def tw6007137066948918616:=()
def tw13452824609814125809:=()
def tw351207420838813714:=()
def tw396015932086849255:=()
def tw17936251228723609008:=()
def tw7488288327454551633:=()
def tw15608327219479003637:=()
def tw4092638782455671271:=()
def tw12770680268073125029:=()
def tw2802221209783315566:=()
def tw9438456622881552473:=()
def tw1451202466585201904:=()
def tw739322807358924150:=()
def tw16414492221667237415:=()
def tw14420330777600734798:=()
def tw9635139276153659806:=()
def tw4222529771000583146:=()
def tw5236228733486118757:=()
def tw15010011489851044661:=()
def tw15521090086129632169:=()
def tw14932162139893660129:=()
def tw2224097140139011781:=()
def tw16691377364386997943:=()
def tw15781361306254847193:=()
def tw14089197291267843106:=()
def tw10108884250639588808:=()
def tw10195830427003177959:=()
def tw10507748567604300578:=()
def tw9582453017059058694:=()
def tw15838629758551363030:=()
def tw10484008499197288977:=()
def tw9045024629273887346:=()
def tw16040436268689065327:=()
def tw6226004552012392370:=()
def tw2614297913059528983:=()
def tw1586263510760585330:=()
def tw12390001357489790951:=()
def tw7815831143670389757:=()
def tw17432039290694390727:=()
def tw15689830938661630689:=()
def tw11532655179215905811:=()
def tw12762637525016975879:=()
def tw8927881668494910675:=()
def tw3178248956125951324:=()
def tw4919337275573608563:=()
def tw8036619935130964257:=()
def tw16358762777666388317:=()
def tw16296365711445302889:=()
def tw12139672335432568438:=()
def tw6583770319051127898:=()
end PySem.W.Fast
set_option maxRecDepth 100000 in
set_option maxHeartbeats 0 in
theorem PySem.Challenge.cw_ringhouse_k50_boxed_holds : PySem.Challenge.rw_ringhouse_k50_boxed.Holds := by
 w_on;o_law;k_head;(case hw=>w_witness2)
 k_fill
 refine M.walkM (l:=PySem.Challenge.rw_ringhouse_k50_boxed) (k:=13) (x:="_law_script") rfl rfl ⟨rfl,ac,ac⟩ (λw h Y=>PySem.W.kIn_of Y) ?F
 case F=>
  intro w mg fa h KX G hmg
  refine' M.all_mk KX G hmg ?P1 ?P2 ?P3 ?P4 ?P5 ?P6 ?P7 ?P8 ?P9 ?P10 ?P11 ?P12 ?P13 ?P14 ?P15 ?P16 ?P17 ?P18 ?P19 ?P20 ?P21 ?P22 ?P23 ?P24 ?P25 ?P26 ?P27 ?P28 ?P29 ?P30 ?P31 ?P32 ?P33 ?P34 ?P35 ?P36 ?P37 ?P38 ?P39 ?P40 ?P41 ?P42 ?P43 ?P44 ?P45 ?P46 ?P47 ?P48 ?P49 ?P50 ?P51 ?P52 ?P53 ?P54 ?P55 ?P56 ?P57 ?P58 ?P59 ?P60 ?P61 ?P62 ?P63 ?eY ?rO ?jB ?mK ?i5 ?bR3 ?aN3 ?bB4 ?cB0 ?a88 ?aV7 ?cX2 ?yC ?yD ?aH9 ?aI0 ?cB1 ?cB2 ?mW ?rN ?hG ?aK6 ?kJ ?sO ?bR4 ?rW ?wW ?kE ?lD ?lF ?se_TooGreat ?kg_TooGreat ?kh_TooGreat ?ka_TooGreat ?kn_TooGreat ?kt_TooGreat ?km_TooGreat ?kb_TooGreat ?ki_TooGreat_TooGreat ?ki_TooGreat_ValueError ?ki_TooGreat_NoPrime ?yE ?yF ?yG ?yH ?yI ?aI1 ?aI2 ?aI3 ?aI4 ?aI5 ?mk_Ring ?fn_Ring ?kc_Ring ?pg_Ring ?cB3 ?po_Ring ?cB4 ?cB5 ?b91 ?aV8 ?dQ4 ?dQ5 ?cX3 ?aV9 ?cB6 ?aI6 ?cB7 ?dQ6 ?dQ7 ?dQ8 ?dQ9 ?dR0 ?dR1 ?bR5 ?dR2 ?a89 ?cX4 ?a90 ?gO ?fN ?iO ?tE ?tF ?tG ?dU ?pL ?ns_GREATEST_REACH ?ke_GREATEST_REACH
  (case P1|P2|P3|P4|P5|P6|P7|P8|P9|P10|P11|P12|P13|P14|P15|P16|P17|P18|P19|P20|P21|P22|P23|P24|P25|P26|P27|P28|P29|P30|P31|P32|P33|P34|P35|P36|P37|P38|P39|P40|P41|P42|P43|P44|P45|P46|P47|P48|P49|P50|P51|P52|P53|P54|P55|P56|P57|P58|P59|P60|P61|P62|P63=>walk_at "f");(case eY|rO|jB|mK|i5|bR3|aN3|bB4|cB0|a88|aV7|cX2|yC|yD|aH9|aI0|cB1|cB2|sO|bR4|rW|wW|kg_TooGreat|kh_TooGreat|ka_TooGreat|kn_TooGreat|kt_TooGreat|km_TooGreat|kb_TooGreat|yG|yH|yI|aI3|aI4|aI5|mk_Ring|fn_Ring|kc_Ring|pg_Ring|cB3|po_Ring|cB4|cB5|b91|aV8|dQ4|dQ5|cX3|aV9|cB6|aI6|cB7|dQ6|dQ7|dQ8|dQ9|dR0|dR1|bR5|dR2|a89|cX4|a90|gO|fN|iO|tE|dU|pL=>k_is);(case mW|rN=>first|kernel_rfl|rfl);(case hG|aK6|kJ=>k_exc);(case kE|lD|lF|se_TooGreat|yE|yF|aI1|aI2=>first|kernel_rfl|rfl|decide);(case ki_TooGreat_TooGreat|ki_TooGreat_ValueError|ki_TooGreat_NoPrime=>first|k_is|kernel_rfl|rfl);(case tF=>first|decide| (trace_state;decide +kernel));(case tG=>first| (show L2.Vals (List.map _ _) (List.toList _);simp only[M.T_SMALL_PRIMES,List.map];repeat (first|exact .nil|refine .cons (.int _ _) ?_))| (repeat constructor)|trace_state);(case ns_GREATEST_REACH=>first|rfl|decide);(case ke_GREATEST_REACH=>first|exact⟨⟨_,rfl⟩,⟨_,rfl⟩,af,⟨⟨_,rfl⟩,⟨_,rfl⟩,af,⟨⟨_,rfl⟩,⟨_,rfl⟩,af,trivial⟩⟩⟩|trace_state)
