import PyProof.Rows.All
import Wide.All
import OpenK.AllK
import Wide.FinOn
import Lean
import PyProof.EqAt
import PyProof.EqKinds
import PyProof.TupleCall
import PySem.Challenge.RW_ringhouse_k73_sees_outside
set_option Elab.async false
set_option linter.all false
open PySem.W (instObj methodObj Frag lookIn InstAt plainGet hasDictIn findIn plainOver takerIn makesIn emptyDict keepIn isFn fnOf codeIn excIn clsIn nsIn)
open List (set_cons_zero set_cons_succ replicate length all_cons any_cons foldl forIn_nil any_map all_map map_set Nodup)
open Nat (le_of_eq add_comm one_mul sub_self)
open Int (pow_add le_total mul_nonneg one_dvd pow_pos)
open PySem.Heap (SameBut ExtBut FlyingW HeldW MadeExcOf)
open Option (getD_none map_some bind_some)
open Array (toList)
set_option maxRecDepth 100000
set_option compiler.extract_closed false
set_option bootstrap.genMatcherCode false
local macro_rules | `(tactic| walk_at "z") => `(tactic| first|exact .inl rfl|exact .inr rfl|assumption)
def aa{p:Prop}(h:p:=by omega):p:=h
def ac{p:Prop}(h:p:=by decide):p:=h
def ae{p:Prop}(h:p:=by lia):p:=h
def af{p:Prop}(h:p:=by simp):p:=h
def am{p:Prop}(h:p:=by rfl):p:=h
local macro_rules|`(↥$t)=>`(autoParam $t am._auto_1)|`(⇑$t)=>`(autoParam $t ac._auto_1)
local macro_rules|`(nonrec def $i:declId $s:optDeclSig $v:declVal)=>`(noncomputable def $i:declId $s:optDeclSig $v:declVal)
local macro_rules|`($x∩$e $s*)=>`(PySem.wpAny (PySem.model ($x).prog ($x).w) ($x).A $e $s*)
local macro_rules|`($x∪0)=>`(($x==("__debug__":PySem.Str))=false)
local macro_rules|`({$q:ident with})=>`({nx:=λ_=>$q (.pu .non),rt:=$q})
local macro_rules|`(@$n:num)=>`($(Lean.mkIdent `M.uC) (.int $n))
local macro_rules|`($f<$>$x:ident)=>`($f $x $(Lean.mkIdent `w) $(Lean.mkIdent `K) $(Lean.mkIdent `mg) $(Lean.mkIdent `base))|`($f<$>$g $s*)=>`($f $(Lean.mkIdent `P) $(Lean.mkIdent `w) $(Lean.mkIdent `K) $(Lean.mkIdent `mg) $(Lean.mkIdent `base) $g $s*)
local macro_rules|`(tactic|exists $t)=>`(tactic|simpa using $t)
local macro_rules|`(tactic|right)=>`(tactic|dsimp only)
def ag{p:Prop}(h:p:=by decide +kernel):p:=h
def ah{p:Prop}(h:p:=by walk_at "n"):p:=h
def ai{p:Prop}(h:p:=by walk_at "b2"):p:=h
def aJ:= @List.getD_eq_getElem?_getD
def a9:= @PySem.wpAny_bind
def aP:= @List.getElem?_eq_getElem
def a6:= @if_neg
def aH:= @List.length_map
def a8:= @if_pos
def aU:= @PySem.Heap.get?_push_of_some
def aG:= @Nat.le_trans
def aF:= @Nat.le_refl
def aL:= @PySem.wpAny_pure
def aZ:= @Nat.lt_of_lt_of_le
def bB:= @List.size_toArray
def aV:= @PySem.Heap.lt_size
def bF:= @Bool.false_ne_true
def aY:= @List.mem_cons
def b9:= @List.range_succ
def bG:= @List.getElem?_map
def cA:= @PySem.Heap.get?_push_size
def bV:= @Int.toNat_natCast
def bW:= @Nat.zero_lt_succ
def bX:= @List.map_append
def bE:= @Nat.ne_of_lt
def cT:= @Nat.pow_le_pow_right
def cM:= @List.length_append
def bN:= @Int.zero_add
def bT:= @Int.mul_zero
def d4:= @Int.emod_lt_of_pos
def cH:= @Int.natAbs_mul
def cU:= @List.lookup_cons
def cV:= @List.getElem_mem
def dY:= @PySem.W.mg_none_of
def dI:= @List.length_cons
def fB:= @List.mem_cons_of_mem
def bU:= @PySem.wpAny_mono
def dJ:= @List.all_eq_true
def dL:= @List.not_mem_nil
def cN:= @List.map_cons
def d5:= @Int.emod_nonneg
def dZ:= @Bool.and_eq_true
def dM:= @List.length_set
def d6:= @List.mem_range
def fE:= @Int.emod_eq_of_lt
def d7:= @Nat.lt_irrefl
def jW:= @PyProof.Rows.callWith_type1
def eB:= @Nat.mul_le_mul
def i8:= @List.mem_append_right
def i9:= @List.getElem?_eq_none
def d8:= @List.mem_map
nonrec def dA:= @Int.zero_mul
def fF:= @List.mem_append
def jX:= @List.getElem?_eq_some_iff
def gB:= @decide_eq_true_eq
def eC:= @Int.zero_emod
def eE:= @PySem.W.mg_of
def cW:= @PySem.wpAny_field
def dN:= @Int.pow_zero
def iA:= @List.filterMap_cons
def jY:= @Int.emod_eq_zero_of_dvd
def eF:= @Int.add_zero
def eG:= @Int.mul_comm
def dO:= @Nat.zero_le
def cO:= @And.right
def dP:= @Nat.pow_add
def gC:= @decide_eq_false
def kZ:= @PySem.wpAny_callSpecial?_slot
def l6:= @Int.dvd_of_emod_eq_zero
def gQ:= @Option.some.inj
def j7:= @List.mem_singleton
def jZ:= @List.replicate_succ
def eH:= @beq_iff_eq
def cR:= @congrArg
def l7:= @List.length_replicate
def fQ:= @Int.pow_succ
def l8:= @PySem.Heap.get?_none_of_le
def j8:= @PySem.wpAny_call_entry
def j9:= @List.ext_getElem
def lB:= @Nat.mul_le_mul_right
def gD:= @List.map_map
def gE:= @Int.mul_emod
def k7:= @PySem.wpAny_newObj_type
def k8:= @PySem.wpAny_loadPart'
def lD:= @List.mem_cons_self
def dQ:= @or_false
def iB:= @Nat.add_assoc
def jA:= @PySem.Heap.size_push
def nP:= @List.forall_mem_cons
def lF:= @Nat.lt_succ_of_lt
def lH:= @Int.natAbs_add_le
def kA:= @List.append_nil
def kB:= @PySem.PassesOwn.never
def nQ:= @List.map_congr_left
def iC:= @Int.add_emod
def jB:= @PySem.wpAny_holding
def tT:= @List.getElem?_append_right
def lJ:= @List.length_take
def yS:= @PySem.F.slot_tuple_iterator_next
def dR:= @if_true
def pV:= @PySem.Heap.get?_update_self
def kC:= @decide_eq_true
def pW:= @Bool.beq_eq_decide_eq
def nR:= @Nat.lt_of_le_of_lt
def yT:= @PyProof.Rows.slot_tuple_getitem
def pX:= @PySem.wpAny_loadName_local
def nS:= @PySem.wpAny_truthy_bool
def nT:= @List.flatten_cons
def nU:= @PySem.wpAny_loadPart_at
def kD:= @Int.mul_assoc
def kE:= @Int.emod_emod
def tU:= @List.length_eq_zero_iff
def tV:= @List.getElem?_cons_zero
def pY:= @beq_eq_false_iff_ne
def pZ:= @PySem.mem_of_lookup
def fS:= @if_false
def lK:= @Bool.false_xor
def lL:= @PySem.wpAny_seqItems
def lM:= @Int.natAbs_neg
def qA:= @PySem.wpAny_Call_Name_kw
def kF:= @List.map_nil
def qB:= @PySem.Obj.data_mapFields
def qC:= @PySem.wpAny_setField_rec
def qD:= @Nat.add_sub_cancel
def nV:= @PySem.wpAny_execs_nil
def nW:= @PySem.wpAny_passesOwn
def lN:= @List.map_take
def yU:= @PySem.F.excBase_ValueError
def qE:= @PySem.Heap.get?_push_ne
def qF:= @List.length_range
def yV:= @List.getElem?_append_left
def yW:= @Decidable.byContradiction
def yX:= @Classical.byContradiction
def kG:= @Int.mul_one
def kH:= @PySem.wpAny_of_eq
def kI:= @Int.one_mul
def qG:= @Nat.lt_succ_self
def qH:= @List.length_drop
def tW:= @PyProof.Rows.call_isinstance_yes
def tX:= @PySem.Heap.SameBut.update
def tY:= @Nat.mul_le_mul_left
def aI0:= @PySem.plainObj_wpAny_Assign_Attribute
def yY:= @List.getElem?_replicate
def yZ:= @List.pairwise_singleton
def tZ:= @PySem.W.of_hideAll
def b81:= @set_cons_zero
def b82:= @set_cons_succ
def u4:= @Bool.eq_false_iff
def zA:= @PySem.F.slot_zip_next
def qI:= @PySem.isSubtype_type
def zB:= @PySem.builtinLookup_eq_fast
def zC:= @Int.emod_add_mul_ediv
def aI1:= @Int.dvd_of_mul_dvd_mul_left
def u5:= @PySem.wpAny_execs_cons
def lP:= @PySem.call_meets
def u6:= @PySem.Heap.size_update
def qJ:= @Bool.true_xor
def aI2:= @List.length_eraseIdx_of_lt
def zD:= @PySem.Heap.get?_update_ne
def zE:= @PySem.wpAny_isSubtype_exc
def zF:= @List.getElem_of_mem
def u7:= @Nat.min_eq_left
def qK:= @Nat.le_of_lt
def aI3:= @PySem.F.args_tuple_add_2
def kJ:= @Prod.ext
def aI4:= @PySem.AutoSeq1.wpAny_loadPart'
def aI5:= @PySem.F.args_tuple_mul_2
def aI6:= @List.mem_of_mem_eraseIdx
def zG:= @Int.natAbs_natCast
def qL:= @Nat.pow_succ
def nX:= @PySem.wpAny_Name
def u8:= @PySem.wpAny_setField
def aI7:= @PySem.F.entry_tuple_add
def aI8:= @PySem.F.entry_tuple_mul
def aI9:= @decide_eq_false_iff_not
def zH:= @List.reverse_cons
def zI:= @List.getElem?_set
def zJ:= @PySem.wpAny_pyIter_list
def zK:= @of_decide_eq_true
def aJ0:= @PySem.wpAny_pyIter_rangeiter
def aJ1:= @PySem.W.cellsFrom_some
def aJ2:= @PySem.F.slot_tuple_add
def aJ3:= @PySem.Heap.get?_update_other
def aJ4:= @PySem.F.slot_tuple_mul
def qM:= @Int.mul_add
def u9:= @PySem.wpAny_standAt
def uA:= @PySem.wpAny_attempt
def uB:= @List.map_drop
def aJ5:= @List.length_singleton
def aJ6:= @PySem.Obj.isFreed_of_fields
def aJ7:= @List.mem_append_left
def uD:= @Nat.ne_of_gt
def zL:= @Bool.eq_iff_iff
def uE:= @PySem.codeAny_mono
def zM:= @List.nodup_cons
def zN:= @List.of_mem_zip
def aJ8:= @List.mem_of_getElem?
def qN:= @PySem.typeIs_int
def aJ9:= @PySem.Calls.evalArgs_plain
def zO:= @List.nil_append
def aK0:= @PySem.isinstance_false_int
def zP:= @List.forIn_cons
def qO:= @PySem.wpAny_rule
def aK1:= @PySem.wpAny_updateSeq_pair
def zQ:= @PySem.typeLookup_type
def aK2:= @Nat.pow_lt_pow_right
def zR:= @Bool.or_eq_true
def aK3:= @List.mem_of_mem_drop
def aK4:= @Array.length_toList
def aK5:= @PySem.W.looks_clsIn
def zS:= @Int.mul_le_mul
def uF:= @Nat.le_succ
def aK6:= @List.mem_filterMap
def aK7:= @PySem.W.callWith_K
def aK8:= @PySem.wpAny_pyIter_tuple
def aK9:= @List.zip_cons_cons
def aL0:= @List.contains_cons
def aL1:= @Nat.one_le_two_pow
def zT:= @PySem.wpAny_onRaise
def aL2:= @List.ext_getElem?
def aL3:= @Bool.not_eq_true'
def aL4:= @Nat.le_succ_of_le
def uG:= @PySem.wpAny_call
def aL5:= @PySem.noFill_tuple_add
def zU:= @PySem.wpAny_typeOf
def zV:= @PySem.seqIndex_neg
def zW:= @Nat.mul_comm
def aL6:= @PySem.AutoSeq1.idx_int
def aL7:= @beq_self_eq_true
def zX:= @Nat.sub_zero
def zY:= @Nat.mul_succ
def zZ:= @Int.sub_emod
def aL8:= @Nat.succ_le_succ
def a00:= @Int.add_comm
def uH:= @PyProof.Rows.IsTup.new
def aL9:= @PySem.pushCells_keeps
def aM0:= @Int.natCast_mul
def aM1:= @List.sum_append
def aM2:= @Nat.not_lt_zero
def a01:= @PySem.seqIndex_of
def a02:= @Int.add_mul
open PySem PySem.Spec PyProof.Rows
section
variable {us its bmB:List Value}{a b t f C dx R sl l l1 l2 fI Cl:Addr}{P prog q:Program}{w:World}{h g base h':Heap}{o oe:Obj}{t' i j k n tk k' last kt:Nat}{ch fp:List Addr}{x qual f1 f2:Str}{e c tg iter elt:Expr}{N loose ks:List Str}{A:Around}{E Q:Value->Shared->Prop}{u v vl vu fl:Value}{s' s:Shared}{α:Type}{pos pos' tpos p cpos p2 tp np:Pos}{pins:List (Addr×Obj)}{op:CmpOp}{K:Frag}{st:Stmt}{es ifs elts:List Expr}{body:List Stmt}{vs items xs:Array Value}{lo:Int}{hi:Option Int}{kw:List (Str×Value)}{mg:Str->Option Value}{fd:FuncData}{outer:List Env}{scope:Scope}{YP:World->Heap->Prop}{od:Option Addr}{φ:Φ}{T T1 T2:Bool}{cl:List (Str×Addr)}{cap:List (Option Nat)}{em:Value->Env->Sem Unit}{js:List Nat}{newId initId:String}
namespace L2
abbrev Key:=Sum Int Str
nonrec def dS9:Key->Value->Bool
 | .inl k,v=>Value.isInt k v
 | .inr x,v=>Value.isStrOf x v
nonrec def keyH (w:World):Key->Int
 | .inl k=>hashInt k
 | .inr x=>hashStr w x
theorem iT: ∀{k:Key} {v:Value},dS9 k v=true->(∃i t,k=Sum.inl i/\v=Value.int i t)\/(∃x t,k=Sum.inr x/\v=Value.str x t)
 | .inl i,v,h=>by
  obtain⟨t,e⟩:=Value.isInt_shape (k:=i) (v:=v) h;exact .inl ⟨i,t,rfl,e⟩
 | .inr x,v,h=>by
  obtain⟨t,e⟩:=Value.isStrOf_shape (x:=x) (v:=v) h;exact .inr ⟨x,t,rfl,e⟩
theorem key_ll (a b:Int):decide ((Sum.inl a:Key)=Sum.inl b)=(a==b):=by
 by_cases e:a=b
 .subst e;simp
 .have h: ¬(Sum.inl a:Key)=Sum.inl b:=λq=>e (Sum.inl.inj q)
  rw[gC h];exact(pY.mpr e).symm
theorem key_rr (a b:Str):decide ((Sum.inr a:Key)=Sum.inr b)=decide (a=b):=by
 by_cases e:a=b
 .subst e;simp
 .have h: ¬(Sum.inr a:Key)=Sum.inr b:=λq=>e (Sum.inr.inj q)
  rw[gC h,gC e]
theorem key_lr (a:Int)(b:Str):decide ((Sum.inl a:Key)=Sum.inr b)=false:=gC (λq=>nomatch q)
theorem key_rl (a:Str)(b:Int):decide ((Sum.inr a:Key)=Sum.inl b)=false:=gC (λq=>nomatch q)
nonrec def cM8 (prog:Program)(w:World):PySem.KeyKind prog w Key where
 is:=dS9
 hash:=keyH w
 inj:=λv a b ha hb=>by
  rcases iT ha with⟨i,t,rfl,rfl⟩| ⟨x,t,rfl,rfl⟩
  .rcases iT hb with⟨j,u,rfl,e⟩| ⟨y,u,rfl,e⟩
   .injection e with e1 _;rw[e1]
   .exact nomatch e
  .rcases iT hb with⟨j,u,rfl,e⟩| ⟨y,u,rfl,e⟩
   .exact nomatch e
   .injection e with e1 _;rw[e1]
 byValue:=λk v h=>by
  rcases iT h with⟨i,t,rfl,rfl⟩| ⟨x,t,rfl,rfl⟩<;>rfl
 pyHash:=λhv h=>by
  rcases iT hv with⟨i,t,rfl,rfl⟩| ⟨x,t,rfl,rfl⟩
  .exact wpAny_pyHash_int h
  .exact wpAny_pyHash_str h
 eqBool:=λhu hv h=>by
  rcases iT hu with⟨i,t,rfl,rfl⟩| ⟨x,t,rfl,rfl⟩
  .rcases iT hv with⟨j,u,rfl,rfl⟩| ⟨y,u,rfl,rfl⟩
   .rw[key_ll]at h;exact wpAny_eqBool_int h
   .rw[key_lr]at h;exact SeqAt.EqAt.int_str i t y u _ _ _ _ h
  .rcases iT hv with⟨j,u,rfl,rfl⟩| ⟨y,u,rfl,rfl⟩
   .rw[key_rl]at h;exact SeqAt.EqAt.str_int x t j u _ _ _ _ h
   .rw[key_rr]at h;exact wpAny_eqBool_str h
 «strs» :=λk x t v h=>by
  rcases iT h with⟨i,u,rfl,e⟩| ⟨y,u,rfl,e⟩
  .exact nomatch e
  .injection e with e1 _
   subst e1;cases v<;>rfl
end L2
open L2
namespace L2
inductive V where
 | non|bl (b:Bool)|int (i:Int)|str (x:Str)|byt (b:Array UInt8)|flt (b:UInt64)|ref (a:Addr)|ty (n:String)
 deriving DecidableEq
def RelV:V->Value->Prop
 | .non,u=>u=Value.none
 | .bl b,u=>u=Value.bool b
 | .int i,u=> ∃t,u=Value.int i t
 | .str x,u=> ∃t,u=Value.str x t
 | .byt b,u=> ∃t,u=Value.bytes b t
 | .flt b,u=> ∃t,u=Value.float b t
 | .ref a,u=>u=Value.ref a
 | .ty n,u=>u=Value.type n
abbrev Vals:List V->List Value->Prop:=Paired RelV
theorem Vals.length {xs:List V}(r:Vals xs us):xs.length=us.length:=Paired.length r
theorem Vals.get: ∀{xs:List V} {us:List Value} {i:Nat} {x:V},Vals xs us->xs[i]? =some x-> ∃u,us[i]? =some u/\RelV x u
 | _,_,_,_,.nil,e=>by simp at e
 | _,_,0,_,.cons r _,e=>by simp at e;subst e;exact⟨_,rfl,r⟩
 | _,_,i+1,x,.cons _ t,e=>by
  obtain⟨u,h1,h2⟩:=Vals.get (i:=i) (x:=x) t (by exists e)
  exact⟨u,by simpa using h1,h2⟩
theorem Vals.set {x:V}{u:Value}(r:RelV x u): ∀{xs:List V} {us:List Value} (i:Nat),Vals xs us->Vals (xs.set i x) (us.set i u)
 | _,_,_,.nil=> .nil
 | _,_,0,.cons _ t=> .cons r t
 | _,_,i+1,.cons q t=> .cons q (Vals.set r i t)
theorem Vals.append: ∀{xs ys:List V} {us ws:List Value},Vals xs us->Vals ys ws->Vals (xs++ys) (us++ws)
 | _,_,_,_,.nil,s=>s
 | _,_,_,_,.cons r t,s=> .cons r (Vals.append t s)
theorem Vals.take: ∀{xs:List V} {us:List Value} (n:Nat),Vals xs us->Vals (xs.take n) (us.take n)
 | _,_,0,_=> .nil
 | _,_,_+1,.nil=> .nil
 | _,_,n+1,.cons r t=> .cons r (Vals.take n t)
theorem Vals.drop: ∀{xs:List V} {us:List Value} (n:Nat),Vals xs us->Vals (xs.drop n) (us.drop n)
 | _,_,0,r=>r
 | _,_,_+1,.nil=> .nil
 | _,_,n+1,.cons _ t=>Vals.drop n t
def cE6:Option V->Option Value->Prop
 | some v,some u=>RelV v u
 | none,none=>True
 | _,_=>False
def KV {κ:Type}:List (κ×V)->List (κ×Value)->Prop:=Paired fun(p:κ×V) (q:κ×Value)=>p.1=q.1/\RelV p.2 q.2
nonrec def kV:Key->V
 | .inl i=> .int i
 | .inr x=> .str x
inductive HO where
 | lst (xs:List V)
 | tup (xs:List V)
 | dK (kvs:List (Key×V))|dT (kvs:List (List Key×V))
 | set (S:Int->Bool) (n:Nat)
 | ins (C dx:Addr) (fs:List (Str×V))
 | own (x:Addr)
 | xd (fs:List (Str×V))
 | met (f x:Addr)
 | rng (lo hi:Int)
 | frz (o:Obj) (u:HO)
 | tbl (ps:Array Value)
 | ext (φ:Heap->Prop)
abbrev Hp:=Addr->Option HO
nonrec def upd (H:Hp)(a:Addr)(o:HO):Hp:=λb=>if b=a then some o else H b
theorem iU {H:Hp}{o:HO}:upd H a o a=some o:=by unfold upd;rw[a8 rfl]
theorem cI {H:Hp}{o:HO}(h:b≠a):upd H a o b=H b:=by unfold upd;rw[a6 h]
theorem cX {H:Hp}{o:HO}(h:H a=some o)(h':H b=none):a≠b:=by
 intro e;subst e;rw[h]at h';cases h'
section
variable (P:Program)(w:World)
nonrec def rO (H:Hp)(h:Heap)(a:Addr):HO->Prop
 | .lst xs=>xs.length<=sizeLine/\ ∃(its:List Value) (n:Nat),Vals xs its/\h.get? a=some {cls:= .type "list",data:= .seq its.toArray n}
 | .tup xs=>xs.length<=sizeLine/\ ∃its:List Value,Vals xs its/\IsTup h a its.toArray
 | .dK kvs=>kvs.length<=sizeLine/\(a==sysModules)=false/\ ∃vs,KV kvs vs/\h.DictOf (cM8 P w) a vs
 | .dT kvs=>kvs.length<=sizeLine/\(a==sysModules)=false/\ ∃xs:List (List Key×Addr×Value),
   Paired (fun(p:List Key×V) (q:List Key×Addr×Value)=>p.1=q.1/\H q.2.1=some (.tup<|p.1.map kV)/\RelV p.2 q.2.2) kvs xs/\
   ∃o es ep,h.get? a=some o/\o.ExactDict/\o.data= .dict es ep/\es.toList=xs.map (entryOfKey<|tupleKind<|cM8 P w)/\(xs.map (·.1)).Nodup
 | .set S n=>h.SetOf (intKind P w) a S n
 | .ins C dx fs=>H dx=some (.own a)/\fs.length<=1000/\dx≠a/\h.get? a=some (instObj C dx)/\
   ∃mA,h.Ns1 dx mA/\(∀f,cE6 (fs.lookup f)<|mA f)/\PySem.Within mA (fs.map (·.1))
 | .own _=> ∃o,h.get? a=some o
 | .xd fs=> ∃mA,h.Ns1 a mA/\ ∀f,cE6 (fs.lookup f) (mA f)
 | .rng lo hi=> ∃t u v,h.get? a=some {cls:= .type "range",data:= .fields #[.int lo t,.int hi u,.int 1 v]}
 | .frz o u=>h.get? a=some o/\rO H h a u
 | .tbl ps=>h.get? a=some {cls:= .none,data:= .fields ps}
 | .met f x=>h.get? a=some (methodObj (.ref f)<|.ref x)
 | .ext φ=>φ h/\(∃o,h.get? a=some o)/\ ∀h1 h2:Heap,φ h1->(∀o,h1.get? a=some o->h2.get? a=some o)->φ h2
def HOk (H:Hp)(h:Heap):Prop:= ∀a o,H a=some o->rO P w H h a o
end
section
variable {P:Program}{w:World}{H H':Hp}{h h':Heap}{a:Addr}{o:HO}
theorem rO.lt (x:rO P w H h a o):a<h.objs.size:=by
 cases o with
 | lst xs=>obtain⟨_,_,_,_,e⟩:=x;exact aV e
 | tup xs=>obtain⟨_,_,_,p⟩:=x;exact p.lt
 | dK kvs=>obtain⟨_,_,_,_,o,_,_,e,_⟩:=x;exact aV e
 | dT kvs=>obtain⟨_,_,_,_,o,_,_,e,_⟩:=x;exact aV e
 | set S n=>obtain⟨o,_,_,_,e,_⟩:=x;exact aV e
 | ins C dx fs=>obtain⟨_,_,_,e,_⟩:=x;exact aV e
 | own y=>obtain⟨_,e⟩:=x;exact aV e
 | xd fs=>obtain⟨_,⟨_,_,_,e,_⟩,_⟩:=x;exact aV e
 | rng lo hi=>obtain⟨_,_,_,e⟩:=x;exact aV e
 | frz ob u=>obtain⟨e,_⟩:=x;exact aV e
 | tbl ps=>exact aV (show h.get? a=some _ from x)
 | met f y=>exact aV (show h.get? a=some _ from x)
 | ext φ=>obtain⟨_,⟨_,e⟩,_⟩:=x;exact aV e
theorem Paired.mapP {α β:Type}{F G:α->β->Prop}: ∀{l₁:List α} {l₂:List β},Paired F l₁ l₂->(∀a b,F a b->G a b)->Paired G l₁ l₂
 | _,_,.nil,_=> .nil
 | _,_,.cons r t,f=> .cons (f _ _ r) (Paired.mapP t f)
theorem rO.stay (x:rO P w H h a o)(k: ∀b u,(b=a\/H b=some (.own a))->h.get? b=some u->h'.get? b=some u)
  (ho: ∀b,H b=some (.own a)->H' b=some (.own a)) (ht: ∀b xs,H b=some (.tup xs)->H' b=some (.tup xs)):rO P w H' h' a o:=by
 induction o with
 | lst xs=>obtain⟨z,its,n,r,e⟩:=x;exact⟨z,its,n,r,k _ _ (.inl rfl) e⟩
 | tup xs=>obtain⟨z,its,r,ob,e,c⟩:=x;exact⟨z,its,r,ob,k _ _ (.inl rfl) e,c⟩
 | dK kvs=>obtain⟨z,y,vs,r,ob,es,ep,e,c⟩:=x;exact⟨z,y,vs,r,ob,es,ep,k _ _ (.inl rfl) e,c⟩
 | dT kvs=>
  obtain⟨z,y,xs,r,ob,es,ep,e,c⟩:=x;exact⟨z,y,xs,Paired.mapP r λp q z=>⟨z.1,ht _ _ z.2.1,z.2.2⟩,ob,es,ep,k _ _ (.inl rfl) e,c⟩
 | set S n=>obtain⟨ob,es,ep,t,e,c⟩:=x;exact⟨ob,es,ep,t,k _ _ (.inl rfl) e,c⟩
 | ins C dx fs=>
  obtain⟨d,z,ne,e,mA,⟨od,es,ep,e2,c⟩,r⟩:=x;exact⟨ho _ d,z,ne,k _ _ (.inl rfl) e,mA,⟨od,es,ep,k _ _ (.inr d) e2,c⟩,r⟩
 | own y=>obtain⟨ob,e⟩:=x;exact⟨ob,k _ _ (.inl rfl) e⟩
 | xd fs=>obtain⟨mA,⟨od,es,ep,e,c⟩,r⟩:=x;exact⟨mA,⟨od,es,ep,k _ _ (.inl rfl) e,c⟩,r⟩
 | rng lo hi=>obtain⟨t,u,v,e⟩:=x;exact⟨t,u,v,k _ _ (.inl rfl) e⟩
 | frz ob u ih=>obtain⟨e,q⟩:=x;exact⟨k _ _ (.inl rfl) e,ih q⟩
 | tbl ps=>
  have e:h.get? a=some {cls:= .none,data:= .fields ps}:=x;show h'.get? a=some {cls:= .none,data:= .fields ps};exact k a _ (.inl rfl) e
 | met f y=>
  have e:h.get? a=some (methodObj (.ref f)<|.ref y):=x;show h'.get? a=some (methodObj (.ref f)<|.ref y);exact k a _ (.inl rfl) e
 | ext φ=>obtain⟨p,⟨o,e⟩,st⟩:=x;exact⟨st _ _ p λo q=>k _ _ (.inl rfl) q,⟨o,k _ _ (.inl rfl) e⟩,st⟩
theorem HOk.lt (x:HOk P w H h)(e:H a=some o):a<h.objs.size:=(x a o e).lt
theorem HOk.fresh (x:HOk P w H h)(e:h.objs.size<=a):H a=none:=by
 cases q:H a with
 | none=>rfl
 | some u=>exact absurd (aZ (x.lt q) e) (d7 _)
theorem HOk.kept (x:HOk P w H h)(k: ∀b u,h.get? b=some u->h'.get? b=some u):HOk P w H h':=λa o e=>
 (x a o e).stay (λb u _ q=>k b u q) (λ_ q=>q) λ_ _ q=>q
theorem HOk.laid (x:HOk P w H h)(k: ∀b u,h.get? b=some u->h'.get? b=some u)(hp:h.objs.size<=a)(new:rO P w (upd H a o) h' a o):HOk P w (upd H a o) h':=λb u e=>by
 have hn:=x.fresh hp
 by_cases hb:b=a
 .subst hb;rw[iU]at e;cases e;exact new
 .rw[cI hb]at e;exact(x b u e).stay (λc v _ q=>k c v q) (λc q=>by rw[cI<|cX q hn];exact q) λc xs q=>by rw[cI<|cX q hn];exact q
end
def Rd (H:Hp)(a:Addr)(u:HO):Prop:=H a=some u\/ ∃o,H a=some (.frz o u)
theorem Rd.ok {H:Hp}{u:HO}(r:Rd H a u)(x:HOk P w H h):rO P w H h a u:=by
 rcases r with r| ⟨o,r⟩
 .exact x a u r
 .obtain⟨_,q⟩:=x a _ r;exact q
def Mut:Option HO->Prop
 | some (.lst _)=>True
 | some (.dK _)=>True
 | some (.dT _)=>True
 | some (.set _ _)=>True
 | some (.ins _ _ _)=>True
 | some (.ext _)=>True
 | _=>False
section
variable {P:Program}{w:World}{H:Hp}{h h':Heap}{x e:Addr}{o':HO}
theorem HOk.write (ok:HOk P w H h)(mu:Mut (H x))(he:e=x\/H e=some (.own x))(k: ∀b u,b≠e->h.get? b=some u->h'.get? b=some u)(heo: ∃u,h'.get? e=some u)
  (new:rO P w (upd H x o') h' x o'):HOk P w (upd H x o') h':=λb u q=>by
 have nown: ∀c y,H c=some (.own y)->c≠x:=λc y r z=>by subst z;rw[r]at mu;exact mu
 have ntup: ∀c xs,H c=some (.tup xs)->c≠x:=λc xs r z=>by subst z;rw[r]at mu;exact mu
 by_cases hb:b=x
 .subst hb;rw[iU]at q;cases q;exact new
 .rw[cI hb]at q
  by_cases hbe:b=e
  .have q':H b=some (.own x):=by
    rcases he with z|z
    .exact absurd (hbe.trans z) hb
    .rw[hbe];exact z
   rw[q]at q';cases q';obtain⟨v,hv⟩:=heo;exact⟨v,by rw[hbe];exact hv⟩
  .refine(ok b u q).stay (λc v hc r=>k c v ?_ r) (λc r=>by rw[cI<|nown c b r];exact r) λc xs r=>by rw[cI<|ntup c xs r];exact r
   rcases hc with rfl|hc
   .exact hbe
   .rintro rfl;rcases he with z|z
    .exact nown c b hc z
    .rw[hc]at z;cases z;exact hb rfl
end
structure Un (fs ex:List Addr)(H H':Hp)(h h':Heap):Prop where
 keep: ∀b o,h.get? b=some o->H b=none->b ∉ fs->b ∉ ex->h'.get? b=some o
 slot: ∀b o,h.get? b=some o->H b=none->b∈fs->b ∉ ex-> ∃sl,h'.get? b=some {o with slots:=sl}
 free: ∀b o,h.get? b=some o->H b=none->b ∉ ex->H' b=none
 there: ∀b o,h.get? b=some o->b ∉ ex-> ∃o',h'.get? b=some o'
 tups: ∀b xs,H b=some (.tup xs)->H' b=some (.tup xs)
 frzs: ∀b o u,H b=some (.frz o u)->H' b=some (.frz o u)
 tbls: ∀b ps,H b=some (.tbl ps)-> ∃more,H' b=some (.tbl<|ps++more)
section
variable {fs fs' ex ex':List Addr}{H H1 H2:Hp}{h h1 h2 h':Heap}{a x e:Addr}{o:HO}
theorem Un.any (u:Un fs ex H H1 h h1){ob:Obj}(q:h.get? b=some ob)(n:H b=none)(hx:b ∉ ex): ∃sl,h1.get? b=some {ob with slots:=sl}:=by
 by_cases hb:b∈fs
 .exact u.slot b ob q n hb hx
 .exact⟨ob.slots,u.keep b ob q n hb hx⟩
theorem Un.kept (k: ∀b u,h.get? b=some u->h'.get? b=some u):Un fs ex H H h h':=
 ⟨λb ob q _ _ _=>k b ob q,λb ob q _ _ _=>⟨ob.slots,k b ob q⟩,λ_ _ _ n _=>n,λb ob q _=>⟨ob,k b ob q⟩,λ_ _ q=>q,λ_ _ _ q=>q,λ_ ps q=>⟨#[],by rw[q];simp⟩⟩
theorem Un.refl:Un fs ex H H h h:=Un.kept λ_ _ q=>q
theorem Un.laid (k: ∀b u,h.get? b=some u->h'.get? b=some u)(hp:h.objs.size<=a)(hn:H a=none):Un fs ex H (upd H a o) h h' where
 keep:=λb u q _ _ _=>k b u q
 slot:=λb u q _ _ _=>⟨u.slots,k b u q⟩
 free:=λb u q n _=>by rw[cI<|bE<|aZ (aV q) hp];exact n
 there:=λb u q _=>⟨u,k b u q⟩
 tups:=λb xs q=>by rw[cI<|cX q hn];exact q
 frzs:=λb u xs q=>by rw[cI<|cX q hn];exact q
 tbls:=λb ps q=>⟨#[],by rw[cI<|cX q hn,q];simp⟩
theorem Un.write (mu:Mut (H x))(he:e=x\/H e=some (.own x))(k: ∀b u,b≠e->h.get? b=some u->h'.get? b=some u)(heo: ∃u,h'.get? e=some u):Un fs ex H (upd H x o) h h':=by
 have hx: ∀b,H b=none->b≠x:=λb n z=>by subst z;rw[n]at mu;exact mu
 have hb: ∀b,H b=none->b≠e:=λb n z=>by
  subst z;rcases he with r|r
  .exact hx b n r
  .rw[n]at r;cases r
 have hm: ∀b u,H b=some u-> ¬Mut (some u)->b≠x:=λb u q nm z=>by subst z;rw[q]at mu;exact nm mu
 refine⟨λb u q n _ _=>k b u (hb b n) q,λb u q n _ _=>⟨u.slots,k b u (hb b n) q⟩,λb u q n _=>by rw[cI<|hx b n];exact n,λb u q _=> ?_,
  λb xs q=>by rw[cI<|hm b _ q λz=>z];exact q,λb u xs q=>by rw[cI<|hm b _ q λz=>z];exact q,λb ps q=>⟨#[],by rw[cI<|hm b _ q λz=>z,q];simp⟩⟩
 by_cases hbe:b=e
 .subst hbe;exact heo
 .exact⟨u,k b u hbe q⟩
end
nonrec def trk (h:Heap)(H:Hp):List Addr:=(List.range h.objs.size).filter λa=>(H a).isSome
nonrec def bT6 (h:Heap)(H:Hp):Heap:=PySem.W.hideAll h (trk h H)
theorem cT9 (h:Heap)(H:Hp):(bT6 h H).objs.size=h.objs.size:=PySem.W.hideAll_size _ _
theorem d09 {H:Hp}(e:h.get? b=some o)(n:H b=none):(bT6 h H).get? b=some o:=
 PySem.W.hideAll_get _ e λhm=>by
  have q:(H b).isSome=true:=(List.mem_filter.mp hm).2;rw[n]at q;simp at q
theorem dG9 {H:Hp}(e:(bT6 h H).get? b=some o):h.get? b=some o/\H b=none:=by
 have e':h.get? b=some o:=tZ (trk h H) e;refine⟨e',?_⟩;cases q:H b with
 | none=>rfl
 | some x=>
  have hm:b∈trk h H:=List.mem_filter.mpr ⟨d6.mpr<|aV e',by simp[q]⟩
  have z:(bT6 h H).get? b=none:=PySem.W.hideAll_none (trk h H) hm;rw[z]at e;cases e
nonrec def dH0 (g h:Heap)(L:Addr):List (Addr×Obj):=(List.range h.objs.size).filterMap λa=>if a=L\/(g.get? a).isSome=true then none else(h.get? a).map λo=>(a,o)
nonrec def kL (g h:Heap)(L d:Addr):List (Addr×Obj):=(dH0 g h L).filter λp=>decide (p.1≠d)
structure Mod (K:Frag)(mg:Str->Option Value)(base:Heap):Prop where
 kin:K.In base
 glob:base.Ns mainGlobals mg
 blt: ∃mb,base.Ns builtinsNs mb/\ ∀x:Str,x≠"__name__"->mb x=bootBuiltins x
 nolimit:base.NoLimit
structure Cx where
 prog:Program
 w:World
 K:Frag
 mg:Str->Option Value
 base:Heap
 A:Around
 N:List Str
 s₀:Shared
 H₀:Hp
 env:Env
 outer:List Env
 stack:List Env
 ex:List Addr
 fn:Str->Bool
 calm:Bool
 pn:List (Addr×Obj)
 xe:Value->Shared->Prop
nonrec def frs (l:List Env):List Addr:=l.filterMap (·.frame)
noncomputable abbrev Cx.fs (X:Cx):List Addr:=frs X.outer
def Vis (sc:Scope)(x:Str):Prop:=sc.names.lookup x=some .local\/sc.names.lookup x=some .cell\/sc.names.lookup x=some .free
def Loc (sc:Scope)(x:Str):Prop:=sc.names.lookup x=some .local\/sc.names.lookup x=some .cell
def Look (env:Env)(h:Heap)(m:Str->Option Value)(x:Str)(u:Value):Prop:=
 (env.kindOf x=some .local/\m x=some u)\/((env.kindOf x=some .cell\/env.kindOf x=some .free)/\ ∃c,env.cells.lookup x=some c/\h.IsCell c (some u))
structure Cx.Ok (X:Cx):Prop where
 mod:Mod X.K X.mg X.base
 kind:X.env.scope.kind= .function
 glob:X.env.globals=mainGlobals
 blt:X.env.builtins=builtinsNs
 above:X.s₀.heap.objs.size<=X.env.locals
 inj: ∀x y c,X.env.cells.lookup x=some c->X.env.cells.lookup y=some c->x=y
 has: ∀x,(X.env.kindOf x=some .cell\/X.env.kindOf x=some .free)-> ∃c,X.env.cells.lookup x=some c
 cab: ∀x c,X.fn x=true->X.env.cells.lookup x=some c->X.s₀.heap.objs.size<=c
 hd:X.calm=true->X.A.handled=none
 frames:X.A.frames=some X.stack
 stk:X.stack=X.outer\/(X.stack=X.env::X.outer/\X.env.frame=some X.env.locals)
 exf: ∀b∈X.ex,b≠X.env.locals/\ ∀x c,X.env.cells.lookup x=some c->c≠b
 bs: ∀b o,X.base.get? b=some o->X.s₀.heap.get? b=some o/\X.H₀ b=none
 bsz:X.base.objs.size<=X.s₀.heap.objs.size
 noex: ∀b o,X.base.get? b=some o->b ∉ X.ex
 exfs: ∀b∈X.ex,b ∉ X.fs
 funs:X.s₀.heap.FunFrames X.base X.outer
 frf: ∀b∈X.fs,X.H₀ b=none
structure Inv (X:Cx)(pins:List (Addr×Obj))(σ:List (Option V))(H:Hp)(s:Shared):Prop where
 ok:X.Ok
 os:s.os=X.s₀.os
 bare:AllBare s.gens
 base:Un X.fs X.ex X.H₀ H X.s₀.heap s.heap
 loc: ∃m,s.heap.Ns X.env.locals m/\ ∀(i:Nat) (x:Str) (v:V),X.N[i]? =some x->σ[i]? =some (some v)->Vis X.env.scope x-> ∃u,RelV v u/\Look X.env s.heap m x u
 cell: ∀x c,X.env.cells.lookup x=some c-> ∃v,s.heap.IsCell c v
 free:H X.env.locals=none
 freeC: ∀x c,X.env.cells.lookup x=some c->H c=none
 pin: ∀p∈X.pn++pins,s.heap.get? p.1=some p.2/\H p.1=none/\p.1≠X.env.locals/\p.1 ∉ X.fs/\ ∀v,p.2.data≠ .cell v
 hok:HOk X.prog X.w H s.heap
 len:σ.length=X.N.length
section
variable {X:Cx}{pins:List (Addr×Obj)}{σ:List (Option V)}{H H':Hp}{s:Shared}{h':Heap}
theorem Cx.Ok.nofr (ok:X.Ok)(e:X.base.get? b=some o):b ∉ X.fs:=λhb=>by
 have:=(ok.funs.mem hb).1;rw[e]at this;cases this
theorem Inv.bs (I:Inv X pins σ H s): ∀b o,X.base.get? b=some o->s.heap.get? b=some o/\H b=none:=λb o e=>
 ⟨I.base.keep b o (I.ok.bs b o e).1 (I.ok.bs b o e).2 (I.ok.nofr e)<|I.ok.noex b o e,I.base.free b o (I.ok.bs b o e).1 (I.ok.bs b o e).2<|I.ok.noex b o e⟩
theorem Inv.bk (I:Inv X pins σ H s): ∀b o,X.base.get? b=some o->s.heap.get? b=some o:=λb o e=>(I.bs b o e).1
theorem Inv.mod (I:Inv X pins σ H s):Mod X.K X.mg X.base:=I.ok.mod
theorem Inv.kIn (I:Inv X pins σ H s):X.K.In s.heap:=I.ok.mod.kin.keeps I.bk
theorem Inv.nolimit (I:Inv X pins σ H s):s.heap.NoLimit:=I.ok.mod.nolimit.keeps I.bk
theorem Inv.lt (I:Inv X pins σ H s):X.env.locals<s.heap.objs.size:=let ⟨_,hn,_⟩:=I.loc;hn.lt
theorem Inv.sz (I:Inv X pins σ H s):X.s₀.heap.objs.size<=s.heap.objs.size:=aG I.ok.above (qK I.lt)
theorem Inv.nofs (I:Inv X pins σ H s)(h:s.heap.objs.size<=a):a ∉ X.fs:=λhb=>by
 obtain⟨_,o,ho,_⟩:=I.ok.funs.mem hb;exact absurd (aZ (aV ho)<|aG I.sz h) (d7 _)
theorem Inv.cne (I:Inv X pins σ H s): ∀x c,X.env.cells.lookup x=some c->c≠X.env.locals:=λx c e z=>by
 obtain⟨v,o,ho,hd⟩:=I.cell x c e;obtain⟨m,⟨o',es,ep,ho',hd',_⟩,_⟩:=I.loc;rw[z,ho']at ho;cases ho;rw[hd']at hd;cases hd
theorem Inv.funs (I:Inv X pins σ H s):s.heap.FunFrames X.base X.outer:=by
 have all: ∀(l:List Env),(∀b∈frs l,b∈X.fs)->X.s₀.heap.FunFrames X.base l->s.heap.FunFrames X.base l:=by
  intro l
  induction l with
  | nil=>intro _ _;trivial
  | cons env r ih=>
   intro hs hl;obtain⟨hk,⟨L,o,hf,hn,ho,hd⟩,hr⟩:=hl;have hL:L∈X.fs:=hs L (by unfold frs;rw[iA,hf];exact lD)
   obtain⟨sl,e⟩:=I.base.slot L o ho (I.ok.frf L hL) hL λz=>I.ok.exfs L z hL
   exact⟨hk,⟨L,_,hf,hn,e,hd⟩,ih (λb hb=>hs b (by unfold frs;rw[iA,hf];exact fB _ hb)) hr⟩
 exact all X.outer (λ_ hb=>hb) I.ok.funs
theorem Inv.stack (I:Inv X pins σ H s):s.heap.FunFrames X.base X.stack:=by
 rcases I.ok.stk with e| ⟨e,hf⟩
 .rw[e];exact I.funs
 .rw[e];obtain⟨m,hn,_⟩:=I.loc;refine .cons (by rw[I.ok.kind];decide) hf hn ?_ I.funs
  exact l8 (aG I.ok.bsz I.ok.above)
theorem Inv.stkSub (I:Inv X pins σ H s): ∀b∈frs X.stack,b∈X.env.locals::X.fs:=λb hb=>by
 rcases I.ok.stk with e| ⟨e,hf⟩
 .rw[e]at hb;exact fB _ hb
 .rw[e]at hb;unfold frs at hb;rw[iA,hf]at hb;exact hb
theorem Inv.stkFree (I:Inv X pins σ H s): ∀b∈frs X.stack,H b=none:=λb hb=>by
 rcases aY.mp (I.stkSub b hb)with e|hb
 .rw[e];exact I.free
 .obtain⟨_,o,ho,_⟩:=I.ok.funs.mem hb;exact I.base.free b o ho (I.ok.frf b hb) λz=>I.ok.exfs b z hb
theorem Inv.step {g':Array GenState}{d':Drawn}(I:Inv X pins σ H s)
  (hch: ∀b∈ch,(b∈X.ex\/X.s₀.heap.objs.size<=b)/\b≠X.env.locals/\(∀x c,X.env.cells.lookup x=some c->c≠b)/\ ∀p∈X.pn++pins,p.1≠b)
  (keep: ∀b o,b≠X.env.locals->b ∉ X.fs->b ∉ ch->s.heap.get? b=some o->H b=none->h'.get? b=some o)
  (slot: ∀b o,b≠X.env.locals->b∈X.fs->b ∉ ch->s.heap.get? b=some o->H b=none-> ∃sl,h'.get? b=some {o with slots:=sl}) (free: ∀b o,b ∉ ch->s.heap.get? b=some o->H b=none->H' b=none)
  (there: ∀b o,b ∉ ch->s.heap.get? b=some o-> ∃o',h'.get? b=some o')
  (tups: ∀b xs,H b=some (.tup xs)->H' b=some (.tup xs)) (frzs: ∀b o u,H b=some (.frz o u)->H' b=some (.frz o u)) (tbls: ∀b ps,H b=some (.tbl ps)-> ∃more,H' b=some (.tbl<|ps++more))
  (ns: ∀m,s.heap.Ns X.env.locals m->h'.Ns X.env.locals m) (hok:HOk X.prog X.w H' h') (hg:AllBare g') :
  Inv X pins σ H' {s with heap:=h',gens:=g',drawn:=d',toks:=t'}:=by
 have neL: ∀b o,X.s₀.heap.get? b=some o->b≠X.env.locals:=λb o e=>bE (aZ (aV e) I.ok.above)
 have neC: ∀b o,X.s₀.heap.get? b=some o->b ∉ X.ex->b ∉ ch:=λb o e hx hb=>by
  rcases(hch b hb).1 with z|z
  .exact hx z
  .exact absurd (aZ (aV e) z) (d7 _)
 have cellK: ∀x c,X.env.cells.lookup x=some c-> ∀v,s.heap.IsCell c v->h'.IsCell c v:=λx c e v ⟨o,ho,hd⟩=>by
  have nch:c ∉ ch:=λz=>(hch c z).2.2.1 x c e rfl
  by_cases hc:c∈X.fs
  .obtain⟨sl,q⟩:=slot c o (I.cne x c e) hc nch ho (I.freeC x c e);exact⟨_,q,hd⟩
  .exact⟨o,keep c o (I.cne x c e) hc nch ho<|I.freeC x c e,hd⟩
 refine⟨I.ok,I.os,hg,⟨λb o e n hb hx=> ?_,λb o e n hb hx=> ?_,λb o e n hx=> ?_,λb o e hx=> ?_,λb xs e=>tups b xs (I.base.tups b xs e),λb o xs e=>frzs b o xs (I.base.frzs b o xs e),λb ps e=> ?_⟩,?_,λx c e=> ?_,?_,λx c e=> ?_,λp hp=> ?_,hok,I.len⟩
 .exact keep b o (neL b o e) hb (neC b o e hx) (I.base.keep b o e n hb hx) (I.base.free b o e n hx)
 .obtain⟨sl,e1⟩:=I.base.slot b o e n hb hx;obtain⟨sl',e2⟩:=slot b _ (neL b o e) hb (neC b o e hx) e1 (I.base.free b o e n hx);exact⟨sl',e2⟩
 .obtain⟨o',e1⟩:=I.base.there b o e hx;exact free b o' (neC b o e hx) e1 (I.base.free b o e n hx)
 .obtain⟨o',e1⟩:=I.base.there b o e hx;exact there b o' (neC b o e hx) e1
 .obtain⟨m1,e1⟩:=I.base.tbls b ps e;obtain⟨m2,e2⟩:=tbls b _ e1;exact⟨m1++m2,by rw[e2,Array.append_assoc]⟩
 .obtain⟨m,hn,hl⟩:=I.loc;refine⟨m,ns m hn,λi x v e1 e2 e3=> ?_⟩
  obtain⟨u,r,l⟩:=hl i x v e1 e2 e3;refine⟨u,r,?_⟩;rcases l with l| ⟨k,c,e,z⟩
  .exact .inl l
  .exact .inr ⟨k,c,e,cellK x c e _ z⟩
 .obtain⟨v,z⟩:=I.cell x c e;exact⟨v,cellK x c e v z⟩
 .obtain⟨m,⟨o,_,_,ho,_⟩,_⟩:=I.loc;exact free _ o (λz=>(hch _ z).2.1 rfl) ho I.free
 .obtain⟨v,o,ho,hd⟩:=I.cell x c e;exact free c o (λz=>(hch c z).2.2.1 x c e rfl) ho (I.freeC x c e)
 .obtain⟨e,n,ne,nf,d⟩:=I.pin p hp;have nch:p.1 ∉ ch:=λz=>(hch p.1 z).2.2.2 p hp rfl
  exact⟨keep p.1 p.2 ne nf nch e n,free p.1 p.2 nch e n,ne,nf,d⟩
theorem Inv.un (I:Inv X pins σ H s)(u:Un X.fs [] H H' s.heap h')(hok:HOk X.prog X.w H' h'):Inv X pins σ H' {s with heap:=h',toks:=t'}:=by
 obtain⟨m,⟨o,es,ep,ho,r⟩,_⟩:=id I.loc;obtain⟨sl,hL⟩:=u.any ho I.free af
 exact I.step (g':=s.gens) (d':=s.drawn) (ch:=[]) (λ_ z=>nomatch z) (λb o _ hb _ e n=>u.keep b o e n hb af) (λb o _ hb _ e n=>u.slot b o e n hb af) (λb o _ e n=>u.free b o e n af) (λb o _ e=>u.there b o e af) u.tups u.frzs u.tbls (λm' hm=>by
  obtain⟨o',es',ep',ho',r'⟩:=hm;rw[ho]at ho';cases ho';exact⟨_,es',ep',hL,r'⟩) hok I.bare
theorem Inv.call {g':Array GenState}{d':Drawn}(I:Inv X pins σ H s)(u:Un (frs X.stack) ch H H' s.heap h')(hok:HOk X.prog X.w H' h')(hg:AllBare g')
  (hch: ∀b∈ch,(b∈X.ex\/X.s₀.heap.objs.size<=b)/\b≠X.env.locals/\(∀x c,X.env.cells.lookup x=some c->c≠b)/\ ∀p∈X.pn++pins,p.1≠b) :
  Inv X pins σ H' {s with heap:=h',gens:=g',drawn:=d',toks:=t'}:=by
 obtain⟨m,⟨o,es,ep,ho,r⟩,_⟩:=id I.loc;obtain⟨sl,hL⟩:=u.any ho I.free λz=>(hch _ z).2.1 rfl
 exact I.step (ch:=ch) hch (λb o hL hb hc e n=>u.keep b o e n (λz=>(aY.mp<|I.stkSub b z).elim hL hb) hc) (λb o _ _ hc e n=>u.any e n hc) (λb o hc e n=>u.free b o e n hc) (λb o hc e=>u.there b o e hc) u.tups u.frzs u.tbls (λm' hm=>by
  obtain⟨o',es',ep',ho',r'⟩:=hm;rw[ho]at ho';cases ho';exact⟨_,es',ep',hL,r'⟩) hok hg
theorem Inv.turned {it:Addr}(I:Inv X pins σ H s)(k: ∀b o,b≠it->s.heap.get? b=some o->h'.get? b=some o)(hn:H it=none)(hL:it≠X.env.locals)
  (h1:it∈X.ex\/X.s₀.heap.objs.size<=it) (h2: ∀x c,X.env.cells.lookup x=some c->c≠it) (h3: ∀p∈X.pn++pins,p.1≠it):Inv X pins σ H {s with heap:=h',toks:=t'}:=by
 have nit: ∀b u,H b=some u->b≠it:=λb u e z=>by rw[z,hn]at e;cases e
 refine I.step (g':=s.gens) (d':=s.drawn) (ch:=[it]) (λb hb=> ?_) (λb o _ _ hc e _=>k b o (λz=>hc (by simp[z])) e) (λb o _ _ hc e _=>⟨o.slots,k b o (λz=>hc (by simp[z])) e⟩) (λ_ _ _ _ n=>n)
  (λb o hc e=>⟨o,k b o (λz=>hc (by simp[z])) e⟩) (λ_ _ e=>e) (λ_ _ _ e=>e) (λb ps e=>⟨#[],by rw[e];simp⟩) (λm hm=> ?_) (λb u e=> ?_) I.bare
 .have e:b=it:=by exists hb
  subst e;exact⟨h1,hL,h2,h3⟩
 .obtain⟨o,es,ep,ho,r⟩:=hm;exact⟨o,es,ep,k _ o (Ne.symm hL) ho,r⟩
 .refine(I.hok b u e).stay (λc v hc q=>k c v ?_ q) (λ_ q=>q) λ_ _ q=>q
  rcases hc with z|z
  .rw[z];exact nit b u e
  .exact nit c _ z
theorem Inv.tok (I:Inv X pins σ H s)(t:Nat):Inv X pins σ H {s with toks:=t}:=I.un (h':=s.heap) (t':=t) Un.refl I.hok
theorem Inv.kept (I:Inv X pins σ H s)(k: ∀b u,s.heap.get? b=some u->h'.get? b=some u):Inv X pins σ H {s with heap:=h',toks:=t'}:=I.un (Un.kept k) (I.hok.kept k)
theorem Inv.laid {o:HO}(I:Inv X pins σ H s)(k: ∀b u,s.heap.get? b=some u->h'.get? b=some u)(hp:s.heap.objs.size<=a)(new:rO X.prog X.w (upd H a o) h' a o) :
  Inv X pins σ (upd H a o) {s with heap:=h',toks:=t'}:=I.un (Un.laid k hp<|I.hok.fresh hp) (I.hok.laid k hp new)
theorem Inv.write {x e:Addr}{o:HO}(I:Inv X pins σ H s)(mu:Mut (H x))(he:e=x\/H e=some (.own x))(k: ∀b u,b≠e->s.heap.get? b=some u->h'.get? b=some u)(heo: ∃u,h'.get? e=some u)
  (new:rO X.prog X.w (upd H x o) h' x o):Inv X pins σ (upd H x o) {s with heap:=h',toks:=t'}:=I.un (Un.write mu he k heo) (I.hok.write mu he k heo new)
theorem Inv.pins_of {pins':List (Addr×Obj)}(I:Inv X pins σ H s)(h: ∀p∈pins',s.heap.get? p.1=some p.2/\H p.1=none/\p.1≠X.env.locals/\p.1 ∉ X.fs/\ ∀v,p.2.data≠ .cell v):Inv X pins' σ H s:=
 ⟨I.ok,I.os,I.bare,I.base,I.loc,I.cell,I.free,I.freeC,λp hp=>(fF.mp hp).elim (λz=>I.pin p (aJ7 _ z)) (h p),I.hok,I.len⟩
theorem c26 (hN:N.Nodup)(a:N[i]? =some x)(b:N[j]? =some x):i=j:=by
 obtain⟨h1,e1⟩:=jX.mp a;obtain⟨h2,e2⟩:=jX.mp b;exact(List.getElem_inj hN).mp (e1.trans e2.symm)
theorem cU0 {M:Model}{v:V}{Q:Unit->Shared->Prop}(I:Inv X pins σ H s)(hN:X.N.Nodup)(hi:X.N[i]? =some x)(hx:Loc X.env.scope x)(r:RelV v u)
  (h: ∀s',Inv X pins (σ.set i<|some v) H s'->(∃a,SameBut a s.heap s'.heap/\(a=X.env.locals\/X.env.cells.lookup x=some a))->Q () s') (hf:X.fn x=true\/X.env.scope.names.lookup x=some .local:=by walk_at "z"):wpAny M A (storeName X.env x u) Q E s:=by
 obtain⟨m,hn,hl⟩:=id I.loc;have hcls:(X.env.scope.kind== .class||(X.env.scope.kind== .module&&X.env.locals != X.env.globals))=false:=by rw[I.ok.kind];rfl
 have hiσ:i<σ.length:=by rw[I.len];exact(jX.mp hi).1
 have cne:=I.cne;have tracked: ∀{a:Addr} {h':Heap},(∃o,s.heap.get? a=some o/\H a=none)->SameBut a s.heap h'->HOk X.prog X.w H h':=λ{a h'} ha hs b ob e=>by
  obtain⟨_,_,hfree⟩:=ha;refine(I.hok b ob e).stay (λc w' hc q=>(hs.2 c ?_).trans q) (λ_ q=>q) λ_ _ q=>q
  rintro rfl;rcases hc with rfl|hc
  .rw[hfree]at e;cases e
  .rw[hfree]at hc;cases hc
 rcases hx with hk|hk
 .refine wpAny_storeName_local hk hn (λh' hn' hs=> ?_) hcls
  obtain⟨oL,_,_,hoL,_⟩:=id hn;refine h _ ⟨I.ok,I.os,I.bare,⟨λb o e n hb hx=> ?_,λb o e n hb hx=> ?_,I.base.free,λb o e hx=> ?_,I.base.tups,I.base.frzs,I.base.tbls⟩,⟨_,hn',λj y v' e1 e2 e3=> ?_⟩,λy c e=> ?_,I.free,I.freeC,λp hp=> ?_,tracked ⟨oL,hoL,I.free⟩ hs,by exists I.len⟩ ⟨_,hs,.inl rfl⟩
  .exact(hs.2 b<|bE<|aZ (aV e) I.ok.above).trans (I.base.keep b o e n hb hx)
  .obtain⟨sl,e1⟩:=I.base.slot b o e n hb hx;exact⟨sl,(hs.2 b<|bE<|aZ (aV e) I.ok.above).trans e1⟩
  .obtain⟨o',e1⟩:=I.base.there b o e hx;exact⟨o',(hs.2 b<|bE<|aZ (aV e) I.ok.above).trans e1⟩
  .by_cases hj:j=i
   .subst hj;rw[hi]at e1;cases e1;rw[List.getElem?_set_self hiσ]at e2;cases e2;exact⟨u,r,.inl ⟨hk,af⟩⟩
   .rw[List.getElem?_set_ne<|Ne.symm hj]at e2;obtain⟨u',r',q⟩:=hl j y v' e1 e2 e3;refine⟨u',r',?_⟩;rcases q with⟨k,e⟩| ⟨k,c,e,z⟩
    .refine .inl ⟨k,?_⟩
     have:y≠x:=λe=>hj (c26 hN e1<|e▸hi)
     simp[this,e]
    .exact .inr ⟨k,c,e,z.sameBut hs<|cne y c e⟩
  .obtain⟨w',z⟩:=I.cell y c e;exact⟨w',z.sameBut hs<|cne y c e⟩
  .obtain⟨e,n,ne,nf,d⟩:=I.pin p hp;exact⟨(hs.2 p.1 ne).trans e,n,ne,nf,d⟩
 .have hfn:X.fn x=true:=by
   rcases hf with z|z
   .exact z
   .rw[z]at hk;cases hk
  obtain⟨c,hc⟩:=I.ok.has x (.inl hk);obtain⟨w',z⟩:=I.cell x c hc;refine wpAny_storeName_cell I.ok.kind hk hc z (λh' hc' hs=> ?_)
  obtain⟨oc,hoc,hocd⟩:=id z;refine h {s with heap:=h'} ⟨I.ok,I.os,I.bare,⟨λb o e n hb hx=> ?_,λb o e n hb hx=> ?_,I.base.free,λb o e hx=> ?_,I.base.tups,I.base.frzs,I.base.tbls⟩,⟨m,hn.sameBut hs<|Ne.symm<|cne x c hc,λj y v' e1 e2 e3=> ?_⟩,λy c' e=> ?_,I.free,I.freeC,λp hp=> ?_,tracked ⟨oc,hoc,I.freeC x c hc⟩ hs,by exists I.len⟩ ⟨c,hs,.inr hc⟩
  .exact(hs.2 b<|bE<|aZ (aV e)<|I.ok.cab x c hfn hc).trans (I.base.keep b o e n hb hx)
  .obtain⟨sl,e1⟩:=I.base.slot b o e n hb hx;exact⟨sl,(hs.2 b<|bE<|aZ (aV e)<|I.ok.cab x c hfn hc).trans e1⟩
  .obtain⟨o',e1⟩:=I.base.there b o e hx;exact⟨o',(hs.2 b<|bE<|aZ (aV e)<|I.ok.cab x c hfn hc).trans e1⟩
  .by_cases hj:j=i
   .subst hj;rw[hi]at e1;cases e1;rw[List.getElem?_set_self hiσ]at e2;cases e2;exact⟨u,r,.inr ⟨.inl hk,c,hc,hc'⟩⟩
   .rw[List.getElem?_set_ne<|Ne.symm hj]at e2;obtain⟨u',r',q⟩:=hl j y v' e1 e2 e3;refine⟨u',r',?_⟩;rcases q with q| ⟨k,c',e,z'⟩
    .exact .inl q
    .refine .inr ⟨k,c',e,z'.sameBut hs ?_⟩
     rintro rfl;exact hj (c26 hN e1<|I.ok.inj _ _ _ e hc▸hi)
  .by_cases hcc:c'=c
   .subst hcc;exact⟨_,hc'⟩
   .obtain⟨w2,z2⟩:=I.cell y c' e;exact⟨w2,z2.sameBut hs hcc⟩
  .obtain⟨e,n,ne,nf,d⟩:=I.pin p hp;refine⟨(hs.2 p.1 ?_).trans e,n,ne,nf,d⟩;intro q;rw[q,hoc]at e;have q':oc=p.2:=gQ e;exact d w' (by rw[<-q'];exact hocd)
theorem aP7 {M:Model}{v:V}{Q:Unit->Shared->Prop}(I:Inv X pins σ H s)(hN:X.N.Nodup)(hi:X.N[i]? =some x)(hx:Loc X.env.scope x)(r:RelV v u)
  (h: ∀s',Inv X pins (σ.set i<|some v) H s'->Q () s') (hf:X.fn x=true\/X.env.scope.names.lookup x=some .local:=by walk_at "z"):wpAny M A (storeName X.env x u) Q E s:=
 cU0 I hN hi hx r (λs' I' _=>h s' I') hf
theorem Inv.call' (I:Inv X pins σ H s)(ho:s'.os=s.os)(u:Un (frs X.stack) ch H H' s.heap s'.heap)(hok:HOk X.prog X.w H' s'.heap)(hg:AllBare s'.gens)
  (hch: ∀b∈ch,(b∈X.ex\/X.s₀.heap.objs.size<=b)/\b≠X.env.locals/\(∀x c,X.env.cells.lookup x=some c->c≠b)/\ ∀p∈X.pn++pins,p.1≠b):Inv X pins σ H' s':=by
 obtain⟨h',g',d',t',o'⟩:=s';have e:o'=s.os:=ho;subst e;exact I.call (g':=g') (t':=t') (d':=d') u hok hg hch
end
abbrev XK:=Value->Option Addr->Hp->Prop
abbrev St:=List (Option V)
abbrev VK:=V->Hp->Prop
abbrev TE:=St->Hp->VK->Prop
abbrev TT:=St->Hp->(Bool->Hp->Prop)->Prop
abbrev TA:=St->Hp->(List V->Hp->Prop)->Prop
structure bJ9 where
 nx:St->Hp->Prop
 rt:VK
 bk:St->Hp->Prop:=λ_ _=>False
 ct:St->Hp->Prop:=λ_ _=>False
abbrev TS:=bJ9->St->Hp->Prop
def EP (X:Cx)(pins:List (Addr×Obj))(σ:St)(Q:VK)(u:Value)(s':Shared):Prop:= ∃v H',Inv X pins σ H' s'/\RelV v u/\Q v H'
def TP (X:Cx)(pins:List (Addr×Obj))(σ:St)(Q:Bool->Hp->Prop)(b:Bool)(s':Shared):Prop:= ∃H',Inv X pins σ H' s'/\Q b H'
def AP (X:Cx)(pins:List (Addr×Obj))(σ:St)(Q:List V->Hp->Prop)(us:List Value)(s':Shared):Prop:= ∃vs H',Inv X pins σ H' s'/\Vals vs us/\Q vs H'
def SP (X:Cx)(pins:List (Addr×Obj))(D:bJ9)(f:Flow)(s':Shared):Prop:=
 match f with
 | .next=> ∃σ' H',Inv X pins σ' H' s'/\D.nx σ' H'
 | .brk=> ∃σ' H',Inv X pins σ' H' s'/\D.bk σ' H'
 | .cont=> ∃σ' H',Inv X pins σ' H' s'/\D.ct σ' H'
 | .ret u=> ∃v σ' H',Inv X pins σ' H' s'/\RelV v u/\D.rt v H'
def PE (X:Cx)(e:Expr)(t:TE):Prop:=
 ∀(pins:List (Addr×Obj)) (s:Shared) (σ:St) (H:Hp) (Q:VK),Inv X pins σ H s->t σ H Q->X∩(eval e X.env) (EP X pins σ Q) X.xe s
def PT (X:Cx)(e:Expr)(t:TT):Prop:=
 ∀(pins:List (Addr×Obj)) (s:Shared) (σ:St) (H:Hp) (Q:Bool->Hp->Prop),Inv X pins σ H s->t σ H Q->X∩(isTrue e X.env<|eval e X.env) (TP X pins σ Q) X.xe s
def PW (X:Cx)(e:Expr)(t:TT):Prop:=
 ∀(whole:Sem Value) (pins:List (Addr×Obj)) (s:Shared) (σ:St) (H:Hp) (Q:Bool->Hp->Prop),Inv X pins σ H s->t σ H Q->X∩(isTrue e X.env whole) (TP X pins σ Q) X.xe s
theorem PW.pt {X:Cx}{t:TT}(h:PW X e t):PT X e t:=h _
def PA (X:Cx)(es:List Expr)(t:TA):Prop:=
 ∀(pos:Pos) (pins:List (Addr×Obj)) (s:Shared) (σ:St) (H:Hp) (Q:List V->Hp->Prop),Inv X pins σ H s->t σ H Q->X∩(spliced<|backTo pos<|starEach es X.env) (AP X pins σ Q) X.xe s
def PS (X:Cx)(st:Stmt)(t:TS):Prop:=
 ∀(pins:List (Addr×Obj)) (s:Shared) (σ:St) (H:Hp) (D:bJ9),Inv X pins σ H s->t D σ H->X∩(exec st X.env) (SP X pins D) X.xe s
def PSs (X:Cx)(st:List Stmt)(t:TS):Prop:=
 ∀(pins:List (Addr×Obj)) (s:Shared) (σ:St) (H:Hp) (D:bJ9),Inv X pins σ H s->t D σ H->X∩(execs st X.env) (SP X pins D) X.xe s
theorem thn {t:Sem α}{Q Q':α->Shared->Prop}{M:Model}(h:wpAny M A t Q E s)(hQ: ∀a s,Q a s->Q' a s):wpAny M A t Q' E s:=bU h hQ λ_ _ x=>x
section
variable {X:Cx}
def a63 (i:Nat):TE:=λσ H Q=> ∃v,σ[i]? =some (some v)/\Q v H
def tC (v:V):TE:=λ_ H Q=>Q v H
theorem pe_var (hN:X.N[i]? =some x)(hv:Vis X.env.scope x)(hd:⇑(x∪0))(hcd:⇑((x==("__classdict__":Str))=false)):PE X (.Name x pos) (a63 i):=by
 intro pins s σ H Q I h;obtain⟨v,e,h⟩:=h;obtain⟨m,hn,hl⟩:=I.loc;obtain⟨u,r,l⟩:=hl i x v hN e hv;have fin:EP X pins σ Q u s:=⟨v,H,I,r,h⟩;rcases l with⟨hk,hm⟩| ⟨hk,c,hc,hcell⟩
 .exact nX (pX I.ok.kind hk hn hm fin) hd
 .rcases hk with hk|hk
  .exact nX (wpAny_loadName_cell I.ok.kind hk hc hcell fin) hd
  .exact nX (wpAny_loadName_free I.ok.kind hk hc hcell fin hcd) hd
theorem pe_int {i j pos}:PE X (.Constant (.int i) j pos) (tC<|.int i):=λ_ _ _ H _ I h=>wpAny_Constant_int ⟨.int i,H,I.tok _,⟨_,rfl⟩,h⟩
theorem pe_bl {b j pos}:PE X (.Constant (.bool b) j pos) (tC<|.bl b):=λ_ _ _ H _ I h=>Constant_bool ⟨.bl b,H,I,rfl,h⟩
theorem pe_non {j pos}:PE X (.Constant .none j pos) (tC .non):=λ_ _ _ H _ I h=>Constant_none ⟨.non,H,I,rfl,h⟩
theorem pe_str {x j pos}:PE X (.Constant (.str x) j pos) (tC<|.str x):=λ_ _ _ H _ I h=>Calls.Constant_str ⟨.str x,H,I.tok _,⟨_,rfl⟩,h⟩
def Gl (X:Cx)(x:Str):Prop:=X.env.kindOf x=some .globalImplicit
theorem w8 {σ:St}{H:Hp}(I:Inv X pins σ H s)(hg:Gl X x)(hm:X.mg x=some u)(h:Q u s)
  (hd:⇑(x∪0)):X∩(eval (.Name x pos) X.env) Q E s:=
 Calls.Name_function_global I.ok.kind hg (Calls.loadGlobal_global (by rw[I.ok.glob];exact I.mod.glob.keeps I.bk) hm h) hd
theorem uI {σ:St}{H:Hp}(I:Inv X pins σ H s)(hg:Gl X x)(hm:X.mg x=none)(hv:bootBuiltins x=some u)(h:Q u s)
  (hn:⇑(x≠"__name__")) (hd:⇑(x∪0)):X∩(eval (.Name x pos) X.env) Q E s:=by
 obtain⟨mb,h1,h2⟩:=I.mod.blt;exact Calls.Name_function_global I.ok.kind hg (Calls.loadGlobal_builtin (by rw[I.ok.glob];exact I.mod.glob.keeps I.bk) hm (by rw[I.ok.blt];exact h1.keeps I.bk) ((h2 x hn).trans hv) h) hd
theorem cM9 {v:V}(hg:Gl X x)(hm:X.mg x=some u)(r:RelV v u)(hd:⇑(x∪0)):PE X (.Name x pos) (tC v):=
 λ_ _ _ H _ I h=>w8 I hg hm ⟨v,H,I,r,h⟩ hd
theorem dH1 {v:V}(hg:Gl X x)(hm:X.mg x=none)(hv:bootBuiltins x=some u)(r:RelV v u)(hn:⇑(x≠"__name__"))(hd:⇑(x∪0)):PE X (.Name x pos) (tC v):=
 λ_ _ _ H _ I h=>uI I hg hm hv ⟨v,H,I,r,h⟩ hn hd
variable {a b:Expr}{ta tb:TE}{pos:Pos}
def PC (X:Cx)(op:CmpOp)(a b:Expr)(t:TE):Prop:=
 ∀(pins:List (Addr×Obj)) (s:Shared) (σ:St) (H:Hp) (Q:VK),Inv X pins σ H s->t σ H Q->
  X∩(eval a X.env) (λv s₁=>X∩(eval b X.env) (λu s₂=>X∩(compareOp op v u) (EP X pins σ Q) X.xe s₂) X.xe s₁) X.xe s
theorem c27 (b:Expr)(h:op≠ .In)(h2:op≠ .NotIn):behindInMarks op b=false:=by
 have e1:(op==CmpOp.In)=false:=by cases op<;>first|rfl|exact absurd rfl h
 have e2:(op==CmpOp.NotIn)=false:=by cases op<;>first|rfl|exact absurd rfl h2
 cases b<;>simp[behindInMarks,e1,e2]
def tIsN (ta:TE):TE:=λσ H Q=>ta σ H λx H1=>Q (.bl<|decide (x= .non)) H1
def dT0 (ta:TE):TE:=λσ H Q=>ta σ H λx H1=>Q (.bl<|!decide (x= .non)) H1
theorem RelV.none_iff {x:V}(r:RelV x v):(v==Value.none)=decide (x= .non):=by
 cases x with
 | non=>cases r;rfl
 | bl _=>cases r;rfl
 | int _=>obtain⟨t,rfl⟩:=r;rfl
 | str _=>obtain⟨t,rfl⟩:=r;rfl
 | byt _=>obtain⟨t,rfl⟩:=r;rfl
 | flt _=>obtain⟨t,rfl⟩:=r;rfl
 | ref _=>cases r;rfl
 | ty _=>cases r;rfl
theorem d10 {j pos'}(ha:PE X a ta):PC X .Is a (.Constant .none j pos') (tIsN ta):=by
 intro pins s σ H Q I h;refine thn (ha pins s σ H _ I h) λv s1 ⟨x,H1,I1,r1,q1⟩=> ?_
 exact Constant_none (is_none_gen ⟨.bl _,H1,I1,by rw[r1.none_iff];rfl,q1⟩)
theorem dH2 {j pos'}(ha:PE X a ta):PC X .IsNot a (.Constant .none j pos') (dT0 ta):=by
 intro pins s σ H Q I h;refine thn (ha pins s σ H _ I h) λv s1 ⟨x,H1,I1,r1,q1⟩=> ?_
 exact Constant_none (isnot_none_gen ⟨.bl _,H1,I1,by rw[r1.none_iff];rfl,q1⟩)
def tB (t:TE):TT:=λσ H Q=>t σ H λx H1=> ∃c,x= .bl c/\Q c H1
theorem d11 {t:TE}(h:PC X op a b t)(h1:behindInMarks op b=false:=by first|exact c27 _ ac ac|rfl):PE X (.Compare a [op] [b] pos) t:=λpins s σ H Q I hw=>wpAny_Compare1 (h pins s σ H Q I hw) h1
theorem d12 {t:TE}(h:PC X op a b t)(h1:behindInMarks op b=false:=by first|exact c27 _ ac ac|rfl):PT X (.Compare a [op] [b] pos) (tB t):=by
 intro pins s σ H Q I hw;refine wpAny_isTrue_Compare1 (thn (h pins s σ H _ I hw) λv s1 h1=>thn h1 λu s2 h2=>thn h2 λc s3 ⟨x,H1,I1,r1,q1⟩=> ?_) h1
 obtain⟨d,rfl,q⟩:=q1;cases r1;exact nS ⟨H1,I1,q⟩
theorem pt_val {t:TE}(h:PE X e t)(he: ∀whole,isTrue e X.env whole=(do let v<-whole;standAt e.pos;holding [v] (truthy v)):=by intro _;rfl):PT X e (tB t):=by
 intro pins s σ H Q I hw;refine isTrue_plain (thn (h pins s σ H _ I hw) λv s1 ⟨x,H1,I1,r1,q1⟩=> ?_) (he _)
 obtain⟨d,rfl,q⟩:=q1;cases r1;exact nS ⟨H1,I1,q⟩
variable {tA tB':TT}{kL:List Expr}
def tAnd (t u:TT):TT:=λσ H Q=>t σ H λc H1=>if c=true then u σ H1 Q else Q false H1
def tOr (t u:TT):TT:=λσ H Q=>t σ H λc H1=>if c=true then Q true H1 else u σ H1 Q
def tNot (t:TT):TT:=λσ H Q=>t σ H λc H1=>Q (!c) H1
theorem dH3 (ha:PT X a tA):PW X (.BoolOp .And [a] pos) tA:=by
 intro wh pins s σ H Q I h;refine isTrue_and (thn (ha pins s σ H Q I h) λc s1 e=> ?_)
 cases c with
 | true=>exact isTrue_and_nil e
 | false=>exact e
theorem pw_or1 (ha:PT X a tA):PW X (.BoolOp .Or [a] pos) tA:=by
 intro wh pins s σ H Q I h;refine isTrue_or (thn (ha pins s σ H Q I h) λc s1 e=> ?_)
 cases c with
 | false=>exact isTrue_or_nil e
 | true=>exact e
theorem pw_and (ha:PT X a tA)(hb:PW X (.BoolOp .And (b::kL) pos) tB'):PW X (.BoolOp .And (a::b::kL) pos) (tAnd tA tB'):=by
 intro wh pins s σ H Q I h;refine isTrue_and (thn (ha pins s σ H _ I h) λc s1 ⟨H1,I1,q1⟩=> ?_)
 cases c with
 | true=>exact hb wh pins s1 σ H1 Q I1 q1
 | false=>exact⟨H1,I1,q1⟩
theorem pw_or (ha:PT X a tA)(hb:PW X (.BoolOp .Or (b::kL) pos) tB'):PW X (.BoolOp .Or (a::b::kL) pos) (tOr tA tB'):=by
 intro wh pins s σ H Q I h;refine isTrue_or (thn (ha pins s σ H _ I h) λc s1 ⟨H1,I1,q1⟩=> ?_)
 cases c with
 | true=>exact⟨H1,I1,q1⟩
 | false=>exact hb wh pins s1 σ H1 Q I1 q1
theorem pt_not (ha:PT X a tA):PT X (.UnaryOp .Not a pos) (tNot tA):=by
 intro pins s σ H Q I h;exact isTrue_not (ha pins s σ H (λc H1=>Q (!c) H1) I h)
def tAndV (ta tb:TE):TE:=λσ H Q=>ta σ H λx H1=> ∃c,x= .bl c/\if c=true then tb σ H1 Q else Q (.bl false) H1
def tOrV (ta tb:TE):TE:=λσ H Q=>ta σ H λx H1=> ∃c,x= .bl c/\if c=true then Q (.bl true) H1 else tb σ H1 Q
theorem pe_one {op}{t:TE}(h:PE X a t):PE X (.BoolOp op [a] pos) t:=λpins s σ H Q I hw=>BoolOp_one (h pins s σ H Q I hw)
theorem pe_and (ha:PE X a ta)(hb:PE X (.BoolOp .And (b::kL) pos) tb):PE X (.BoolOp .And (a::b::kL) pos) (tAndV ta tb):=by
 intro pins s σ H Q I h;refine BoolOp_and (thn (ha pins s σ H _ I h) λv s1 ⟨x,H1,I1,r1,q1⟩=> ?_)
 obtain⟨c,rfl,q1⟩:=q1;cases r1;refine nS ?_;cases c with
 | true=>exact hb pins s1 σ H1 Q I1 q1
 | false=>exact⟨.bl false,H1,I1,rfl,q1⟩
theorem pe_or (ha:PE X a ta)(hb:PE X (.BoolOp .Or (b::kL) pos) tb):PE X (.BoolOp .Or (a::b::kL) pos) (tOrV ta tb):=by
 intro pins s σ H Q I h;refine BoolOp_or (thn (ha pins s σ H _ I h) λv s1 ⟨x,H1,I1,r1,q1⟩=> ?_)
 obtain⟨c,rfl,q1⟩:=q1;cases r1;refine nS ?_;cases c with
 | false=>exact hb pins s1 σ H1 Q I1 q1
 | true=>exact⟨.bl true,H1,I1,rfl,q1⟩
def tIf (t:TT)(ta tb:TE):TE:=λσ H Q=>t σ H λc H1=>if c=true then ta σ H1 Q else tb σ H1 Q
theorem d13 (hc:PT X c tA)(ha:PE X a ta)(hb:PE X b tb):PE X (.IfExp c a b pos) (tIf tA ta tb):=by
 intro pins s σ H Q I h;refine wpAny_IfExp (thn (hc pins s σ H _ I h) λd s1 ⟨H1,I1,q1⟩=> ?_)
 cases d with
 | true=>exact ha pins s1 σ H1 Q I1 q1
 | false=>exact hb pins s1 σ H1 Q I1 q1
end
def SqL (K:Frag)(H:Hp)(a:Addr)(xs:List V):Prop:=
 Rd H a (.lst xs)\/
  ∃(o:Obj) (its:Array Value) (n:Nat),K.lookup a=some o/\o.cls= .type "list"/\o.dict=none/\o.data= .seq its n/\its.size<=sizeLine/\Vals xs its.toList
def SqT (K:Frag)(H:Hp)(a:Addr)(xs:List V):Prop:=
 Rd H a (.tup xs)\/
  ∃(o:Obj) (its:Array Value) (n:Nat),K.lookup a=some o/\o.cls= .type "tuple"/\o.data= .seq its n/\its.size<=sizeLine/\Vals xs its.toList
nonrec def absV:Value->Option V
 | .none=>some .non
 | .bool b=>some (.bl b)
 | .int i _=>some (.int i)
 | .str x _=>some (.str x)
 | .bytes b _=>some (.byt b)
 | .float b _=>some (.flt b)
 | .ref a=>some (.ref a)
 | .type n=>some (.ty n)
 | _=>none
theorem RelV.abs {x:V}(r:RelV x u):absV u=some x:=by
 cases x with
 | non=>cases r;rfl
 | bl _=>cases r;rfl
 | int _=>obtain⟨t,rfl⟩:=r;rfl
 | str _=>obtain⟨t,rfl⟩:=r;rfl
 | byt _=>obtain⟨t,rfl⟩:=r;rfl
 | flt _=>obtain⟨t,rfl⟩:=r;rfl
 | ref _=>cases r;rfl
 | ty _=>cases r;rfl
theorem RelV.inj {x y:V}(r:RelV x u)(q:RelV y u):x=y:=gQ (r.abs.symm.trans q.abs)
theorem Vals.inj: ∀{xs ys:List V} {us:List Value},Vals xs us->Vals ys us->xs=ys
 | _,_,_,.nil,.nil=>rfl
 | _,_,_,.cons r t,.cons r' t'=>by rw[r.inj r',Vals.inj t t']
section
variable {X:Cx}{pins:List (Addr×Obj)}{σ:St}{H:Hp}{s:Shared}{a:Addr}{xs ys:List V}
theorem SqL.of (h:H a=some (.lst xs)):SqL K H a xs:= .inl (.inl h)
theorem Inv.list (I:Inv X pins σ H s)(h:SqL X.K H a xs): ∃its:List Value,Vals xs its/\PlainL s.heap a its.toArray/\xs.length<=sizeLine:=by
 rcases h with h| ⟨o,its,n,hk,hc,hd,hs,hz,r⟩
 .obtain⟨z,its,n,r,e⟩:=h.ok I.hok;exact⟨its,r,⟨_,n,e,rfl,rfl,rfl⟩,z⟩
 .refine⟨its.toList,r,⟨o,n,I.kIn a o hk,hc,hd,by exists hs⟩,?_⟩
  have e:=r.length;simp only[aK4]at e
  lia
theorem Inv.tuple (I:Inv X pins σ H s)(h:SqT X.K H a xs): ∃its:List Value,Vals xs its/\IsTup s.heap a its.toArray/\xs.length<=sizeLine:=by
 rcases h with h| ⟨o,its,n,hk,hc,hs,hz,r⟩
 .obtain⟨z,its,r,p⟩:=h.ok I.hok;exact⟨its,r,p,z⟩
 .refine⟨its.toList,r,⟨o,I.kIn a o hk,hc,n,by exists hs⟩,?_⟩
  have e:=r.length;simp only[aK4]at e
  lia
theorem Inv.list_inj (I:Inv X pins σ H s)(h:SqL X.K H a xs)(h':SqL X.K H a ys):xs=ys:=by
 obtain⟨its,r,⟨o,n,e,_,_,d⟩,_⟩:=I.list h;obtain⟨its',r',⟨o',n',e',_,_,d'⟩,_⟩:=I.list h';rw[e]at e';cases e';rw[d]at d'
 injection d' with d1 _
 have:its=its':=by simpa using cR toList d1
 subst this;exact r.inj r'
theorem Inv.tuple_inj (I:Inv X pins σ H s)(h:SqT X.K H a xs)(h':SqT X.K H a ys):xs=ys:=by
 obtain⟨its,r,⟨o,e,_,n,d⟩,_⟩:=I.tuple h;obtain⟨its',r',⟨o',e',_,n',d'⟩,_⟩:=I.tuple h';rw[e]at e';cases e';rw[d]at d'
 injection d' with d1 _
 have:its=its':=by simpa using cR toList d1
 subst this;exact r.inj r'
end
noncomputable abbrev Cx.wish (X:Cx)(E:Value->Shared->Prop):Cx:={X with xe:=E}
noncomputable abbrev Cx.nox (X:Cx):Cx:=X.wish λ_ _=>False
theorem Cx.Ok.wish {X:Cx}(ok:X.Ok)(E:Value->Shared->Prop):(X.wish E).Ok:=
 ⟨ok.mod,ok.kind,ok.glob,ok.blt,ok.above,ok.inj,ok.has,ok.cab,ok.hd,ok.frames,ok.stk,ok.exf,ok.bs,ok.bsz,ok.noex,ok.exfs,ok.funs,ok.frf⟩
theorem Cx.Ok.unwish {X:Cx}(ok:(X.wish E).Ok):X.Ok:=
 ⟨ok.mod,ok.kind,ok.glob,ok.blt,ok.above,ok.inj,ok.has,ok.cab,ok.hd,ok.frames,ok.stk,ok.exf,ok.bs,ok.bsz,ok.noex,ok.exfs,ok.funs,ok.frf⟩
section
variable {X:Cx}{pins:List (Addr×Obj)}{σ:St}{H:Hp}{s:Shared}{E:Value->Shared->Prop}
theorem Inv.wish (I:Inv X pins σ H s)(E:Value->Shared->Prop):Inv (X.wish E) pins σ H s:=⟨I.ok.wish E,I.os,I.bare,I.base,I.loc,I.cell,I.free,I.freeC,I.pin,I.hok,I.len⟩
theorem Inv.unwish (I:Inv (X.wish E) pins σ H s):Inv X pins σ H s:=⟨I.ok.unwish,I.os,I.bare,I.base,I.loc,I.cell,I.free,I.freeC,I.pin,I.hok,I.len⟩
theorem SP.unwish {D:bJ9}{f:Flow}(h:SP (X.wish E) pins D f s'):SP X pins D f s':=by
 cases f with
 | next=>obtain⟨σ',H',I,q⟩:=h;exact⟨σ',H',I.unwish,q⟩
 | brk=>obtain⟨σ',H',I,q⟩:=h;exact⟨σ',H',I.unwish,q⟩
 | cont=>obtain⟨σ',H',I,q⟩:=h;exact⟨σ',H',I.unwish,q⟩
 | ret u=>obtain⟨v,σ',H',I,r,q⟩:=h;exact⟨v,σ',H',I.unwish,r,q⟩
theorem PSs.nox {st:List Stmt}{t:TS}(h:PSs X.nox st t):PSs X st t:=λpins s σ H D I hw=>
 bU (h pins s σ H D (I.wish _) hw) (λ_ _ q=>q.unwish) λ_ _ z=>False.elim z
end
section
variable {X:Cx}{st:Stmt}{kL:List Stmt}{t u:TS}{e:Expr}{te:TE}{pos:Pos}
def tNext:TS:=λD σ H=>D.nx σ H
def dH4 (t u:TS):TS:=λD σ H=>t {D with nx:=u D} σ H
theorem dH5:PSs X [] tNext:=λ_ _ σ H _ I h=>nV ⟨σ,H,I,h⟩
theorem uJ (h1:PS X st t)(h2:PSs X kL u):PSs X (st::kL) (dH4 t u):=by
 intro pins s σ H D I h;refine u5 (thn (h1 pins s σ H {D with nx:=u D} I h) λf s1 q=> ?_)
 cases f with
 | next=>
  obtain⟨σ',H',I',q⟩:=q;exact h2 pins s1 σ' H' D I' q
 | ret v=>exact q
 | brk=>exact q
 | cont=>exact q
theorem b57 (h1:PS X st t):PSs X [st] t:=by
 intro pins s σ H D I h;refine u5 (thn (h1 pins s σ H D I h) λf s1 q=> ?_)
 cases f with
 | next=>exact nV q
 | ret v=>exact q
 | brk=>exact q
 | cont=>exact q
theorem Inv.quiet {σ:St}{H:Hp}(I:Inv X pins σ H s):interactive X.env=false:=by simp[interactive,I.ok.kind]
def tDrop (te:TE):TS:=λD σ H=>te σ H λ_ H1=>D.nx σ H1
theorem bT7 (he:PE X e te)(hs:↥(swapsWith e none pos.line X.env=pure false)):PS X (.Expr e pos) (tDrop te):=by
 intro pins s σ H D I h;exact wpAny_Expr_any (thn (he pins s σ H _ I h) λv s1 ⟨x,H1,I1,r1,q1⟩=>⟨σ,H1,I1,q1⟩) I.quiet hs
def tRet (te:TE):TS:=λD σ H=>te σ H D.rt
theorem d14 (he:PE X e te):PS X (.Return (some e) pos) (tRet te):=by
 intro pins s σ H D I h;exact wpAny_Return_some (thn (he pins s σ H _ I h) λv s1 ⟨x,H1,I1,r1,q1⟩=>⟨x,σ,H1,I1,r1,q1⟩)
def tIfS (c:TT)(t u:TS):TS:=λD σ H=>c σ H λb H1=>if b=true then t D σ H1 else u D σ H1
theorem dT1 {a b:List Stmt}{tc:TT}(hc:PT X c tc)(ha:PSs X a t)(hb:PSs X b u):PS X (.If c a b pos) (tIfS tc t u):=by
 intro pins s σ H D I h;refine wpAny_If (thn (hc pins s σ H _ I h) λd s1 ⟨H1,I1,q1⟩=> ?_)
 cases d with
 | true=>exact ha pins s1 σ H1 D I1 q1
 | false=>exact hb pins s1 σ H1 D I1 q1
def tNever:TS:=λ_ _ _=>False
theorem d15:PS X st tNever:=λ_ _ _ _ _ _ h=>h.elim
end
abbrev TG:=V->St->Hp->(St->Hp->Prop)->Prop
abbrev TGs:=List V->St->Hp->(St->Hp->Prop)->Prop
def PG (X:Cx)(target:Expr)(t:TG):Prop:=
 ∀(pins:List (Addr×Obj)) (s:Shared) (σ:St) (H:Hp) (v:V) (u:Value) (Q:St->Hp->Prop),Inv X pins σ H s->RelV v u->t v σ H Q->
  X∩(assign target X.env u) (λ_ s'=> ∃σ' H',Inv X pins σ' H' s'/\Q σ' H') X.xe s
def PGs (X:Cx)(ts:List Expr)(t:TGs):Prop:=
 ∀(pins:List (Addr×Obj)) (s:Shared) (σ:St) (H:Hp) (vs:List V) (us:List Value) (Q:St->Hp->Prop),Inv X pins σ H s->Vals vs us->t vs σ H Q->
  X∩(assignInOrder ((assignEach ts X.env).map (·.2)) us) (λ_ s'=> ∃σ' H',Inv X pins σ' H' s'/\Q σ' H') X.xe s
abbrev d16:=V->V->V->Hp->(Hp->Prop)->Prop
def PSet (X:Cx)(t:d16):Prop:=
 ∀(pins:List (Addr×Obj)) (s:Shared) (σ:St) (H:Hp) (o i v:V) (ov iv u:Value) (Q:Hp->Prop),Inv X pins σ H s->RelV o ov->RelV i iv->RelV v u->t o i v H Q->
  X∩(setItem ov iv u) (λ_ s'=> ∃H',Inv X pins σ H' s'/\Q H') X.xe s
abbrev TIp:=V->V->Hp->VK->Prop
def PIp (X:Cx)(op:Operator)(t:TIp):Prop:=
 ∀(pins:List (Addr×Obj)) (s:Shared) (σ:St) (H:Hp) (x y:V) (v u:Value) (Q:VK),Inv X pins σ H s->RelV x v->RelV y u->t x y H Q->
  X∩(inplaceOp op v u) (EP X pins σ Q) X.xe s
section
variable {X:Cx}{pos:Pos}
def c28 (i:Nat):TG:=λv σ H Q=>Q (σ.set i<|some v) H
theorem fT (hN:X.N.Nodup)(hi:X.N[i]? =some x)(hx:Loc X.env.scope x)(hf:X.fn x=true\/X.env.scope.names.lookup x=some .local:=by walk_at "z"):PG X (.Name x pos) (c28 i):=by
 intro pins s σ H v u Q I r h;exact wpAny_assign_Name (aP7 I hN hi hx r (λs' I'=>⟨_,H,I',h⟩) hf)
def gNil:TGs:=λvs σ H Q=>vs=[]/\Q σ H
def gCons (t:TG)(u:TGs):TGs:=λvs σ H Q=> ∃v r,vs=v::r/\t v σ H λσ' H'=>u r σ' H' Q
theorem dH6:PGs X [] gNil:=by
 intro pins s σ H vs us Q I r h;obtain⟨e,h⟩:=h;subst e;cases r;exact assignInOrder_nil ⟨σ,H,I,h⟩
theorem d17 {e:Expr}{es:List Expr}{t:TG}{u:TGs}(h1:PG X e t)(h2:PGs X es u)
  (hs:↥((assignEach (e::es) X.env).map (·.2)=assign e X.env::(assignEach es X.env).map (·.2))):PGs X (e::es) (gCons t u):=by
 intro pins s σ H vs us Q I r h;obtain⟨v,vr,e1,h⟩:=h;subst e1;cases r with
 | cons r rr=>
  rw[hs];refine assignInOrder_cons (thn (h1 pins s σ H _ _ _ I r h) λ_ s1 ⟨σ1,H1,I1,q1⟩=> ?_)
  exact h2 pins s1 σ1 H1 _ _ Q I1 rr q1
def gTup (K:Frag)(n:Nat)(t:TGs):TG:=λv σ H Q=> ∃a xs,v= .ref a/\SqT K H a xs/\xs.length=n/\t xs σ H Q
theorem pg_tup {t:TGs}(hc:X.calm=true)(h:PGs X es t)
  (hn:↥((assignEach es X.env).length=n)) (hst:↥((assignEach es X.env).findIdx? (·.1)=none)):PG X (.Tuple es k pos) (gTup X.K n t):=by
 intro pins s σ H v u Q I r hw;obtain⟨a,xs,e1,hq,hl,hw⟩:=hw;subst e1;cases r;obtain⟨its,rv,ht,hz⟩:=I.tuple hq;refine assign_Tuple_tuple (I.ok.hd hc) ht (by simp[hn,<-hl,rv.length]) hst λh' hx=> ?_
 have I1:Inv X pins σ H {s with heap:=h'}:=I.kept (t':=s.toks) λb o e=>hx b o (bE<|aV e) e
 exact h pins _ σ H xs _ Q I1 (by exists rv) hw
def gSub (to ti:TE)(t:d16):TG:=λv σ H Q=>to σ H λo H1=>ti σ H1 λi H2=>t o i v H2 λH3=>Q σ H3
theorem pg_sub {o i:Expr}{to ti:TE}{t:d16}(ho:PE X o to)(hi:PE X i ti)(hs:PSet X t)
  (ha: ∀v,assign (.Subscript o i pos) X.env v=(do
   let ov<-holding [v] (eval o X.env)
   let iv<-holding [v,ov] (eval i X.env)
   standAt pos
   holding [v,ov,iv] (setItem ov iv v)
   release [v,ov,iv] []):=by intro _;rfl):PG X (.Subscript o i pos) (gSub to ti t):=by
 intro pins s σ H v u Q I r h;rw[ha];refine a9 (jB<|thn (ho pins s σ H _ I h) λov s1 ⟨x,H1,I1,r1,q1⟩=> ?_)
 refine a9 (jB<|thn (hi pins s1 σ H1 _ I1 q1) λiv s2 ⟨y,H2,I2,r2,q2⟩=> ?_)
 refine a9 (u9<|a9<|jB<|thn (hs pins s2 σ H2 x y v ov iv u _ I2 r1 r2 r q2) λ_ s3 ⟨H3,I3,q3⟩=> ?_)
 exact wpAny_release ⟨σ,H3,I3,q3⟩
def tAsg (te:TE)(g:TG):TS:=λD σ H=>te σ H λx H1=>g x σ H1 D.nx
theorem d18 {te:TE}{g:TG}(he:PE X e te)(hg:PG X tg g)(hs:↥(swapsWithSole [tg] e pos.line X.env=pure false))(hw:↥(swappedStores [tg] e X.env=pure none))
  (h1:↥((assignEach [tg] X.env).map (·.2)=[assign tg X.env])):PS X (.Assign [tg] e pos) (tAsg te g):=by
 intro pins s σ H D I h;refine wpAny_Assign_stores (thn (he pins s σ H _ I h) λv s1 ⟨x,H1,I1,r1,q1⟩=> ?_) hs hw
 rw[h1];exact thn (hg pins s1 σ H1 x v _ I1 r1 q1) λ_ s2 q=>q
theorem ps_set {te:TE}(hN:X.N.Nodup)(hi:X.N[i]? =some x)(hx:Loc X.env.scope x)(he:PE X e te)(hs:↥(swapsWith e (some<|.Name x pos') pos.line X.env=pure false))(hf:X.fn x=true\/X.env.scope.names.lookup x=some .local:=by walk_at "z") :
  PS X (.Assign [.Name x pos'] e pos) (tAsg te<|c28 i):=by
 intro pins s σ H D I h;refine wpAny_Assign_Name (thn (he pins s σ H _ I h) λv s1 ⟨y,H1,I1,r1,q1⟩=> ?_) hs
 exact aP7 I1 hN hi hx r1 (λs2 I2=>⟨_,H1,I2,q1⟩) hf
def tAug (i:Nat)(te:TE)(ti:TIp):TS:=λD σ H=> ∃x,σ[i]? =some (some x)/\te σ H λy H1=>ti x y H1 λz H2=>D.nx (σ.set i<|some z) H2
theorem ps_aug {te:TE}{op:Operator}{ti:TIp}(hN:X.N.Nodup)(hi:X.N[i]? =some x)(hx:Loc X.env.scope x)(he:PE X e te)(ho:PIp X op ti)(hf:X.fn x=true\/X.env.scope.names.lookup x=some .local:=by walk_at "z") :
  PS X (.AugAssign (.Name x pos') op e pos) (tAug i te ti):=by
 intro pins s σ H D I h;obtain⟨v,e1,h⟩:=h;obtain⟨m,hn,hl⟩:=I.loc;have vis:Vis X.env.scope x:=by rcases hx with k|k;exact .inl k;exact .inr (.inl k)
 obtain⟨u,r,l⟩:=hl i x v hi e1 vis;refine wpAny_AugAssign_Name ?_;have go:X∩(eval e X.env) (λw s₂=>X∩(inplaceOp op u w) (λr s₃=>X∩(storeName X.env x r) (λ_=>SP X pins D .next) X.xe s₃) X.xe s₂) X.xe s:=by
  refine thn (he pins s σ H _ I h) λw s1 ⟨y,H1,I1,r1,q1⟩=> ?_
  refine thn (ho pins s1 σ H1 v y u w _ I1 r r1 q1) λz s2 ⟨zv,H2,I2,r2,q2⟩=> ?_
  exact aP7 I2 hN hi hx r2 (λs3 I3=>⟨_,H2,I3,q2⟩) hf
 rcases l with⟨hk,hm⟩| ⟨hk,c,hc,hcell⟩
 .exact pX I.ok.kind hk hn hm go
 .rcases hk with hk|hk
  .exact wpAny_loadName_cell I.ok.kind hk hc hcell go
  .rcases hx with k|k
   .have:X.env.scope.names.lookup x=some .free:=hk;rw[k]at this;cases this
   .have:X.env.scope.names.lookup x=some .free:=hk;rw[k]at this;cases this
def tAugS (to ti te:TE)(tget:V->V->Hp->VK->Prop)(tip:TIp)(tset:d16):TS:=λD σ H=>to σ H λo H1=>ti σ H1 λi H2=>tget o i H2 λx H3=>te σ H3 λy H4=>tip x y H4 λz H5=>tset o i z H5 λH6=>D.nx σ H6
def PGet (X:Cx)(t:V->V->Hp->VK->Prop):Prop:=
 ∀(pins:List (Addr×Obj)) (s:Shared) (σ:St) (H:Hp) (o i:V) (ov iv:Value) (Q:VK),Inv X pins σ H s->RelV o ov->RelV i iv->t o i H Q->
  X∩(getItem ov iv) (EP X pins σ Q) X.xe s
theorem dH7 {o i:Expr}{to ti te:TE}{tget:V->V->Hp->VK->Prop}{tip:TIp}{tset:d16}{op:Operator}(ho:PE X o to)(hi:PE X i ti)(hg:PGet X tget)(he:PE X e te)(hp:PIp X op tip)(hs:PSet X tset)
  (ha: ∀ov iv new,augStore i ov iv new=(do holding [new,ov,iv] (setItem ov iv new);release [new,ov,iv] [];pure .next):=by intros;rfl):PS X (.AugAssign (.Subscript o i tpos) op e pos) (tAugS to ti te tget tip tset):=by
 intro pins s σ H D I h;refine wpAny_AugAssign_SubscriptAny (thn (ho pins s σ H _ I h) λov s1 ⟨x1,H1,I1,r1,q1⟩=> ?_) ha
 refine thn (hi pins s1 σ H1 _ I1 q1) λiv s2 ⟨x2,H2,I2,r2,q2⟩=> ?_
 refine thn (hg pins s2 σ H2 x1 x2 ov iv _ I2 r1 r2 q2) λold s3 ⟨x3,H3,I3,r3,q3⟩=> ?_
 refine thn (he pins s3 σ H3 _ I3 q3) λv s4 ⟨x4,H4,I4,r4,q4⟩=> ?_
 refine thn (hp pins s4 σ H4 x3 x4 old v _ I4 r3 r4 q4) λnew s5 ⟨x5,H5,I5,r5,q5⟩=> ?_
 exact thn (hs pins s5 σ H5 x1 x2 x5 ov iv new _ I5 r1 r2 r5 q5) λ_ s6 ⟨H6,I6,q6⟩=>⟨σ,H6,I6,q6⟩
def ipI (f:Int->Int->Int):TIp:=λx y H Q=> ∃i j,x= .int i/\y= .int j/\Q (.int<|f i j) H
theorem ip_add:PIp X .Add (ipI λi j=>i+j):=by
 intro pins s σ H x y v u Q I r1 r2 h;obtain⟨i,j,e1,e2,q⟩:=h;subst e1;subst e2;obtain⟨t,rfl⟩:=r1;obtain⟨t',rfl⟩:=r2;exact iadd_int ⟨.int _,H,I.tok _,⟨_,rfl⟩,q⟩
theorem d19:PIp X .Sub (ipI λi j=>i-j):=by
 intro pins s σ H x y v u Q I r1 r2 h;obtain⟨i,j,e1,e2,q⟩:=h;subst e1;subst e2;obtain⟨t,rfl⟩:=r1;obtain⟨t',rfl⟩:=r2;exact isub_int ⟨.int _,H,I.tok _,⟨_,rfl⟩,q⟩
end
section
variable {X:Cx}{pos:Pos}
def tWhile (c:TT)(tb:TS):TS:=λD σ H=> ∃W:Nat->St->Hp->Prop,(∃m,W m σ H)/\ ∀m σ H,W m σ H->
 c σ H λb H1=>if b=true then ∃N:St->Hp->Prop,(∀σ' H',N σ' H'-> ∃m',m'<m/\W m' σ' H')/\tb {D with nx:=N,ct:=N,bk:=D.nx} σ H1 else D.nx σ H1
theorem d20 {tc:TT}{tb:TS}(hp:PassesOwn (model X.prog X.w) X.A X.env X.xe)(hc:PT X c tc)(hb:PSs X body tb):PS X (.While c body [] pos) (tWhile tc tb):=by
 intro pins s σ H D I h;obtain⟨W,⟨m0,w0⟩,turn⟩:=h;refine wpAny_While (codeAny_whileLoop (λn s'=> ∃σ' H',Inv X pins σ' H' s'/\W n σ' H') ?_ m0 ⟨σ,H,I,w0⟩)
 rintro n s1 ⟨σ1,H1,I1,w1⟩;refine nW hp (thn (hc pins s1 σ1 H1 _ I1<|turn n σ1 H1 w1) λb s2 ⟨H2,I2,q2⟩=> ?_)
 cases b with
 | true=>
  obtain⟨N,hN,q2⟩:=q2;rw[a8 rfl];refine nW hp (thn (hb pins s2 σ1 H2 _ I2 q2) λf s3 q3=> ?_)
  cases f with
  | next=>
   obtain⟨σ3,H3,I3,n3⟩:=q3;obtain⟨m',hm,w3⟩:=hN σ3 H3 n3;exact⟨m',hm,σ3,H3,I3,w3⟩
  | cont=>
   obtain⟨σ3,H3,I3,n3⟩:=q3;obtain⟨m',hm,w3⟩:=hN σ3 H3 n3;exact⟨m',hm,σ3,H3,I3,w3⟩
  | brk=>exact q3
  | ret v=>exact q3
 | false=>
  rw[a6 bF];exact nV ⟨σ1,H2,I2,q2⟩
end
structure It where
 go:Nat->Hp->Prop
 yld:Nat->Hp->V->Hp->Prop
 stop:Nat->Hp->Prop
def aV4 (X:Cx)(pins:List (Addr×Obj))(H:Hp)(b:Addr):Prop:=
 H b=none/\b≠X.env.locals/\b ∉ X.fs/\(b∈X.ex\/X.s₀.heap.objs.size<=b)/\(∀x c,X.env.cells.lookup x=some c->c≠b)/\ ∀p∈X.pn++pins,p.1≠b
theorem Inv.fpOk {X:Cx}{σ:St}{H H':Hp}(I:Inv X pins σ H s)(hb:s.heap.objs.size<=b)(hn:H' b=none):aV4 X pins H' b:=by
 refine⟨hn,uD<|aZ I.lt hb,I.nofs hb,.inr<|aG I.sz hb,λx c e z=> ?_,λp hp z=> ?_⟩
 .obtain⟨v,q⟩:=I.cell x c e;exact absurd (aZ q.lt (by rw[z];exact hb)) (d7 _)
 .exact absurd (aZ (aV (I.pin p hp).1) (by rw[z];exact hb)) (d7 _)
structure c29 (P:Program)(w:World)(K:Frag)(tg:Expr)(J:It)(fp:List Addr)(it:Addr)(tn:Nat->Heap->Prop):Prop where
 mem:it∈fp
 obj: ∀i h,tn i h-> ∀b∈fp,∃o,h.get? b=some o/\ ∀v,o.data≠ .cell v
 keep: ∀i h h',tn i h->(∀b∈fp,∀o,h.get? b=some o->h'.get? b=some o)->tn i h'
 item: ∀(X:Cx),X.prog=P->X.w=w->X.K=K->X.calm=true-> ∀(i:Nat) (pins:List (Addr×Obj)) (s:Shared) (σ:St) (H:Hp) (E:Value->Shared->Prop),Inv X pins σ H s->(∀b∈fp,aV4 X pins H b)->tn i s.heap->J.go i H->
  wpAny (model P w) X.A (pyNext<|.ref it) (λr s1=> ∃u,r=some u/\
   wpAny (model P w) X.A (letOwnedTupleGo tg (.ref it) u) (λ_ s2=> ∃x H',Inv X pins σ H' s2/\RelV x u/\J.yld i H x H'/\tn (i+1) s2.heap/\ ∀b∈fp,H' b=none) E s1) E s
 done: ∀(X:Cx),X.prog=P->X.w=w->X.K=K->X.calm=true-> ∀(i:Nat) (pins:List (Addr×Obj)) (s:Shared) (σ:St) (H:Hp) (E:Value->Shared->Prop),Inv X pins σ H s->(∀b∈fp,aV4 X pins H b)->tn i s.heap->J.stop i H->
  wpAny (model P w) X.A (pyNext<|.ref it) (λr s1=>r=none/\Inv X pins σ H s1) E s
 self: ∀(A:Around) (i:Nat) (s:Shared) (Q:Value->Shared->Prop) (E:Value->Shared->Prop),tn i s.heap->Q (.ref it) s->wpAny (model P w) A (pyIter<|.ref it) Q E s
abbrev TI:=St->Hp->(It->Hp->Prop)->Prop
def PIE (X:Cx)(pins:List (Addr×Obj))(σ:St)(tg:Expr)(R:It->Hp->Prop)(itv:Value)(s2:Shared):Prop:=
 ∃(it:Addr) (fp:List Addr) (tn:Nat->Heap->Prop) (J:It) (H':Hp),itv= .ref it/\Inv X pins σ H' s2/\c29 X.prog X.w X.K tg J fp it tn/\tn 0 s2.heap/\(∀b∈fp,aV4 X pins H' b)/\R J H'
def PI (X:Cx)(tg iter:Expr)(wi:TI):Prop:=
 ∀(pins:List (Addr×Obj)) (s:Shared) (σ:St) (H:Hp) (R:It->Hp->Prop),Inv X pins σ H s->wi σ H R->
  X∩(eval iter X.env) (λv s1=>X∩(pyIter v) (PIE X pins σ tg R) X.xe s1) X.xe s
theorem c30 {M:Model}{it:Addr}{n:String}{Q:Unit->Shared->Prop}(ho:s.heap.get? it=some o)(hc:o.cls= .type n)(hd:o.data= .fields vs)
  (hn:["enumerate","zip","dict_itemiterator","dict_reverseitemiterator","odict_iterator","itertools.zip_longest","itertools.pairwise"].contains n=false) (hQ:Q () s):wpAny M A (letOwnedTupleGo tg (.ref it) u) Q E s:=by
 unfold letOwnedTupleGo;cases tg<;>first
  | exact aL hQ
  | (cases u<;>first
    | exact aL hQ
    | (refine a9 (wpAny_load ho ?_)
       rw[hc,hd];show wpAny M A (if(["enumerate","zip","dict_itemiterator","dict_reverseitemiterator","odict_iterator","itertools.zip_longest","itertools.pairwise"].contains n&&vs[0]? ==some (rawInt _))=true then _ else _) Q E s;rw[a6 (by intro h;rw[hn,Bool.false_and]at h;cases h)]
       exact aL hQ))
nonrec def Itl (K:Frag)(a:Addr):It:=
 ⟨λi H=> ∃xs x,SqL K H a xs/\xs[i]? =some x,λi H x H'=>H'=H/\ ∀xs,SqL K H a xs->xs[i]? =some x,λi H=> ∃xs,SqL K H a xs/\xs.length<=i⟩
nonrec def Itt (K:Frag)(a:Addr):It:=
 ⟨λi H=> ∃xs x,SqT K H a xs/\xs[i]? =some x,λi H x H'=>H'=H/\ ∀xs,SqT K H a xs->xs[i]? =some x,λi H=> ∃xs,SqT K H a xs/\xs.length<=i⟩
nonrec def Itr (lo:Int)(n:Nat):It:=⟨λi _=>i<n,λi H x H'=>H'=H/\x= .int (lo+i),λi _=>n<=i⟩
theorem cU1 (a it:Addr):c29 P w K tg (Itl K a) [it] it (λi h=>h.IsListIter it a i) where
 mem:=af
 obj:=λi h st b hb=>by
  have e:b=it:=by exists hb
  subst e;obtain⟨o,e,c,d⟩:=st;exact⟨o,e,λv z=>by rw[d]at z;cases z⟩
 keep:=λi h h' st k=>st.at λo e=>k it af o e
 item:=by
  intro X hP hw hK hc i pins s σ H E I hf st hg;subst hP hw hK;obtain⟨xs,x,hq,hx⟩:=hg;obtain⟨its,rv,p,hz⟩:=I.list hq;obtain⟨u,hu,ru⟩:=rv.get hx;obtain⟨f0,f1,f2,f3,f4,f5⟩:=hf it af
  refine wpAny_pyNext_list_item st p.isList (x:=u) (by exists hu) λh' st' sb=> ?_
  have I1:Inv X pins σ H {s with heap:=h'}:=I.turned (t':=s.toks) (λb o hb e=>(sb.2 b hb).trans e) f0 f1 f3 f4 f5
  obtain⟨o,e,c,d⟩:=id st';exact⟨u,rfl,c30 (s:={s with heap:=h'}) e c d ac ⟨x,H,I1,ru,⟨rfl,λys hy=>by rw[I.list_inj hy hq];exact hx⟩,st',λb hb=>(hf b hb).1⟩⟩
 done:=by
  intro X hP hw hK hc i pins s σ H E I hf st hg;subst hP hw hK;obtain⟨xs,hq,hx⟩:=hg;obtain⟨its,rv,p,hz⟩:=I.list hq;obtain⟨f0,f1,f2,f3,f4,f5⟩:=hf it af
  have hl:=rv.length;exact wpAny_pyNext_list_end (I.ok.hd hc) st p.isList (by simp;lia) λh' eb=>⟨rfl,I.turned (t':=s.toks) (λb o hb e=>eb b o hb e) f0 f1 f3 f4 f5⟩
 self:=λ_ _ _ _ _ st h=>wpAny_pyIter_listiter st h
theorem cE7 (a it:Addr):c29 P w K tg (Itt K a) [it] it (λi h=>h.IsTupleIter it a i) where
 mem:=af
 obj:=λi h st b hb=>by
  have e:b=it:=by exists hb
  subst e;obtain⟨o,e,c,d⟩:=st;exact⟨o,e,λv z=>by rw[d]at z;cases z⟩
 keep:=λi h h' st k=>st.at λo e=>k it af o e
 item:=by
  intro X hP hw hK hc i pins s σ H E I hf st hg;subst hP hw hK;obtain⟨xs,x,hq,hx⟩:=hg;obtain⟨its,rv,p,hz⟩:=I.tuple hq;obtain⟨u,hu,ru⟩:=rv.get hx;obtain⟨f0,f1,f2,f3,f4,f5⟩:=hf it af
  refine wpAny_pyNext_tuple_item st (show s.heap.IsTuple a its.toArray from p) (x:=u) (by exists hu) λh' st' sb=> ?_
  have I1:Inv X pins σ H {s with heap:=h'}:=I.turned (t':=s.toks) (λb o hb e=>(sb.2 b hb).trans e) f0 f1 f3 f4 f5
  obtain⟨o,e,c,d⟩:=id st';exact⟨u,rfl,c30 (s:={s with heap:=h'}) e c d ac ⟨x,H,I1,ru,⟨rfl,λys hy=>by rw[I.tuple_inj hy hq];exact hx⟩,st',λb hb=>(hf b hb).1⟩⟩
 done:=by
  intro X hP hw hK hc i pins s σ H E I hf st hg;subst hP hw hK;obtain⟨xs,hq,hx⟩:=hg;obtain⟨its,rv,p,hz⟩:=I.tuple hq;obtain⟨f0,f1,f2,f3,f4,f5⟩:=hf it af
  have hl:=rv.length;exact wpAny_pyNext_tuple_end (I.ok.hd hc) st (show s.heap.IsTuple a its.toArray from p) (by simp;lia) λh' eb=>⟨rfl,I.turned (t':=s.toks) (λb o hb e=>eb b o hb e) f0 f1 f3 f4 f5⟩
 self:=λ_ _ _ _ _ st h=>wpAny_pyIter_tupleiter st h
theorem cE8 (it:Addr)(lo:Int)(n:Nat):c29 P w K tg (Itr lo n) [it] it (λi h=>IsRangeIter h it (lo+(i:Nat)*1) ((n:Int)-(i:Nat)) 1) where
 mem:=af
 obj:=λi h st b hb=>by
  have e:b=it:=by exists hb
  subst e;exact⟨_,st,λv z=>by
   have z':Data.fields _=Data.cell v:=z;cases z'⟩
 keep:=λi h h' st k=>k it af _ st
 item:=by
  intro X hP hw hK hc i pins s σ H E I hf st hg;subst hP hw hK;obtain⟨f0,f1,f2,f3,f4,f5⟩:=hf it af
  have W:=Walks.range (prog:=X.prog) (w:=X.w) (I.ok.hd hc) it lo 1 n;refine W.item i s _ _ hg st λv h' tk hv st' kk=> ?_
  obtain⟨t,rfl⟩:=hv;have I1:Inv X pins σ H {s with heap:=h',toks:=tk}:=I.turned (λb o hb e=>kk b o (by exists hb) e) f0 f1 f3 f4 f5
  refine⟨_,rfl,c30 (s:={s with heap:=h',toks:=tk}) (n:="range_iterator") st' rfl rfl ac ⟨.int<|lo+i,H,I1,⟨t,?_⟩,⟨rfl,rfl⟩,st',λb hb=>(hf b hb).1⟩⟩
  rw[kG]
 done:=by
  intro X hP hw hK hc i pins s σ H E I hf st hg;subst hP hw hK;obtain⟨f0,f1,f2,f3,f4,f5⟩:=hf it af
  exact wpAny_pyNext_range_end (I.ok.hd hc) st (by have:n<=i:=hg;lia) λh' eb=>⟨rfl,I.turned (t':=s.toks) (λb o hb e=>eb b o hb e) f0 f1 f3 f4 f5⟩
 self:=λ_ _ _ _ _ st h=>aJ0 st h
section
variable {X:Cx}{tg:Expr}
theorem c31 {σ:St}{H:Hp}{R:It->Hp->Prop}{hi:Int}{t u v:Tok}(I:Inv X pins σ H s)(h1: -(2^62)<=lo)(h2:lo<2^62)(h3: -(2^62)<=hi)(h4:hi<2^62)
  (q:R (Itr lo (hi-lo).toNat) H):X∩(pyIter<|.ref s.heap.objs.size) (PIE X pins σ tg R) E {s with heap:=s.heap.push {cls:= .type "range",data:= .fields #[.int lo t,.int hi u,.int 1 v]},toks:=tk}:=by
 refine wpAny_pyIter_range (IsRange.new ..) (small_one h1 h2 h3 h4) ?_
 have I1:Inv X pins σ H {s with heap:=s.heap.push {cls:= .type "range",data:= .fields #[.int lo t,.int hi u,.int 1 v]},toks:=tk}:=I.kept λb o e=>aU _ e
 refine⟨(s.heap.push {cls:= .type "range",data:= .fields #[.int lo t,.int hi u,.int 1 v]}).objs.size,[(s.heap.push {cls:= .type "range",data:= .fields #[.int lo t,.int hi u,.int 1 v]}).objs.size],_,_,H,rfl,
  I1.kept (t':=tk) λb o e=>aU _ e,cE8 _ lo (hi-lo).toNat,?_,λb hb=> ?_,q⟩
 .have e1:lo+((0:Nat):Int)*1=lo:=af
  have e2:(((hi-lo).toNat:Nat):Int)-((0:Nat):Int)=Builtin.Range.rangeSize lo hi 1:=by rw[rangeSize_one];split<;>lia
  show IsRangeIter _ _ (lo+((0:Nat):Int)*1) ((((hi-lo).toNat:Nat):Int)-((0:Nat):Int)) 1
  rw[e1,e2];exact cA _ rfl
 .have e:b=(s.heap.push {cls:= .type "range",data:= .fields #[.int lo t,.int hi u,.int 1 v]}).objs.size:=by exists hb
  subst e;exact I1.fpOk (aF _) (I1.hok.fresh<|aF _)
def iRng1 (ta:TA):TI:=λσ H R=>ta σ H λvs H1=> ∃j:Int,vs=[.int j]/\ -(2^62)<=j/\j<2^62/\R (Itr 0 j.toNat) H1
def iRng2 (ta:TA):TI:=λσ H R=>ta σ H λvs H1=> ∃i j:Int,vs=[.int i,.int j]/\(-(2^62)<=i/\i<2^62/\ -(2^62)<=j/\j<2^62)/\R (Itr i (j-i).toNat) H1
theorem cU2 {a:Expr}{ta:TA}(hg:Gl X "range")(hm:X.mg "range"=none)(ha:PA X [a] ta)(hs:↥(starEach [a] X.env=[(false,eval a X.env)])):PI X tg (.Call (.Name "range" p) [a] [] pos) (iRng1 ta):=by
 intro pins s σ H R I h;refine Call_ (uI I hg hm boot_range<|jW (thn (ha pos pins s σ H _ I h) λus s1 ⟨vs,H1,I1,r1,q1⟩=> ?_) hs rfl)
 obtain⟨j,e,q1,q2,q⟩:=q1;subst e;cases r1 with
 | cons r rr=>
  cases rr;obtain⟨t,rfl⟩:=r;exact call_range_1 (c31 I1 ae ae q1 q2<|by exists q)
theorem cU3 {a b:Expr}{ta:TA}(hg:Gl X "range")(hm:X.mg "range"=none)(ha:PA X [a,b] ta)(hs:↥(starEach [a,b] X.env=[(false,eval a X.env),(false,eval b X.env)]))(hs2:↥(starEach [b] X.env=[(false,eval b X.env)])) :
  PI X tg (.Call (.Name "range" p) [a,b] [] pos) (iRng2 ta):=by
 intro pins s σ H R I h;refine Call_ (uI I hg hm boot_range<|jW (thn (ha pos pins s σ H _ I h) λus s1 ⟨vs,H1,I1,r1,q1⟩=> ?_) (by rw[hs,hs2]) (by rw[hs2];rfl))
 obtain⟨i,j,e,⟨q1,q2,q3,q4⟩,q⟩:=q1;subst e;cases r1 with
 | cons r rr=>
  cases rr with
  | cons r' rr=>
   cases rr;obtain⟨t,rfl⟩:=r;obtain⟨t',rfl⟩:=r';exact call_range_2 (c31 I1 q1 q2 q3 q4 q)
def tFor (wi:TI)(g:TG)(tb:TS):TS:=λD σ H=>wi σ H λJ H1=> ∃W:Nat->Nat->St->Hp->Prop,(∃m,W 0 m σ H1)/\ ∀i m σ H,W i m σ H->
 (J.stop i H/\D.nx σ H)\/(J.go i H/\ ∃N:St->Hp->Prop,(∀σ' H',N σ' H'-> ∃m',m'<m/\W (i+1) m' σ' H')/\ ∀x H',J.yld i H x H'->g x σ H' λσ2 H2=>tb {D with nx:=N,ct:=N,bk:=D.nx} σ2 H2)
nonrec def b83 (fp:List Addr)(h:Heap):List (Addr×Obj):=fp.filterMap λb=>(h.get? b).map λo=>(b,o)
theorem a03 (hb:b∈fp)(e:h.get? b=some o):(b,o)∈b83 fp h:=aK6.mpr ⟨b,hb,by rw[e];rfl⟩
theorem cU4 {p:Addr×Obj}(hp:p∈b83 fp h):p.1∈fp/\h.get? p.1=some p.2:=by
 obtain⟨b,hb,e⟩:=aK6.mp hp;cases q:h.get? b with
 | none=>rw[q]at e;cases e
 | some o=>
  rw[q]at e;have e':(b,o)=p:=gQ e;subst e';exact⟨hb,q⟩
theorem Inv.pinned {σ:St}{H:Hp}(I:Inv X pins σ H s)(hf: ∀b∈fp,aV4 X pins H b)(ho: ∀b∈fp,∃o,s.heap.get? b=some o/\ ∀v,o.data≠ .cell v):Inv X (pins++b83 fp s.heap) σ H s:=
 I.pins_of λp hp=>(fF.mp hp).elim (λz=>I.pin p (i8 _ z)) λz=>by
  obtain⟨hb,e⟩:=cU4 z;obtain⟨f0,f1,f2,_⟩:=hf p.1 hb;obtain⟨o,e',d⟩:=ho p.1 hb;rw[e]at e';cases e';exact⟨e,f0,f1,f2,d⟩
theorem Inv.unpinned {pl:List (Addr×Obj)}{σ:St}{H:Hp}(I:Inv X (pins++pl) σ H s):Inv X pins σ H s:=I.pins_of λp hp=>I.pin p (i8 _<|aJ7 _ hp)
theorem ps_for {wi:TI}{g:TG}{tb:TS}(hp:PassesOwn (model X.prog X.w) X.A X.env X.xe)(hc:X.calm=true)(hi:PI X tg iter wi)(hg:PG X tg g)(hb:PSs X body tb)
  (hs: ∀x,foldedSetIterable iter X.env x=pure x:=by intro _;rfl):PS X (.For tg iter body [] pos) (tFor wi g tb):=by
 intro pins s σ H D I h;refine wpAny_For (thn (hi pins s σ H _ I h) λv s1 h1=>thn h1 λitv s2 h2=> ?_) hs
 obtain⟨it,fp,tn,J,H2,e,I2,T,st2,f2,W,⟨m0,w0⟩,turn⟩:=h2;subst e;have stat: ∀{H':Hp},(∀b∈fp,H' b=none)-> ∀b∈fp,aV4 X pins H' b:=λhn b hb=>⟨hn b hb,(f2 b hb).2⟩
 refine codeAny_forLoop_any (λn s'=> ∃i σ' H',Inv X pins σ' H' s'/\tn i s'.heap/\(∀b∈fp,H' b=none)/\W i n σ' H') ?_ m0 ⟨0,σ,H2,I2,st2,λb hb=>(f2 b hb).1,w0⟩
 rintro n s3 ⟨i,σ3,H3,I3,st3,fr3,w3⟩;rcases turn i n σ3 H3 w3 with⟨stop,qn⟩| ⟨go,N,hN,step⟩
 .refine nW hp (thn (T.done X rfl rfl rfl hc i pins s3 σ3 H3 X.xe I3 (stat fr3) st3 stop) λr s4 ⟨hr,I4⟩=> ?_)
  subst hr;exact nV ⟨σ3,H3,I4,qn⟩
 .refine nW hp (thn (T.item X rfl rfl rfl hc i pins s3 σ3 H3 X.xe I3 (stat fr3) st3 go) λr s4 ⟨u,hr,h4⟩=> ?_)
  subst hr;refine nW hp (thn h4 λ_ s5 ⟨x,H5,I5,r5,y5,st5,fr5⟩=> ?_)
  have I5':=I5.pinned (stat fr5) (T.obj _ _ st5);refine nW hp (thn (hg _ s5 σ3 H5 x u _ I5' r5<|step x H5 y5) λ_ s6 ⟨σ6,H6,I6,q6⟩=> ?_)
  refine nW hp (thn (hb _ s6 σ6 H6 _ I6 q6) λf s7 q7=> ?_)
  have again: ∀{σ7:St} {H7:Hp},Inv X (pins++b83 fp s5.heap) σ7 H7 s7->N σ7 H7-> ∃m,m<n/\ ∃i σ' H',Inv X pins σ' H' s7/\tn i s7.heap/\(∀b∈fp,H' b=none)/\W i m σ' H':=λ{σ7 H7} I7 n7=>by
   obtain⟨m',hm,w7⟩:=hN σ7 H7 n7;refine⟨m',hm,i+1,σ7,H7,I7.unpinned,T.keep _ _ _ st5 λb hb o e=>(I7.pin (b,o)<|i8 _<|i8 _<|a03 hb e).1,λb hb=> ?_,w7⟩
   obtain⟨o,e,d⟩:=T.obj _ _ st5 b hb;exact(I7.pin (b,o)<|i8 _<|i8 _<|a03 hb e).2.1
  cases f with
  | next=>obtain⟨σ7,H7,I7,n7⟩:=q7;exact again I7 n7
  | cont=>obtain⟨σ7,H7,I7,n7⟩:=q7;exact again I7 n7
  | brk=>obtain⟨σ7,H7,I7,q7⟩:=q7;exact⟨σ7,H7,I7.unpinned,q7⟩
  | ret v=>obtain⟨x7,σ7,H7,I7,r7,q7⟩:=q7;exact⟨x7,σ7,H7,I7.unpinned,r7,q7⟩
end
abbrev R2:=V->V->Hp->VK->Prop
def OpR (X:Cx)(f:Value->Value->Sem Value)(r:R2):Prop:=
 ∀(pins:List (Addr×Obj)) (s:Shared) (σ:St) (H:Hp) (x y:V) (v u:Value) (Q:VK),Inv X pins σ H s->RelV x v->RelV y u->r x y H Q->
  X∩(f v u) (EP X pins σ Q) X.xe s
def UnR (X:Cx)(f:Value->Sem Value)(r:V->Hp->VK->Prop):Prop:=
 ∀(pins:List (Addr×Obj)) (s:Shared) (σ:St) (H:Hp) (x:V) (v:Value) (Q:VK),Inv X pins σ H s->RelV x v->r x H Q->
  X∩(f v) (EP X pins σ Q) X.xe s
def oV (X:Cx)(f:Value)(r:List V->Hp->VK->Prop):Prop:=
 ∀(pins:List (Addr×Obj)) (s:Shared) (σ:St) (H:Hp) (xs:List V) (us:List Value) (Q:VK),Inv X pins σ H s->Vals xs us->r xs H Q->
  X∩(call f us) (EP X pins σ Q) X.xe s
def tOp (r:R2)(ta tb:TE):TE:=λσ H Q=>ta σ H λx H1=>tb σ H1 λy H2=>r x y H2 Q
def tUn (r:V->Hp->VK->Prop)(ta:TE):TE:=λσ H Q=>ta σ H λx H1=>r x H1 Q
def rI (C:Int->Int->Prop)(g:Int->Int->V):R2:=λx y H Q=> ∃i j,x= .int i/\y= .int j/\C i j/\Q (g i j) H
def rI0 (g:Int->Int->V):R2:=λx y H Q=> ∃i j,x= .int i/\y= .int j/\Q (g i j) H
def rU (g:Int->V):V->Hp->VK->Prop:=λx H Q=> ∃i,x= .int i/\Q (g i) H
section
variable {X:Cx}{a b c:Expr}{ta tb tc:TE}{pos:Pos}
theorem binT (ha:PE X a ta)(hb:PE X b tb){σ:St}{H:Hp}{R:V->V->Hp->Prop}(I:Inv X pins σ H s)
  (h:ta σ H λx H1=>tb σ H1 λy H2=>R x y H2) {Q:Value->Shared->Prop} {f:Value->Value->Sem Value}
  (hf: ∀v u s2 x y H2,Inv X pins σ H2 s2->RelV x v->RelV y u->R x y H2->X∩(f v u) Q X.xe s2) :
  X∩(eval a X.env) (λv s₁=>X∩(eval b X.env) (λu s₂=>X∩(f v u) Q X.xe s₂) X.xe s₁) X.xe s:=by
 refine thn (ha pins s σ H _ I h) λv s1 ⟨x,H1,I1,r1,q1⟩=> ?_
 refine thn (hb pins s1 σ H1 _ I1 q1) λu s2 ⟨y,H2,I2,r2,q2⟩=> ?_
 exact hf v u s2 x y H2 I2 r1 r2 q2
theorem pe_op {op:Operator}{r:R2}(ho:OpR X (binaryOp op) r)(ha:PE X a ta)(hb:PE X b tb):PE X (.BinOp a op b pos) (tOp r ta tb):=by
 intro pins s σ H Q I h;exact wpAny_BinOp (binT ha hb I h λv u s2 x y H2 I2 rx ry q=>ho pins s2 σ H2 x y v u Q I2 rx ry q)
theorem pe_un {op:UnaryOp}{r:V->Hp->VK->Prop}(ho:UnR X (unaryOp op) r)(ha:PE X a ta):PE X (.UnaryOp op a pos) (tUn r ta):=by
 intro pins s σ H Q I h;exact UnaryOp_ (thn (ha pins s σ H _ I h) λv s1 ⟨x,H1,I1,r1,q1⟩=>ho pins s1 σ H1 x v Q I1 r1 q1)
theorem opI {f:Value->Value->Sem Value}{C:Int->Int->Prop}{g:Int->Int->Int}
  (rule: ∀(i j:Int) (t u:Tok) (s:Shared) (Q:Value->Shared->Prop) (E:Value->Shared->Prop),C i j->Q (.int (g i j) s.toks) {s with toks:=s.toks+1}->X∩(f (.int i t)<|.int j u) Q E s) :
  OpR X f (rI C λi j=> .int (g i j)):=by
 intro pins s σ H x y v u Q I rx ry h;obtain⟨i,j,rfl,rfl,hc,q⟩:=h;obtain⟨t,rfl⟩:=rx;obtain⟨t',rfl⟩:=ry;exact rule i j t t' s _ _ hc ⟨.int<|g i j,H,I.tok _,⟨_,rfl⟩,q⟩
theorem opI0 {f:Value->Value->Sem Value}{g:Int->Int->Int}
  (rule: ∀(i j:Int) (t u:Tok) (s:Shared) (Q:Value->Shared->Prop) (E:Value->Shared->Prop),Q (.int (g i j) s.toks) {s with toks:=s.toks+1}->X∩(f (.int i t)<|.int j u) Q E s) :
  OpR X f (rI0 λi j=> .int (g i j)):=by
 intro pins s σ H x y v u Q I rx ry h;obtain⟨i,j,rfl,rfl,q⟩:=h;obtain⟨t,rfl⟩:=rx;obtain⟨t',rfl⟩:=ry;exact rule i j t t' s _ _ ⟨.int<|g i j,H,I.tok _,⟨_,rfl⟩,q⟩
theorem dH8 {f:Value->Value->Sem Value}{g:Int->Int->Bool}
  (rule: ∀(i j:Int) (t u:Tok) (s:Shared) (Q:Value->Shared->Prop) (E:Value->Shared->Prop),Q (.bool<|g i j) s->X∩(f (.int i t)<|.int j u) Q E s) :
  OpR X f (rI0 λi j=> .bl (g i j)):=by
 intro pins s σ H x y v u Q I rx ry h;obtain⟨i,j,rfl,rfl,q⟩:=h;obtain⟨t,rfl⟩:=rx;obtain⟨t',rfl⟩:=ry;exact rule i j t t' s _ _ ⟨.bl<|g i j,H,I,rfl,q⟩
def dH9 (i j:Int):Prop:=0<=j/\j<=1000000/\i.natAbs<2^64
def cE9 (i j:Int):Prop:=(-(2^64)<i/\i<2^64)\/(-(2^64)<j/\j<2^64)
theorem cE9.ok {i j:Int}(h:cE9 i j):IntMulOk i j:=by
 rcases h with⟨h1,h2⟩| ⟨h1,h2⟩
 .exact .of_left (intBits_le_64 h1 h2)
 .exact .of_right (intBits_le_64 h1 h2)
theorem op_add:OpR X (binaryOp .Add) (rI0 λi j=> .int (i+j)):=opI0 λ_ _ _ _ _ _ _ q=>add_int q
theorem op_sub:OpR X (binaryOp .Sub) (rI0 λi j=> .int (i-j)):=opI0 λ_ _ _ _ _ _ _ q=>sub_int q
theorem dI0:OpR X (binaryOp .Mod) (rI (λ_ j=>j≠0) λi j=> .int (i.fmod j)):=opI λ_ _ _ _ _ _ _ hc q=>mod_int' hc q
theorem op_pow:OpR X (binaryOp .Pow) (rI dH9 λi j=> .int (i^j.toNat)):=opI λ_ _ _ _ _ _ _ hc q=>pow_int_small hc.1 hc.2.1 hc.2.2 q
theorem unI {f:Value->Sem Value}{g:Int->Int}
  (rule: ∀(i:Int) (t:Tok) (s:Shared) (Q:Value->Shared->Prop) (E:Value->Shared->Prop),Q (.int (g i) s.toks) {s with toks:=s.toks+1}->X∩(f<|.int i t) Q E s) :
  UnR X f (rU λi=> .int (g i)):=by
 intro pins s σ H x v Q I rx h;obtain⟨i,rfl,q⟩:=h;obtain⟨t,rfl⟩:=rx;exact rule i t s _ _ ⟨.int<|g i,H,I.tok _,⟨_,rfl⟩,q⟩
theorem un_neg:UnR X (unaryOp .USub) (rU λi=> .int (-i)):=unI λ_ _ _ _ _ q=>neg_int q
end
nonrec def scal:V->V->Bool
 | .non,.non=>true| .non,.int _=>true| .int _,.non=>true| .non,.bl _=>true| .bl _,.non=>true| .non,.str _=>true| .str _,.non=>true
 | .int _,.int _=>true| .bl _,.bl _=>true| .str _,.str _=>true| .byt _,.byt _=>true
 | .int _,.str _=>true| .str _,.int _=>true| .bl _,.str _=>true| .str _,.bl _=>true
 | _,_=>false
nonrec def rEq:R2:=λx y H Q=>scal x y=true/\Q (.bl<|decide (x=y)) H
nonrec def rNe:R2:=λx y H Q=>scal x y=true/\Q (.bl<|!decide (x=y)) H
theorem b58 {i j:Int}:decide (V.int i=V.int j)=(i==j):=by
 rw[zL];simp
theorem bT8 {i j:Bool}:decide (V.bl i=V.bl j)=(i==j):=by
 rw[zL];simp
theorem b59 {i j:Str}:decide (V.str i=V.str j)=(i==j):=by
 rw[zL];simp
theorem cN0 {i j:Array UInt8}:decide (V.byt i=V.byt j)=(i.toList==j.toList):=by
 rw[zL];cases i;cases j;simp
section
variable {X:Cx}{a b c:Expr}{ta tb tc:TE}{pos:Pos}
theorem fL {σ:St}{H:Hp}{Q:VK}{k k':Bool}(I:Inv X pins σ H s)(q:Q (.bl k) H)(e:k=k'):EP X pins σ Q (.bool k') s:=by
 subst e;exact⟨.bl k,H,I,rfl,q⟩
theorem d21:OpR X (compareOp .Eq) rEq:=by
 intro pins s σ H x y v u Q I rx ry h;obtain⟨hs,q⟩:=h;cases x with
 | non=>
  cases rx;cases y with
  | non=>cases ry;exact PySem.EqNone.eq_none_none (fL I q af)
  | bl j=>cases ry;exact PySem.EqNone.eq_none_bool (fL I q af)
  | int j=>obtain⟨t',rfl⟩:=ry;exact PySem.EqNone.eq_none_int (fL I q af)
  | str j=>obtain⟨t',rfl⟩:=ry;exact PySem.EqNone.eq_none_str (fL I q af)
  | _=>exact absurd (show false=true from hs) bF
 | bl i=>
  cases rx;cases y with
  | non=>cases ry;exact PySem.EqNone.eq_bool_none (fL I q af)
  | bl j=>cases ry;exact eq_bool (fL I q bT8)
  | str j=>obtain⟨t',rfl⟩:=ry;exact PySem.EqMixed.eq_bool_str (fL I q af)
  | _=>exact absurd (show false=true from hs) bF
 | int i=>
  obtain⟨t,rfl⟩:=rx;cases y with
  | non=>cases ry;exact PySem.EqNone.eq_int_none (fL I q af)
  | int j=>obtain⟨t',rfl⟩:=ry;exact eq_int (fL I q b58)
  | str j=>obtain⟨t',rfl⟩:=ry;exact PySem.EqMixed.eq_int_str (fL I q af)
  | _=>exact absurd (show false=true from hs) bF
 | str i=>
  obtain⟨t,rfl⟩:=rx;cases y with
  | non=>cases ry;exact PySem.EqNone.eq_str_none (fL I q af)
  | bl j=>cases ry;exact PySem.EqMixed.eq_str_bool (fL I q af)
  | int j=>obtain⟨t',rfl⟩:=ry;exact PySem.EqMixed.eq_str_int (fL I q af)
  | str j=>obtain⟨t',rfl⟩:=ry;exact eq_str (fL I q b59)
  | _=>exact absurd (show false=true from hs) bF
 | byt i=>
  obtain⟨t,rfl⟩:=rx;cases y with
  | byt j=>obtain⟨t',rfl⟩:=ry;exact PySem.W.eq_bytes (fL I q cN0)
  | _=>exact absurd (show false=true from hs) bF
 | _=>cases y<;>exact absurd (show false=true from hs) bF
theorem d22:OpR X (compareOp .NotEq) rNe:=by
 intro pins s σ H x y v u Q I rx ry h;obtain⟨hs,q⟩:=h;cases x with
 | non=>
  cases rx;cases y with
  | non=>cases ry;exact PySem.EqNone.ne_none_none (fL I q af)
  | bl j=>cases ry;exact PySem.EqNone.ne_none_bool (fL I q af)
  | int j=>obtain⟨t',rfl⟩:=ry;exact PySem.EqNone.ne_none_int (fL I q af)
  | str j=>obtain⟨t',rfl⟩:=ry;exact PySem.EqNone.ne_none_str (fL I q af)
  | _=>exact absurd (show false=true from hs) bF
 | bl i=>
  cases rx;cases y with
  | non=>cases ry;exact PySem.EqNone.ne_bool_none (fL I q af)
  | bl j=>cases ry;exact ne_bool (fL I q<|cR not bT8)
  | str j=>obtain⟨t',rfl⟩:=ry;exact PySem.EqMixed.ne_bool_str (fL I q af)
  | _=>exact absurd (show false=true from hs) bF
 | int i=>
  obtain⟨t,rfl⟩:=rx;cases y with
  | non=>cases ry;exact PySem.EqNone.ne_int_none (fL I q af)
  | int j=>obtain⟨t',rfl⟩:=ry;exact ne_int (fL I q<|cR not b58)
  | str j=>obtain⟨t',rfl⟩:=ry;exact PySem.EqMixed.ne_int_str (fL I q af)
  | _=>exact absurd (show false=true from hs) bF
 | str i=>
  obtain⟨t,rfl⟩:=rx;cases y with
  | non=>cases ry;exact PySem.EqNone.ne_str_none (fL I q af)
  | bl j=>cases ry;exact PySem.EqMixed.ne_str_bool (fL I q af)
  | int j=>obtain⟨t',rfl⟩:=ry;exact PySem.EqMixed.ne_str_int (fL I q af)
  | str j=>obtain⟨t',rfl⟩:=ry;exact ne_str (fL I q<|cR not b59)
  | _=>exact absurd (show false=true from hs) bF
 | byt i=>
  obtain⟨t,rfl⟩:=rx;cases y with
  | byt j=>obtain⟨t',rfl⟩:=ry;exact PySem.W.ne_bytes (fL I q<|cR not cN0)
  | _=>exact absurd (show false=true from hs) bF
 | _=>cases y<;>exact absurd (show false=true from hs) bF
theorem op_lt:OpR X (compareOp .Lt) (rI0 λi j=> .bl (decide (i<j))):=dH8 λ_ _ _ _ _ _ _ q=>lt_int q
theorem op_le:OpR X (compareOp .LtE) (rI0 λi j=> .bl (decide (i<=j))):=dH8 λ_ _ _ _ _ _ _ q=>le_int q
theorem op_gt:OpR X (compareOp .Gt) (rI0 λi j=> .bl (decide (j<i))):=dH8 λ_ _ _ _ _ _ _ q=>gt_int q
theorem op_ge:OpR X (compareOp .GtE) (rI0 λi j=> .bl (decide (j<=i))):=dH8 λ_ _ _ _ _ _ _ q=>ge_int q
theorem bT9 (b:Expr)(h:⇑(op≠ .In))(h2:⇑(op≠ .NotIn)):behindInMarks op b=false:=by
 have e1:(op==CmpOp.In)=false:=by cases op<;>first|rfl|exact absurd rfl h
 have e2:(op==CmpOp.NotIn)=false:=by cases op<;>first|rfl|exact absurd rfl h2
 cases b<;>simp[behindInMarks,e1,e2]
theorem dI1 {r:R2}(ho:OpR X (compareOp op) r)(ha:PE X a ta)(hb:PE X b tb)(hm:behindInMarks op b=false):PE X (.Compare a [op] [b] pos) (tOp r ta tb):=by
 intro pins s σ H Q I h;exact wpAny_Compare1 (binT ha hb I h λv u s2 x y H2 I2 rx ry q=>ho pins s2 σ H2 x y v u Q I2 rx ry q) hm
def tTest (t:TE):TT:=λσ H Q=>t σ H λx H'=> ∃k,x= .bl k/\Q k H'
theorem dI2 {r:R2}(ho:OpR X (compareOp op) r)(ha:PE X a ta)(hb:PE X b tb)(hm:behindInMarks op b=false):PT X (.Compare a [op] [b] pos) (tTest<|tOp r ta tb):=by
 intro pins s σ H Q I h;refine wpAny_isTrue_Compare1 (thn (ha pins s σ H _ I h) λv s1 ⟨x,H1,I1,r1,q1⟩=>thn (hb pins s1 σ H1 _ I1 q1) λu s2 ⟨y,H2,I2,r2,q2⟩=>
  thn (ho pins s2 σ H2 x y v u _ I2 r1 r2 q2) λc s3 ⟨z,H3,I3,r3,k,e,q3⟩=> ?_) hm
 subst e;cases r3;exact nS ⟨H3,I3,q3⟩
theorem aV5:(sizeLine:Nat)<2^63:=by rw[sizeLine_eq];decide
theorem vals1 {x:V}(r:Vals [x] us): ∃u,us=[u]/\RelV x u:=by
 cases r with
 | cons r1 r2=>cases r2;exact⟨_,rfl,r1⟩
theorem vals2 {x y:V}(r:Vals [x,y] us): ∃u w',us=[u,w']/\RelV x u/\RelV y w':=by
 cases r with
 | cons r1 r2=>
  cases r2 with
  | cons r3 r4=>cases r4;exact⟨_,_,rfl,r1,r3⟩
theorem d23:oV X (.builtin "abs") (λxs H Q=> ∃i,xs=[.int i]/\Q (.int<|if i<0 then -i else i) H):=by
 intro pins s σ H xs us Q I r h;obtain⟨i,rfl,q⟩:=h;obtain⟨u,rfl,t,rfl⟩:=vals1 r;exact call_abs_int λu tk=>⟨.int<|if i<0 then -i else i,H,I.tok _,⟨_,rfl⟩,q⟩
theorem cU5 (hc:X.calm=true):oV X (.builtin "max") (λxs H Q=> ∃i j,xs=[.int i,.int j]/\Q (.int<|if j>i then j else i) H):=by
 intro pins s σ H xs us Q I r h;obtain⟨i,j,rfl,q⟩:=h;obtain⟨u,w',rfl,⟨t,rfl⟩,⟨t',rfl⟩⟩:=vals2 r;refine max_two_ints (I.ok.hd hc) λh' tk k=>⟨_,H,I.kept k,?_,q⟩
 by_cases hj:j>i
 .rw[a8 hj,a8 hj];exact⟨_,rfl⟩
 .rw[a6 hj,a6 hj];exact⟨_,rfl⟩
theorem cU6 (hc:X.calm=true):oV X (.builtin "min") (λxs H Q=> ∃i j,xs=[.int i,.int j]/\Q (.int<|if j<i then j else i) H):=by
 intro pins s σ H xs us Q I r h;obtain⟨i,j,rfl,q⟩:=h;obtain⟨u,w',rfl,⟨t,rfl⟩,⟨t',rfl⟩⟩:=vals2 r;refine min_two_ints (I.ok.hd hc) λh' tk k=>⟨_,H,I.kept k,?_,q⟩
 by_cases hj:j<i
 .rw[a8 hj,a8 hj];exact⟨_,rfl⟩
 .rw[a6 hj,a6 hj];exact⟨_,rfl⟩
theorem bN7:oV X (.type "int") (λxs H Q=>(∃i,xs=[.int i]/\Q (.int i) H)\/ ∃k,xs=[.bl k]/\Q (.int<|if k then 1 else 0) H):=by
 intro pins s σ H xs us Q I r h;rcases h with⟨i,rfl,q⟩| ⟨k,rfl,q⟩
 .obtain⟨u,rfl,t,rfl⟩:=vals1 r;exact call_int_int ⟨.int i,H,I,⟨_,rfl⟩,q⟩
 .obtain⟨u,rfl,r1⟩:=vals1 r;cases r1;exact call_int_bool ⟨.int<|if k then 1 else 0,H,I.tok _,⟨_,rfl⟩,q⟩
end
structure cU7 (h:Heap)(x dx C:Addr)(mA:Str->Option Value):Prop where
 obj:h.get? x=some (instObj C dx)
 ns:h.Ns1 dx mA
 ne:dx≠x
theorem cU8 {mA:Str->Option Value}(n:h.Ns1 dx mA): ∃od,h.get? dx=some od/\ ∀name,lookIn name od=some (mA name):=by
 obtain⟨o,es,ep,ho,hd,hk,_,hm⟩:=n;refine⟨o,ho,λname=> ?_⟩
 have e:=hm name;unfold nsFind findBy at e;rw[<-Array.find?_toList]at e;unfold lookIn;rw[hd];right;split
 .rename_i y q
  rw[q]at e;exact cR some e
 .rename_i q
  rw[q]at e;have a:es.toList.any (·.refKey)=false:=by
   rw[List.any_eq_false];intro y hy;obtain⟨z,t,hkey⟩:=hk y (Array.mem_toList_iff.mp hy);simp[DictEntry.refKey,hkey]
  have a': ¬es.toList.any (·.refKey)=true:=by rw[a];exact bF
  rw[a6 a'];exact cR some e
theorem cU7.look {x:Addr}{mA:Str->Option Value}(I:cU7 h x dx C mA): ∃od,InstAt h x (instObj C dx) C (some od)/\ ∀name,lookIn name od=some (mA name):=
 let ⟨od,ho,hl⟩:=cU8 I.ns
 ⟨od,⟨I.obj,rfl,rfl,ho⟩,hl⟩
section
variable {prog:Program}{w:World}{A:Around}{E:Value->Shared->Prop}{s:Shared}{K:Frag}{x dx C f:Addr}{mA:Str->Option Value}{name:Str}{v:Value}
theorem dI3 {expr:Bool}(X:K.In s.heap)(I:cU7 s.heap x dx C mA)(hg:plainGet K C name=true)(hh:hasDictIn K C=true)
  (ha:findIn K (.ref C) name=some none) (hv:mA name=some v) (hv':PySem.W.handedIn v=true) (h:Q v {s with toks:=s.toks+1}) :
  wpAny (model prog w) A (getAttr (.ref x) name expr) Q E s:=by
 obtain⟨od,J,hl⟩:=I.look;exact PySem.W.get_value X J (PySem.W.plainGet_of hg).1 (PySem.W.findObj_own hh ha rfl (by rw[hl,hv])) hv' h
theorem dI4 {ns:List Str}{Q:Unit->Shared->Prop}(X:K.In s.heap)(I:cU7 s.heap x dx C mA)
  (hs:findIn K (.ref C) "__setattr__"=some (some<|.builtin "object.__setattr__")) (hp:plainOver K C=true) (ht:takerIn K C name=some none) (hh:hasDictIn K C=true)
  (hw:PySem.Within mA ns) (hsz:ns.length<=sizeLine)
  (h: ∀h',cU7 h' x dx C (λy=>if y=name then some v else mA y)->SameBut dx s.heap h'->Q () {s with heap:=h',toks:=s.toks+2}) :
  wpAny (model prog w) A (setAttr (.ref x) name v) Q E s:=by
 obtain⟨od,J,hl⟩:=I.look;refine PySem.W.set_plain X J hs (PySem.W.osa_open (s:={s with toks:=s.toks+1}) (r:=none) X J hp ht λb=> ?_)
 obtain⟨cd,hc,hd'⟩:=PySem.W.any_some hh;have hx:s.heap.get? x=some ⟨.ref C,some dx,.plain,#[]⟩:=I.obj;refine a9 (aL<|a9<|a9<|wpAny_loadPart hx<|a9<|PySem.W.Looks.here (s:={s with toks:=s.toks+1}) (aK5 X hc) ?_);rw[hd'];refine aL (a:=some dx) (a9<|aL<|a9 ?_);refine wpAny_nsSet1 (s:={s with toks:=s.toks+1}) I.ns λh' hn2 hs2=> ?_
 obtain⟨oD,esD,epD,hoD,hdD,hcD⟩:=hn2.count (PySem.Within.cons name v hw);refine a9 (wpAny_lookBehind hoD (by rw[hdD];exact pastItsLine_dict (aG hcD (by rw[dI];lia))) ?_)
 exact aL (h _ ⟨(hs2.2 _<|Ne.symm I.ne).trans I.obj,hn2,I.ne⟩ hs2)
theorem c32 {R:Result->Shared->Prop}{vs:List Value}(X:K.In s.heap)(hm:makesIn K C=true)
  (hi:findIn K (.ref C) "__init__"=some (some<|.ref f)) (hf:PySem.W.typeIn K (.ref f)=some (.type "function"))
  (h:codeAny (model prog w) (A.under<|.builtin "type.__call__" ⟨.ref C::vs,kw⟩) (.call (.ref f) ⟨.ref (s.heap.objs.size+1)::vs,kw⟩) (PySem.W.InitBack (s.heap.objs.size+1) R)
   {s with heap:=(s.heap.push emptyDict).push (instObj C s.heap.objs.size)}) :
  codeAny (model prog w) A (.call (.ref C) ⟨vs,kw⟩) R s:=by
 obtain⟨hh,g,d,t,os⟩:=s;exact PySem.W.make_core (PySem.W.makes_of X hm) (PySem.W.looks_findIn X hi) (λself=>PySem.W.bind_fn X self hf) (.inl rfl) h
end
nonrec def uK (f:Str)(v:V):List (Str×V)->List (Str×V)
 | []=>[(f,v)]
 | (g,x)::r=>if g=f then(g,v)::r else(g,x)::uK f v r
theorem b07 (f g:Str)(v:V): ∀fs:List (Str×V),(uK f v fs).lookup g=if g=f then some v else fs.lookup g
 | []=>by
  show List.lookup g [(f,v)]=_
  by_cases h:g=f
  .have hb:(g==f)=true:=eH.mpr h;simp only[List.lookup,hb,a8 h]
  .have hb:(g==f)=false:=pY.mpr h;simp only[List.lookup,hb,a6 h]
 | (k,x)::r=>by
  have ih:=b07 f g v r;rw[show uK f v ((k,x)::r)=(if k=f then(k,v)::r else(k,x)::uK f v r)from rfl]
  by_cases hk:k=f
  .rw[a8 hk]
   by_cases h:g=k
   .have hb:(g==k)=true:=eH.mpr h;simp only[List.lookup,hb,a8<|h.trans hk]
   .have hb:(g==k)=false:=pY.mpr h;simp only[List.lookup,hb,a6 (λe:g=f=>h (e.trans hk.symm))]
  .rw[a6 hk]
   by_cases h:g=k
   .have hb:(g==k)=true:=eH.mpr h;simp only[List.lookup,hb,a6 (λe:g=f=>hk (h.symm.trans e))]
   .have hb:(g==k)=false:=pY.mpr h;simp only[List.lookup,hb];exact ih
theorem aV6 (f:Str)(v:V): ∀fs:List (Str×V),f∈(uK f v fs).map (·.1)/\ ∀g,g∈fs.map (·.1)->g∈(uK f v fs).map (·.1)
 | []=>⟨by simp[uK],λg h=>by simp at h⟩
 | (k,x)::r=>by
  obtain⟨i1,i2⟩:=aV6 f v r;rw[show uK f v ((k,x)::r)=(if k=f then(k,v)::r else(k,x)::uK f v r)from rfl]
  by_cases hk:k=f
  .rw[a8 hk];subst hk;exact⟨af,λg h=>by exists h⟩
  .rw[a6 hk];refine⟨?_,λg h=> ?_⟩
   .rw[cN];exact fB _ i1
   .rw[cN]at h⊢;rcases aY.mp h with e|e
    .exact aY.mpr (.inl e)
    .exact fB _ (i2 g e)
theorem b08 (f:Str)(v:V): ∀fs:List (Str×V),(uK f v fs).length<=fs.length+1
 | []=>by simp[uK]
 | (k,x)::r=>by
  have ih:=b08 f v r;rw[show uK f v ((k,x)::r)=(if k=f then(k,v)::r else(k,x)::uK f v r)from rfl]
  by_cases hk:k=f
  .rw[a8 hk,dI,dI];lia
  .rw[a6 hk,dI,dI];lia
theorem cE6.some_of {v:V}{o:Option Value}(r:cE6 (some v) o): ∃u,o=some u/\RelV v u:=by
 cases o with
 | none=>exact(show False from r).elim
 | some u=>exact⟨u,rfl,r⟩
theorem cU9 {v:V}(r:RelV v u):PySem.W.handedIn u=true:=by
 cases v with
 | non=>cases (show u=Value.none from r);rfl
 | bl b=>cases (show u=Value.bool b from r);rfl
 | int i=>obtain⟨t,e⟩:=(show ∃t,u=Value.int i t from r);cases e;rfl
 | str x=>obtain⟨t,e⟩:=(show ∃t,u=Value.str x t from r);cases e;rfl
 | byt b=>obtain⟨t,e⟩:=(show ∃t,u=Value.bytes b t from r);cases e;rfl
 | flt b=>obtain⟨t,e⟩:=(show ∃t,u=Value.float b t from r);cases e;rfl
 | ref a=>cases (show u=Value.ref a from r);rfl
 | ty n=>cases (show u=Value.type n from r);rfl
section
variable {P:Program}{w:World}{H H':Hp}{h h':Heap}{a C dx:Addr}{fs fs':List (Str×V)}
theorem cN1 (hok:HOk P w H h)(e:H a=some (.ins C dx fs)): ∃mA,cU7 h a dx C mA/\(∀f,cE6 (fs.lookup f)<|mA f)/\PySem.Within mA (fs.map (·.1))/\fs.length<=1000/\H dx=some (.own a):=by
 obtain⟨d,z,ne,ob,mA,n,r,q⟩:=(show rO P w H h a (.ins C dx fs)from hok a _ e)
 exact⟨mA,⟨ob,n,ne⟩,r,q,z,d⟩
end
structure Cls (K:Frag)(C:Addr):Prop where
 pg:plainGet K C Str.empty=true
 hd:hasDictIn K C=true
 po:plainOver K C=true
 sa:findIn K (.ref C) "__setattr__"=some (some<|.builtin "object.__setattr__")
theorem Cls.get (c:Cls K C)(f:Str):plainGet K C f=true:=c.pg
def a64 (K:Frag)(C:Addr)(f:Str):Prop:=findIn K (.ref C) f=some none
theorem a64.taker {f:Str}(n:a64 K C f):takerIn K C f=some none:=by
 unfold takerIn;rw[show findIn K (.ref C) f=some none from n]
 rfl
section
variable {X:Cx}{pins:List (Addr×Obj)}{σ:St}{H:Hp}{s:Shared}{a C dx:Addr}{fs:List (Str×V)}{f:Str}{v:V}{A:Around}{E:Value->Shared->Prop}
theorem cF0 {b:Bool}(I:Inv X pins σ H s)(e:H a=some (.ins C dx fs))(c:Cls X.K C)(n:a64 X.K C f)(l:fs.lookup f=some v)
  (h: ∀u s',Inv X pins σ H s'->RelV v u->Q u s'):wpAny (model X.prog X.w) A (getAttr (.ref a) f b) Q E s:=by
 obtain⟨mA,O,r,_,_,_⟩:=cN1 I.hok e;obtain⟨u,hu,ru⟩:=cE6.some_of (v:=v) (o:=mA f) (by rw[<-l];exact r f)
 exact dI3 I.kIn O (c.get f) c.hd n hu (cU9 ru) (h u _ (I.tok _) ru)
theorem cF1 {y:V}{Q:Unit->Shared->Prop}(I:Inv X pins σ H s)(e:H a=some (.ins C dx fs))(c:Cls X.K C)(n:a64 X.K C f)(hl:fs.length<1000)(ry:RelV y u)
  (h: ∀s',Inv X pins σ (upd H a<|.ins C dx<|uK f y fs) s'->Q () s'):wpAny (model X.prog X.w) A (setAttr (.ref a) f u) Q E s:=by
 obtain⟨mA,O,r,wi,_,ho⟩:=cN1 I.hok e;have hz:(fs.map (·.1)).length<=sizeLine:=by rw[aH,sizeLine_eq];lia
 refine dI4 I.kIn O c.sa c.po n.taker c.hd wi hz λh' O' sb=>h _ ?_
 have hd: ∃o,h'.get? dx=some o:=let ⟨o,_,_,e',_⟩:=O'.ns;⟨o,e'⟩;refine I.write (x:=a) (e:=dx) (by rw[e];exact True.intro) (.inr ho) (λb q hb z=>(sb.2 b hb).trans z) hd ?_
 refine⟨by rw[cI O.ne];exact ho,?_,O.ne,O'.obj,_,O'.ns,λg=> ?_,λg hg=> ?_⟩
 .have:=b08 f y fs;lia
 .show cE6 ((uK f y fs).lookup g) (if g=f then some u else mA g)
  rw[b07]
  by_cases q:g=f
  .rw[a8 q,a8 q];exact ry
  .rw[a6 q,a6 q];exact r g
 .by_cases q:g=f
  .rw[q];exact(aV6 f y fs).1
  .refine(aV6 f y fs).2 g (wi g λz=>hg ?_)
   show(if g=f then some u else mA g)=none
   rw[a6 q];exact z
theorem Inv.made (I:Inv X pins σ H s):Inv X pins σ (upd (upd H s.heap.objs.size<|.own<|s.heap.objs.size+1) (s.heap.objs.size+1)<|.ins C s.heap.objs.size [])
  {s with heap:=(s.heap.push emptyDict).push (instObj C s.heap.objs.size)}:=by
 have e1:(s.heap.push emptyDict).get? s.heap.objs.size=some emptyDict:=cA s.heap rfl;have e2:((s.heap.push emptyDict).push<|instObj C s.heap.objs.size).get? (s.heap.objs.size+1)=some (instObj C s.heap.objs.size):=by
  have:=cA (s.heap.push emptyDict) (o:=instObj C s.heap.objs.size) rfl
  rwa [jA]at this
 have e3:(s.heap.push emptyDict).Ns s.heap.objs.size (λ_=>none):=⟨emptyDict,#[],_,e1,rfl,(λe he=>absurd he af),λ_=>rfl⟩
 have I1:=I.laid (a:=s.heap.objs.size) (o:= .own (s.heap.objs.size+1)) (h':=s.heap.push emptyDict) (t':=s.toks) (λb u q=>aU _ q) (aF _) ⟨_,e1⟩
 refine I1.laid (a:=s.heap.objs.size+1) (o:= .ins C s.heap.objs.size []) (t':=s.toks) (λb u q=>aU _ q) (le_of_eq<|jA _ _) ?_
 have ne:s.heap.objs.size≠s.heap.objs.size+1:=bE (qG _);refine⟨by rw[cI ne,iU],dO _,ne,e2,λ_=>none,(Heap.Ns1.of_empty e3).at λo q=>aU _ q,λ_=>True.intro,λy hy=>absurd rfl hy⟩
theorem dI5 {env:Env}{f:Str}{s:Shared}(hb:attributeBase e f env (eval e env)=eval e env)
  (h:wpAny (model prog w) A (eval e env) (λo s₁=>wpAny (model prog w) A (getAttr o f true) Q E s₁) E s):wpAny (model prog w) A (eval (.Attribute e f pos) env) Q E s:=
 Attribute_any_ h (by rw[arm_eval_Attribute,hb])
end
def tFld (K:Frag)(ta:TE)(f:Str):TE:=λσ H Q=>ta σ H λx H1=> ∃a C dx fs v,x= .ref a/\H1 a=some (.ins C dx fs)/\Cls K C/\a64 K C f/\fs.lookup f=some v/\Q v H1
def cF2 (K:Frag)(ta tv:TE)(f:Str):TS:=λD σ H=>tv σ H λy H1=>ta σ H1 λx H2=> ∃a C dx fs,x= .ref a/\H2 a=some (.ins C dx fs)/\Cls K C/\a64 K C f/\fs.length<1000/\
 D.nx σ (upd H2 a<|.ins C dx<|uK f y fs)
section
variable {X:Cx}{o e value:Expr}{f:Str}{pos pos' tpos:Pos}{ta tv:TE}
theorem pe_fld (he:PE X e ta)(hb:attributeBase e f X.env (eval e X.env)=eval e X.env):PE X (.Attribute e f pos) (tFld X.K ta f):=by
 intro pins s σ H Q I h;refine dI5 hb (thn (he pins s σ H _ I h) λu s1 zz=> ?_)
 obtain⟨x,H1,I1,rx,a,C,dx,fs,v,ex,ea,c,n,l,q⟩:=zz;subst ex;obtain rfl:u=Value.ref a:=rx;exact cF0 I1 ea c n l λu' s2 I2 ru=>⟨v,H1,I2,ru,q⟩
theorem b84 (ha:PE X o ta)(hv:PE X value tv)(hs:swapsWith value (some<|.Attribute o f pos') pos.line X.env=pure false):PS X (.Assign [.Attribute o f pos'] value pos) (cF2 X.K ta tv f):=by
 intro pins s σ H D I h;refine aI0 (thn (hv pins s σ H _ I h) λu s1 ⟨y,H1,I1,ry,q⟩=>thn (ha pins s1 σ H1 _ I1 q) λov s2 zz=> ?_) hs
 obtain⟨x,H2,I2,rx,a,C,dx,fs,ex,ea,c,n,l,q2⟩:=zz;subst ex;obtain rfl:ov=Value.ref a:=rx;exact cF1 I2 ea c n l ry λs3 I3=>⟨σ,_,I3,q2⟩
end
structure gT (k:Nat)(A:Around):Prop where
 hd:A.handled=none
 dp:A.depth+3*k+5<recursionLimit
 un:A.units+16*k+200<cLine
theorem gT.mono (r:gT k A)(h:j<=k):gT j A:=⟨r.hd,by have:=r.dp;lia,by have:=r.un;lia⟩
theorem gT.deeper (r:gT (k+1) A)(env:Env):gT k (A.deeper env):=
 ⟨r.hd,by have:=r.dp;show A.depth+1+3*k+5<_;lia,by have:=r.un;show A.units+3+16*k+200<_;lia⟩
theorem cF3 :(A.under<|.builtin "type.__call__" ⟨.ref C::us,kw⟩).depth=A.depth+1:=by
 first|rfl|simp[Around.under,Code.weight,Code.isCreation,Code.isGuard,Code.isCaller,Code.frames,Code.isFrame,guardIds]
theorem cF4 :(A.under<|.builtin "type.__call__" ⟨.ref C::us,kw⟩).units=A.units+1:=by
 first|rfl|simp[Around.under,Code.cUnits,Code.frames,Code.isFrame]
theorem gT.make (r:gT (k+1) A)(C:Addr)(us:List Value)(kw:List (Str×Value)):gT k (A.under<|.builtin "type.__call__" ⟨.ref C::us,kw⟩):=
 ⟨r.hd,by have:=r.dp;rw[cF3];omega,by have:=r.un;rw[cF4];omega⟩
theorem gT.depth (r:gT k A):A.depth<recursionLimit:=by have:=r.dp;lia
theorem gT.units (r:gT k A):A.units+64<cLine:=by have:=r.un;lia
def tNil:TA:=λ_ H Q=>Q [] H
def tCons (ta:TE)(tr:TA):TA:=λσ H Q=>ta σ H λx H1=>tr σ H1 λxs H2=>Q (x::xs) H2
section
variable {X:Cx}{e:Expr}{es:List Expr}{te:TE}{t:TA}{pos:Pos}
theorem cF5:PA X [] tNil:=λ_ _ _ _ H Q I h=>Calls.spliced_nil ⟨[],H,I,.nil,h⟩
theorem bU0 (ha:PE X e te)(hr:PA X es t)(hs:↥(starEach (e::es) X.env=(false,eval e X.env)::starEach es X.env)):PA X (e::es) (tCons te t):=by
 intro pos pins s σ H Q I h;rw[hs];show wpAny _ _ (spliced ((false,eval e X.env)::backTo pos (starEach es X.env))) _ _ s;refine Calls.spliced_cons (thn (ha pins s σ H _ I h) λu s1 ⟨x,H1,I1,r1,q1⟩=> ?_)
 exact thn (hr pos pins s1 σ H1 _ I1 q1) λus s2 ⟨xs,H2,I2,r2,q2⟩=>⟨x::xs,H2,I2,.cons r1 r2,q2⟩
def tTup (t:TA):TE:=λσ H Q=>t σ H λxs H1=>xs.length<=sizeLine/\ ∀p,H1 p=none->Q (.ref p) (upd H1 p<|.tup xs)
def tLst (t:TA):TE:=λσ H Q=>t σ H λxs H1=>xs.length<=sizeLine/\ ∀p,H1 p=none->Q (.ref p) (upd H1 p<|.lst xs)
theorem pe_tup {x1}(h:PA X es t):PE X (.Tuple es x1 pos) (tTup t):=by
 intro pins s σ H Q I hq;refine wpAny_Tuple_spliced (thn (h pos pins s σ H _ I hq) λus s1 ⟨xs,H1,I1,r,z,q⟩=>⟨by rw[<-r.length];exact z,?_⟩)
 have hf:H1 s1.heap.objs.size=none:=I1.hok.fresh (aF _);refine⟨.ref s1.heap.objs.size,upd H1 s1.heap.objs.size<|.tup xs,I1.laid (t':=s1.toks) (λb u e=>aU _ e) (aF _) ?_,rfl,q _ hf⟩
 exact⟨z,us,r,⟨_,cA _ rfl,rfl,_,rfl⟩⟩
theorem pe_lst (h:PA X es t):PE X (.List es pos) (tLst t):=by
 intro pins s σ H Q I hq;refine wpAny_List_spliced (thn (h pos pins s σ H _ I hq) λus s1 ⟨xs,H1,I1,r,z,q⟩=>⟨by rw[<-r.length];exact z,?_⟩)
 have hf:H1 s1.heap.objs.size=none:=I1.hok.fresh (aF _);refine⟨.ref s1.heap.objs.size,upd H1 s1.heap.objs.size<|.lst xs,I1.laid (t':=s1.toks) (λb u e=>aU _ e) (aF _) ?_,rfl,q _ hf⟩
 exact⟨z,us,0,r,cA _ rfl⟩
end
abbrev Sp:=List V->Hp->VK->XK->Prop
abbrev CXT:=List Env->Hp->Shared->XK->Value->Shared->Prop
structure cF6 (P:Program)(w:World)(K:Frag)(mg:Str->Option Value)(base:Heap)(A:Around)(outer:List Env)(s:Shared)(H:Hp):Prop where
 frames:A.frames=some outer
 mod:Mod K mg base
 bs: ∀b o,base.get? b=some o->s.heap.get? b=some o/\H b=none
 bsz:base.objs.size<=s.heap.objs.size
 funs:s.heap.FunFrames base outer
 frf: ∀b∈frs outer,H b=none
 hok:HOk P w H s.heap
 bare:AllBare s.gens
def CE (outer:List Env)(P:Program)(w:World)(H:Hp)(s:Shared)(Q:VK)(u:Value)(s':Shared):Prop:=
 ∃v H',s'.os=s.os/\AllBare s'.gens/\Un (frs outer) [] H H' s.heap s'.heap/\HOk P w H' s'.heap/\RelV v u/\Q v H'
def CR (CX:CXT)(outer:List Env)(P:Program)(w:World)(H:Hp)(s:Shared)(Q:VK)(E:XK)(r:Result)(s':Shared):Prop:=
 match r with
 | .ok (.ret u)=>CE outer P w H s Q u s'
 | .ok _=>False
 | .error e=>CX outer H s E e s'
structure sC (P:Program)(w:World)(K:Frag)(mg:Str->Option Value)(base:Heap)(CX:CXT)(k:Nat)(f:Addr)(fd:FuncData)(ps:List Str)(sp:Sp):Prop where
 len: ∀vs H Q E,sp vs H Q E->vs.length=ps.length
 run: ∀(A:Around) (outer:List Env) (s:Shared) (H:Hp) (args:Args) (us:List Value) (vs:List V) (Q:VK) (E:XK),gT k A->cF6 P w K mg base A outer s H->BindsTo s fd args (ps.zip us)->Vals vs us->sp vs H Q E->
  codeAny (model P w) A (.call (.ref f) args) (CR CX outer P w H s Q E) s
theorem sC.mono {CX:CXT}{ps:List Str}{sp:Sp}(F:sC<$>CX j f fd ps sp)(h:j<=k) :
  sC P w K mg base CX k f fd ps sp:=⟨F.len,λA outer s H args us vs Q E hr=>F.run A outer s H args us vs Q E (hr.mono h)⟩
theorem cF6.make {H:Hp}(e:cF6<$>A outer s H)(C:Addr)(us:List Value)(kw:List (Str×Value)) :
  cF6 P w K mg base (A.under<|.builtin "type.__call__" ⟨.ref C::us,kw⟩) outer s H:=⟨by first|exact e.frames| (simpa[Around.under,Code.envs,Code.isFrame,pushEnvs]using e.frames),e.mod,e.bs,e.bsz,e.funs,e.frf,e.hok,e.bare⟩
section
variable {X:Cx}{pins:List (Addr×Obj)}{σ:St}{H:Hp}{s s':Shared}
theorem Inv.env0 (I:Inv X pins σ H s):cF6 X.prog X.w X.K X.mg X.base X.A X.stack s H:=
 ⟨I.ok.frames,I.ok.mod,I.bs,aG I.ok.bsz I.sz,I.stack,I.stkFree,I.hok,I.bare⟩
theorem Inv.after {Q:VK}(I:Inv X pins σ H s)(h:CE X.stack X.prog X.w H s Q u s'):EP X pins σ Q u s':=by
 obtain⟨v,H',os,bare,un,hok,r,q⟩:=h;obtain⟨hh,g,d,t,os'⟩:=s';obtain rfl:os'=s.os:=os;exact⟨v,H',I.call (h':=hh) (g':=g) (d':=d) (t':=t) (ch:=[]) un hok bare λb z=>absurd z af,r,q⟩
end
def d24 (sp:Sp)(dvs:List V)(E:XK)(t:TA):TE:=λσ H Q=>t σ H λvs H1=>sp (vs++dvs) H1 Q E
def cN2 (C:Addr)(sp:Sp)(dvs:List V)(E:XK)(t:TA):TE:=λσ H Q=>t σ H λvs H1=> ∀x dx,H1 x=none->H1 dx=none->dx≠x->
 sp (.ref x::(vs++dvs)) (upd (upd H1 dx<|.own x) x<|.ins C dx []) (λv H2=>v= .non/\Q (.ref x) H2) E
def Binds (K:Frag)(fd:FuncData)(ps:List Str)(ds:List Value):Prop:=
 ∀(s:Shared) (us:List Value),K.In s.heap->(us++ds).length=ps.length->BindsTo s fd ⟨us,[]⟩ (ps.zip<|us++ds)
theorem Binds.all {ps:List Str}(h: ∀us:List Value,us.length=ps.length->bindArgs fd ⟨us,[]⟩=pure (ps.zip us)):Binds K fd ps []:=λs us _ hl=>by
 rw[kA]at hl⊢;exact .of_eq (h us hl)
def wR (CX:CXT)(X:Cx)(E:XK):Prop:= ∀(pins:List (Addr×Obj)) (σ:St) (H:Hp) (s:Shared) (e:Value) (s':Shared),Inv X pins σ H s->CX X.stack H s E e s'->X.xe e s'
section
variable {X:Cx}{CX:CXT}{k:Nat}{f C:Addr}{fd:FuncData}{ps:List Str}{sp:Sp}{dvs:List V}{ds:List Value}{E:XK}{x m:Str}{p pos apos:Pos}{e o:Expr}{es:List Expr}{ta:TE}{t:TA}
theorem d25 {pins:List (Addr×Obj)}{σ:St}{H:Hp}{s:Shared}{Q:VK}{us:List Value}{vs:List V}(F:sC X.prog X.w X.K X.mg X.base CX k f fd ps sp)(hr:gT k X.A)(hb:Binds X.K fd ps ds)(hd:Vals dvs ds)(hx:wR CX X E)
  (I:Inv X pins σ H s) (r:Vals vs us) (h:sp (vs++dvs) H Q E):X∩(call (.ref f) us) (EP X pins σ Q) X.xe s:=by
 have r2:Vals (vs++dvs) (us++ds):=r.append hd;have hl:(us++ds).length=ps.length:=by rw[<-r2.length];exact F.len _ _ _ _ h
 refine uG (uE (F.run X.A X.stack s H ⟨us,[]⟩ (us++ds) (vs++dvs) Q E hr I.env0 (hb s us I.kIn hl) r2 h) λr s' hq=> ?_)
 cases r with
 | error e=>exact hx pins σ H s e s' I hq
 | ok fl=>
  cases fl with
  | ret u=>exact I.after hq
  | next=>exact False.elim hq
  | brk=>exact False.elim hq
  | cont=>exact False.elim hq
theorem cN3 (F:sC X.prog X.w X.K X.mg X.base CX k f fd ps sp)(hr:gT k X.A)(hg:Gl X x)(hm:X.mg x=some (.ref f))(hk:keepIn X.K (.ref f)=true)(hb:Binds X.K fd ps ds)(hd:Vals dvs ds)(hx:wR CX X E)
  (ha:PA X (e::es) t) (hdb:⇑(x∪0)) (he:↥(starEach (e::es) X.env=(false,eval e X.env)::starEach es X.env)) (hpl:↥((backTo pos<|starEach es X.env).any (·.1)=false)) :
  PE X (.Call (.Name x p) (e::es) [] pos) (d24 sp dvs E t):=by
 intro pins s σ H Q I h;refine qA (w8 I hg hm ?_ hdb);refine aK7 (h₀:=X.base) I.ok.mod.kin hk (thn (ha pos pins s σ H _ I h) λus s1 ⟨vs,H1,I1,r,q⟩=>⟨I1.kIn,?_⟩) he hpl
 exact d25 F hr hb hd hx I1 r q
theorem d26 (F:sC X.prog X.w X.K X.mg X.base CX k f fd ps sp)(hr:gT k X.A)(hg:Gl X x)(hm:X.mg x=some (.ref f))(hk:keepIn X.K (.ref f)=true)(hb:Binds X.K fd ps ds)(hd:Vals dvs ds)(hx:wR CX X E)
  (hdb:⇑(x∪0)):PE X (.Call (.Name x p) [] [] pos) (d24 sp dvs E tNil):=by
 intro pins s σ H Q I h;refine qA (w8 I hg hm ?_ hdb);exact PySem.W.callWith_K0 I.kIn hk (d25 (us:=[]) F hr hb hd hx I .nil h)
structure Mk (K:Frag)(C f:Addr):Prop where
 makes:makesIn K C=true
 init:findIn K (.ref C) "__init__"=some (some<|.ref f)
 fn:isFn K (.ref f)=true
 kp:keepIn K (.ref C)=true
theorem d27 {pins:List (Addr×Obj)}{σ:St}{H:Hp}{s:Shared}{Q:VK}{us:List Value}{vs:List V}(M:Mk X.K C f)(F:sC X.prog X.w X.K X.mg X.base CX k f fd ps sp)(hr:gT (k+1) X.A)(hb:Binds X.K fd ps ds)(hd:Vals dvs ds)
  (hx:wR CX X E) (I:Inv X pins σ H s) (r:Vals vs us)
  (h: ∀x dx,H x=none->H dx=none->dx≠x->sp (.ref x::(vs++dvs)) (upd (upd H dx<|.own x) x<|.ins C dx []) (λv H2=>v= .non/\Q (.ref x) H2) E) :
  X∩(call (.ref C) us) (EP X pins σ Q) X.xe s:=by
 have hq:=h (s.heap.objs.size+1) s.heap.objs.size (I.hok.fresh<|uF _) (I.hok.fresh<|aF _) (bE<|qG _);have I2:=Inv.made (C:=C) I;have r2:Vals (V.ref (s.heap.objs.size+1)::(vs++dvs)) (Value.ref (s.heap.objs.size+1)::(us++ds)):= .cons rfl (r.append hd);have hl:(Value.ref (s.heap.objs.size+1)::us++ds).length=ps.length:=by
  have e:=r2.length;rw[F.len _ _ _ _ hq]at e;exact e.symm
 refine uG (c32 (f:=f) I.kIn M.makes M.init (eH.mp M.fn) (uE (F.run _ X.stack _ _ ⟨Value.ref (s.heap.objs.size+1)::us,[]⟩ (Value.ref (s.heap.objs.size+1)::(us++ds)) _ _ E (hr.make C us [])
  (I2.env0.make C us []) (hb _ (Value.ref (s.heap.objs.size+1)::us) I2.kIn hl) r2 hq) λr s' hq'=> ?_))
 cases r with
 | error e=>exact hx pins σ _ _ e s' I2 hq'
 | ok fl=>
  cases fl with
  | ret u=>
   obtain⟨v,H',I3,rv,ev,q3⟩:=I2.after hq';subst ev;exact⟨rv,⟨V.ref<|s.heap.objs.size+1,H',I3,rfl,q3⟩⟩
  | next=>exact False.elim hq'
  | brk=>exact False.elim hq'
  | cont=>exact False.elim hq'
theorem dI6 (M:Mk X.K C f)(F:sC X.prog X.w X.K X.mg X.base CX k f fd ps sp)(hr:gT (k+1) X.A)(hg:Gl X x)(hm:X.mg x=some (.ref C))(hb:Binds X.K fd ps ds)(hd:Vals dvs ds)(hx:wR CX X E)
  (ha:PA X (e::es) t) (hdb:⇑(x∪0)) (he:↥(starEach (e::es) X.env=(false,eval e X.env)::starEach es X.env)) (hpl:↥((backTo pos<|starEach es X.env).any (·.1)=false)) :
  PE X (.Call (.Name x p) (e::es) [] pos) (cN2 C sp dvs E t):=by
 intro pins s σ H Q I h;refine qA (w8 I hg hm ?_ hdb);refine aK7 (h₀:=X.base) I.ok.mod.kin M.kp (thn (ha pos pins s σ H _ I h) λus s1 ⟨vs,H1,I1,r,q⟩=>⟨I1.kIn,?_⟩) he hpl
 exact d27 M F hr hb hd hx I1 r q
end
section
variable {X:Cx}{CX:CXT}{k:Nat}{f C:Addr}{fd:FuncData}{ps ks:List Str}{sp:Sp}{E:XK}{x m:Str}{p pos apos kpos:Pos}{e o:Expr}{es:List Expr}{kws:List Keyword}{te ta:TE}{t tk:TA}{nm:Option Str}
variable {g:List Value->List Value->List Value}{gV:List V->List V->List V}
end
structure aW (N P:List Str)(sc:Scope):Prop where
 kind:sc.kind= .function
 co:sc.isCoroutine=false
 gen:sc.isGenerator=false
 nd:N.Nodup
 pre:N.take P.length=P
 par: ∀x∈P,sc.names.lookup x=some .local\/sc.names.lookup x=some .cell
 nofree: ∀y∈sc.names,y.2≠ .free
theorem bN8 {kindOf:Str->Option NameKind}{x:Str}: ∀{binds:List (Str×Value)} {m:Str->Option Value},(∀v,(x,v) ∉ binds)->bindL kindOf binds m x=m x
 | [],_,_=>rfl
 | (n,v)::r,m,h=>by
  unfold bindL;rw[bN8 λw hw=>h w (fB _ hw)]
  split
  .have:x≠n:=by rintro rfl;exact h v lD
   simp[this]
  .rfl
theorem bN9 {kindOf:Str->Option NameKind}{x:Str}: ∀{binds:List (Str×Value)} {m:Str->Option Value},(∀v,(x,v) ∉ binds)->bindC kindOf binds m x=m x
 | [],_,_=>rfl
 | (n,v)::r,m,h=>by
  unfold bindC;rw[bN9 λw hw=>h w (fB _ hw)]
  split
  .rfl
  .have:x≠n:=by rintro rfl;exact h v lD
   simp[this]
theorem bO0 {kindOf:Str->Option NameKind}{x:Str}{v:Value}: ∀{P:List Str} {vs:List Value} {i:Nat} {m:Str->Option Value},P.Nodup->P[i]? =some x->vs[i]? =some v->kindOf x=some .local->
  bindL kindOf (P.zip vs) m x=some v
 | [],_,_,_,_,h,_,_=>by simp at h
 | _::_,[],_,_,_,_,h,_=>by simp at h
 | p::P,w::vs,0,m,nd,h1,h2,hk=>by
  simp at h1 h2;subst h1;subst h2
  show bindL kindOf ((p,w)::P.zip vs) m p=_
  unfold bindL;rw[bN8 λv hv=>(zM.mp nd).1 (zN hv).1,a8 hk]
  simp
 | p::P,w::vs,i+1,m,nd,h1,h2,hk=>by
  show bindL kindOf ((p,w)::P.zip vs) m x=_
  unfold bindL;exact bO0 (i:=i) (zM.mp nd).2 (by exists h1) (by exists h2) hk
theorem bO1 {kindOf:Str->Option NameKind}{x:Str}{v:Value}: ∀{P:List Str} {vs:List Value} {i:Nat} {m:Str->Option Value},P.Nodup->P[i]? =some x->vs[i]? =some v->kindOf x≠some .local->
  bindC kindOf (P.zip vs) m x=some v
 | [],_,_,_,_,h,_,_=>by simp at h
 | _::_,[],_,_,_,_,h,_=>by simp at h
 | p::P,w::vs,0,m,nd,h1,h2,hk=>by
  simp at h1 h2;subst h1;subst h2
  show bindC kindOf ((p,w)::P.zip vs) m p=_
  unfold bindC;rw[bN9 λv hv=>(zM.mp nd).1 (zN hv).1,a6 hk]
  simp
 | p::P,w::vs,i+1,m,nd,h1,h2,hk=>by
  show bindC kindOf ((p,w)::P.zip vs) m x=_
  unfold bindC;exact bO1 (i:=i) (zM.mp nd).2 (by exists h1) (by exists h2) hk
nonrec def start (N:List Str)(vs:List V):St:=vs.map some++replicate (N.length-vs.length) none
nonrec def t9 (CX:CXT)(P:Program)(w:World)(K:Frag)(mg:Str->Option Value)(base:Heap)(N:List Str)(qual:Str)(scope:Scope)(f:Addr)(cd:Value)(A:Around)(outer:List Env)(s:Shared)(H:Hp)(E:XK):Cx where
 prog:=P
 w:=w
 K:=K
 mg:=mg
 base:=base
 A:=A.deeper (envOfC qual scope s.heap.objs.size f cd)
 N:=N
 s₀:=s
 H₀:=H
 env:=envOfC qual scope s.heap.objs.size f cd
 outer:=outer
 stack:=envOfC qual scope s.heap.objs.size f cd::outer
 ex:=[]
 calm:=true
 fn:=λ_=>true
 pn:=[]
 xe:=λe s'=>wpAny (model P w) (A.deeper<|envOfC qual scope s.heap.objs.size f cd) (leaving (envOfC qual scope s.heap.objs.size f cd) e) (λ_ s''=>CX outer H s E e s'') (λe' s''=>CX outer H s E e' s'') s'
theorem c33 {sc:Scope}(h:sc.names.lookup x=some .cell): ∃c,(cellsFrom n sc.names []).lookup x=some c:=by
 have q:=aJ1 sc.names n [] (.inl h);exact Option.isSome_iff_exists.mp q
theorem bO2 {CX:CXT}{ps:List Str}{cd:Value}{s1:Shared}{H:Hp}{E:XK}{vs:List V}
  (S:aW N ps scope) (hd:A.handled=none) (e0:cF6<$>A outer s H) (hl:vs.length=ps.length) (r:Vals vs us)
  (x:InCallC s s.heap.objs.size (bindL (envOfC qual scope s.heap.objs.size f cd).kindOf (ps.zip us) λ_=>none) (cellsFrom (s.heap.objs.size+1) scope.names []) (bindC (envOfC qual scope s.heap.objs.size f cd).kindOf (ps.zip us) λ_=>none) s1) :
  Inv (t9 CX P w K mg base N qual scope f cd A outer s H E) [] (start N vs) H s1:=by
 have hpl:ps.length<=N.length:=by have:=cR length S.pre;rw[lJ]at this;lia
 obtain⟨h1,tk,rfl,hk⟩:=x.done;have noA: ∀b:Addr,b ∉ (t9 CX P w K mg base N qual scope f cd A outer s H E).ex:=λb z=>absurd (show b∈([]:List Addr)from z) af
 refine⟨⟨e0.mod,S.kind,rfl,rfl,aF _,λy z c h1 h2=> ?_,λy hy=> ?_,λy c _ h=> ?_,λ_=>hd,Around.frames_deeper e0.frames,.inr ⟨rfl,rfl⟩,λb z=>absurd z (noA b),e0.bs,e0.bsz,λb _ _=>noA b,λb z=>absurd z (noA b),e0.funs,e0.frf⟩,
  rfl,e0.bare,Un.kept hk,⟨_,x.toInCall.ns,λi y v h1 h2 h3=> ?_⟩,λy c h=>⟨_,x.cell y c h⟩,e0.hok.fresh<|aF _,λy c h=> ?_,λp hp=>absurd (show p∈([]:List (Addr×Obj))from hp) af,e0.hok.kept hk,?_⟩
 .exact name_of_addr x.apart (pZ h1) (pZ h2)
 .have hy:scope.names.lookup y=some .cell\/scope.names.lookup y=some .free:=hy;rcases hy with hy|hy
  .exact c33 hy
  .exact absurd rfl (S.nofree _<|pZ hy)
 .exact qK (x.above y c<|pZ h)
 .have hi:i<vs.length:=by
   unfold start at h2
   by_cases hi:i<vs.length
   .exact hi
   .rw[tT<|by simpa using hi]at h2
    rw[yY]at h2;split at h2<;>cases h2
  have ha:vs[i]? =some v:=by
   unfold start at h2;rw[yV<|by simpa using hi,bG]at h2
   cases e:vs[i]? with
   | none=>rw[e]at h2;cases h2
   | some a=>rw[e]at h2;cases h2;rfl
  obtain⟨u,hu,rv⟩:=r.get ha;have hp:ps[i]? =some y:=by
   rw[<-S.pre,List.getElem?_take_of_lt ae];exact h1
  have ndP:ps.Nodup:=by rw[<-S.pre];exact S.nd.sublist (List.take_sublist _ _)
  refine⟨u,rv,?_⟩
  rcases S.par y (aJ8 hp)with k|k
  .exact .inl ⟨k,bO0 ndP hp hu k⟩
  .obtain⟨c,e⟩:=c33 (n:=s.heap.objs.size+1) k;refine .inr ⟨.inl k,c,e,?_⟩;have q:=x.cell y c e;rw[bO1 ndP hp hu (by show scope.names.lookup y≠_;rw[k];decide)]at q
   exact q
 .exact e0.hok.fresh (qK<|x.above y c<|pZ h)
 .unfold start;show _=N.length;rw[cM,aH,l7]
  lia
theorem cN4 {CX:CXT}{P:Program}{w:World}{K:Frag}{mg:Str->Option Value}{base:Heap}{k:Nat}{f:Addr}{name qual:Str}{params:Arguments}{body:List Stmt}{scope:Scope}{dV kV doc pm cdv ct oc:Value}{an od:Option Addr}
  {osl:Array (Option Value)} {N ps:List Str} {sp:Sp} (lk:K.lookup f=some ⟨oc,od,.func<|fnOf name qual params body scope dV kV doc pm an cdv ct,osl⟩) (hcd:codeIn K cdv qual=true) (S:aW N ps scope)
  (len: ∀vs H Q E,sp vs H Q E->vs.length=ps.length)
  (hbody: ∀(A:Around) (outer:List Env) (s:Shared) (H:Hp) (vs:List V) (Q:VK) (E:XK),gT k (A.deeper<|envOfC qual scope s.heap.objs.size f cdv)->sp vs H Q E->
   ∃t,PSs (t9 CX P w K mg base N qual scope f cdv A outer s H E) body t/\t {nx:=λ_ H'=>Q .non H',rt:=Q} (start N vs) H) :
  sC P w K mg base CX (k+1) f (fnOf name qual params body scope dV kV doc pm an cdv ct) ps sp:=by
 refine⟨len,λA outer s H args us vs Q E hr e0 hb r hsp=> ?_⟩
 have hl:=len _ _ _ _ hsp;have KX:K.In s.heap:=e0.mod.kin.keeps λb o e=>(e0.bs b o e).1
 have lim:s.heap.NoLimit:=e0.mod.nolimit.keeps λb o e=>(e0.bs b o e).1
 have hkind: ∀y∈ps.zip us,scope.names.lookup y.1=some .local\/(scope.names.lookup y.1=some .cell/\((cellsFrom (s.heap.objs.size+1) scope.names []).lookup y.1).isSome=true):=λ⟨n,v⟩ hy=>by
  rcases S.par n (zN hy).1 with q|q
  .exact .inl q
  .exact .inr ⟨q,aJ1 _ _ _<|.inl q⟩
 refine codeAny_call_function hr.depth (KX _ _ lk) rfl S.co S.gen rfl (PySem.W.codeRec_of KX hcd) (hb _ _ _ _ ?_)
 refine wpAny_newFunctionEnv_cells S.kind hkind λenv he s1 x=> ?_
 subst he;refine⟨lim.keeps x.toInCall.keep,codeAny_func ?_⟩;obtain⟨t,ht,hq⟩:=hbody A outer s H vs Q E (hr.deeper _) hsp;have I:Inv (t9 CX P w K mg base N qual scope f cdv A outer s H E) [] (start N vs) H s1:=bO2 S hr.hd e0 hl r x;refine bU (ht [] s1 (start N vs) H _ I hq) (λfl s' hs=> ?_) λe s' hs=>hs
 have fin: ∀{σ':St} {H':Hp} {v:V} {u:Value},Inv (t9 CX P w K mg base N qual scope f cdv A outer s H E) [] σ' H' s'->RelV v u->Q v H'->CE outer P w H s Q u s':=
  λ{σ' H' v u} J rv q=>⟨v,H',J.os,J.bare,J.base,J.hok,rv,q⟩
 cases fl with
 | ret u=>
  obtain⟨v,σ',H',J,rv,q⟩:=hs;exact fin J rv q
 | next=>
  obtain⟨σ',H',J,q⟩:=hs;exact fin (v:=V.non) (u:=Value.none) J rfl q
 | brk=>
  obtain⟨_,_,_,q⟩:=hs;exact False.elim q
 | cont=>
  obtain⟨_,_,_,q⟩:=hs;exact False.elim q
section
variable {X:Cx}{x:Str}{p pos:Pos}{e:Expr}{es:List Expr}{t:TA}{id T:String}{r:List V->Hp->VK->Prop}
def tCB (r:List V->Hp->VK->Prop)(t:TA):TE:=λσ H Q=>t σ H λvs H1=>r vs H1 Q
theorem c34 (hc:oV X (.builtin id) r)(hg:Gl X x)(hm:X.mg x=none)(hv:bootBuiltins x=some (.builtin id))(ha:PA X (e::es) t)(hn:⇑(x≠"__name__"))(hdb:⇑(x∪0))
  (he:↥(starEach (e::es) X.env=(false,eval e X.env)::starEach es X.env)) (hpl:↥((backTo pos<|starEach es X.env).any (·.1)=false)):PE X (.Call (.Name x p) (e::es) [] pos) (tCB r t):=by
 intro pins s σ H Q I h;refine qA (uI I hg hm hv ?_ hn hdb);exact PyProof.Rows.callWith_builtin1 (thn (ha pos pins s σ H _ I h) λus s1 ⟨vs,H1,I1,r1,q1⟩=>hc pins s1 σ H1 vs us Q I1 r1 q1) he hpl
theorem cV0 (hc:oV X (.type T) r)(hg:Gl X x)(hm:X.mg x=none)(hv:bootBuiltins x=some (.type T))(ha:PA X (e::es) t)(hn:⇑(x≠"__name__"))(hdb:⇑(x∪0))
  (he:↥(starEach (e::es) X.env=(false,eval e X.env)::starEach es X.env)) (hpl:↥((backTo pos<|starEach es X.env).any (·.1)=false)):PE X (.Call (.Name x p) (e::es) [] pos) (tCB r t):=by
 intro pins s σ H Q I h;refine qA (uI I hg hm hv ?_ hn hdb);exact jW (thn (ha pos pins s σ H _ I h) λus s1 ⟨vs,H1,I1,r1,q1⟩=>hc pins s1 σ H1 vs us Q I1 r1 q1) he hpl
end
end L2
namespace HT
open PySem PyProof.Rows
section
open PySem.SeqAt
open PySem.AutoSeq1 (wpAny_loadPart')
open PySem.MeetsSeq PySem.MeetsSeq2 PySem.MeetsSeq3
end
section
variable {prog:Program}{w:World}{A:Around}{E:Value->Shared->Prop}{s:Shared}
theorem cat_tup {vs ws:List Value}(ht:IsTup s.heap t vs.toArray)(hb:IsTup s.heap b ws.toArray)(hv:vs≠[])
  (h1:ws=[]->Q (.ref t) s) (h2:ws≠[]->Q (.ref s.heap.objs.size) {s with heap:=s.heap.push {cls:= .type "tuple",data:= .seq (vs++ws).toArray}})
  (hsz:vs.length+ws.length<=sizeLine):wpAny (model prog w) A (binaryOp .Add (.ref t)<|.ref b) Q E s:=by
 obtain⟨⟨cls,dd,data,sl⟩,ho,hc,n,hd⟩:=id ht;obtain⟨⟨cls2,dd2,data2,sl2⟩,ho2,hc2,n2,hd2⟩:=id hb;simp only at hc hd hc2 hd2;subst hc hd hc2 hd2;have e:vs.toArray++ws.toArray=(vs++ws).toArray:=af
 by_cases hw:ws=[]
 .exact concat_meets ⟨_,ho,rfl⟩ ⟨_,ho2,rfl⟩ aL5 seq_tuple_add aJ2 aI7 (aI3 _ _)
   (tuple_addW1 t b vs.toArray ws.toArray n n2 dd dd2 sl sl2 (by exists hv)<|by simp[hw]) ⟨ho,ho2,h1 hw⟩
 .refine concat_meets ⟨_,ho,rfl⟩ ⟨_,ho2,rfl⟩ aL5 seq_tuple_add aJ2 aI7 (aI3 _ _)
   (tuple_addW2 t b vs.toArray ws.toArray n n2 dd dd2 sl sl2 (by exists hv) (by exists hw) (by rw[bB,bB];exact hsz)) ⟨ho,ho2,?_⟩
  rw[e];exact h2 hw
nonrec def sIx (n d:Nat):Option Int->Nat
 | none=>d
 | some v=>if v<0 then(v+(n:Int)).toNat else min v.toNat n
theorem sIx_none (n d:Nat):sIx n d none=d:=rfl
theorem sIx_nat (n d k:Nat):sIx n d (some (k:Int))=min k n:=by
 show(if(k:Int)<0 then((k:Int)+(n:Int)).toNat else min (k:Int).toNat n)=min k n
 rw[a6 ae,bV]
theorem sIx_le (n d:Nat)(hd:d<=n)(o:Option Int):sIx n d o<=n:=by
 cases o with
 | none=>exact hd
 | some v=>
  show(if v<0 then(v+(n:Int)).toNat else min v.toNat n)<=n
  by_cases hv:v<0
  .rw[a8 hv];lia
  .rw[a6 hv];exact Nat.min_le_right _ _
theorem cN5 (v:Int)(n d:Nat):(if v<0 then max (v+(n:Int)) 0 else min v (n:Int))=((sIx n d (some v):Nat):Int):=by
 show(if v<0 then max (v+(n:Int)) 0 else min v (n:Int))=(((if v<0 then(v+(n:Int)).toNat else min v.toNat n):Nat):Int)
 by_cases hv:v<0
 .simp only[a8 hv];lia
 .simp only[a6 hv];lia
theorem cF7 (lo hi:Option Int)(n:Nat):Builtin.Slice.sliceAdjust lo hi 1 (n:Int)=(((sIx n 0 lo:Nat):Int),((sIx n n hi:Nat):Int)):=by
 have h1: ¬((1:Int)<0):=ae
 unfold Builtin.Slice.sliceAdjust;simp only[h1,fS];refine kJ ?_ ?_
 .cases lo with
  | none=>rfl
  | some v=>exact cN5 v n 0
 .cases hi with
  | none=>rfl
  | some v=>exact cN5 v n n
theorem cF8 (i j:Nat):Builtin.Slice.slicePlaces (i:Int) (j:Int) 1=j-i:=by
 unfold Builtin.Slice.slicePlaces;have h1:(1:Int)>0:=ae
 simp only[h1,dR,Int.ediv_one];split<;>lia
theorem b85 {o:Option Int}{Q:Option Int->Shared->Prop}(p:IsPart v o)(h:Q o s):wpAny (model prog w) A (Builtin.Slice.slicePartIndex v) Q E s:=by
 cases p with
 | none=>exact slicePart_none h
 | int i t=>exact slicePart_int h
theorem yB {lo:Option Int}{Q:Int×Int×Nat->Shared->Prop}(hs:s.heap.IsSliceOf sl vl vu .none)(pl:IsPart vl lo)(pu:IsPart vu hi)
  (h:Q (((sIx n 0 lo:Nat):Int),1,sIx n n hi-sIx n 0 lo) s):wpAny (model prog w) A (Builtin.Slice.sliceApplied (.ref sl)<|pure (n:Int)) Q E s:=by
 obtain⟨os,hos,hcs,hds⟩:=id hs;unfold Builtin.Slice.sliceApplied Builtin.Slice.sliceFields;refine a9 (a9<|cW hos hds (x:=vl) rfl (a9<|cW hos hds (x:=vu) rfl (a9<|cW hos hds (x:= .none) rfl (aL ?_))));refine a9 (slicePart_none ?_);show wpAny _ _ (if((1:Int)==0)=true then _ else _) _ _ s;rw[a6 ac]
 refine a9 (b85 pl<|a9<|b85 pu<|a9<|aL ?_)
 show wpAny _ _ (match Builtin.Slice.sliceAdjust lo hi 1 (n:Int)with| (lo,hi)=>pure (lo,(1:Int),Builtin.Slice.slicePlaces lo hi 1)) _ _ s
 rw[cF7 lo hi n];show wpAny _ _ (pure (((sIx n 0 lo:Nat):Int),(1:Int),Builtin.Slice.slicePlaces ((sIx n 0 lo:Nat):Int) ((sIx n n hi:Nat):Int) 1)) _ _ s;rw[cF8];exact aL h
theorem d28 (xs:Array Value)(i k:Nat):((List.range k).filterMap fun(m:Nat)=>xs[((i:Int)+(m:Int)*1).toNat]?).toArray=((xs.toList.drop i).take k).toArray:=by
 have e:(fun(m:Nat)=>xs[((i:Int)+(m:Int)*1).toNat]?)=λm=>xs[i+m]? :=by
  funext m
  have:((i:Int)+(m:Int)*1).toNat=i+m:=ae
  rw[this]
 rw[e];have:=pick_run xs i k;rw[List.filterMap_map]at this;have e2:((λx=>xs[x]?)∘λx=>i+x)=λm=>xs[i+m]? :=rfl
 rw[e2]at this;rw[this]
theorem getItem_tuple_cut {lo:Option Int}(ht:IsTup s.heap t items)(hs:s.heap.IsSliceOf sl vl vu .none)(pl:IsPart vl lo)(pu:IsPart vu hi)
  (hw: ¬(sIx items.size 0 lo=0/\sIx items.size items.size hi=items.size))
  (h:Q (.ref s.heap.objs.size) {s with heap:=s.heap.push {cls:= .type "tuple",data:= .seq ((items.toList.drop<|sIx items.size 0 lo).take<|sIx items.size items.size hi-sIx items.size 0 lo).toArray}})
  (hsz:items.size<=sizeLine):wpAny (model prog w) A (getItem (.ref t)<|.ref sl) Q E s:=by
 have htake:sizeOk (.seq ((items.toList.drop<|sIx items.size 0 lo).take<|sIx items.size items.size hi-sIx items.size 0 lo).toArray):=by
  show((items.toList.drop<|sIx items.size 0 lo).take<|sIx items.size items.size hi-sIx items.size 0 lo).toArray.size<=sizeLine
  rw[bB,lJ,qH,aK4];omega
 have hj:sIx items.size items.size hi<=items.size:=sIx_le _ _ (aF _) hi;obtain⟨os,hos,hcs,hds⟩:=id hs;have hTs:s.TypeIs (.ref sl) "slice":=⟨os,hos,hcs⟩;unfold getItem;try with_reducible refine jB ?_
 first|refine a9 (aL ?_)|skip
 refine a9 (wpAny_sequenceKey ht.typeIs ac ?_)
 refine a9 (kZ (name:=Str.ofString "__getitem__") ht.typeIs yT
  (j8 yT ht.typeIs entry_tuple_getitem ?_<|args_tuple_getitem _ _))
 show wpAny _ _ (Builtin.Tuple.tupleItemsOf (.ref t) >>= _) _ _ s
 refine a9 (tupleItemsOf_ ht ?_)
 refine a9 (zU hTs ?_)
 rw[a8 ac]
 refine a9 (yB hs pl pu ?_)
 have hno: ¬((((sIx items.size 0 lo:Nat):Int)==0&&(1:Int)==1&&(sIx items.size items.size hi-sIx items.size 0 lo)==items.size)=true):=by
  intro q;rw[dZ,dZ]at q;have q1:((sIx items.size 0 lo:Nat):Int)=0:=eq_of_beq q.1.1;have q2:sIx items.size items.size hi-sIx items.size 0 lo=items.size:=eq_of_beq q.2;exact hw ⟨aa,aa⟩
 show wpAny _ _ (if(((sIx items.size 0 lo:Nat):Int)==0&&(1:Int)==1&&(sIx items.size items.size hi-sIx items.size 0 lo)==items.size)=true then _ else _) _ _ s
 rw[a6 hno,d28]
 first
  | exact a9 (m:=Builtin.Tuple.tupleExact _) (k7 (aL ⟨_,rfl,aL h⟩) htake)
  | exact a9 (m:=Builtin.Tuple.tupleExact _) (k7 (a9<|aL<|aL ⟨_,rfl,aL h⟩) htake)
  | exact a9 (a9 (m:=Builtin.Tuple.tupleExact _)<|k7 (aL<|aL ⟨_,rfl,aL h⟩) htake)
  | exact a9 (a9 (m:=Builtin.Tuple.tupleExact _)<|k7 (aL ⟨_,rfl,aL h⟩) htake)
end
end HT
namespace L2
abbrev TO:=St->Hp->(Option Int->Hp->Prop)->Prop
def PO (X:Cx)(e:Option Expr)(t:TO):Prop:=
 ∀(pins:List (Addr×Obj)) (s:Shared) (σ:St) (H:Hp) (Q:Option Int->Hp->Prop),Inv X pins σ H s->t σ H Q->
  X∩(evalPart e X.env) (λu s'=> ∃o H',Inv X pins σ H' s'/\IsPart u o/\Q o H') X.xe s
def dI7:TO:=λ_ H Q=>Q none H
def tPart (t:TE):TO:=λσ H Q=>t σ H λx H1=> ∃i,x= .int i/\Q (some i) H1
theorem intsAre_of {ns:List Int}: ∀{us:List Value},Vals (ns.map V.int) us->IntsAre us ns:=by
 induction ns with
 | nil=>intro us r;rw[kF]at r;cases r;exact .nil
 | cons n ns ih=>
  intro us r;rw[cN]at r;cases r with
  | cons r1 r2=>
   obtain⟨t,e⟩:=r1;subst e;exact .cons n t (ih r2)
section
variable {X:Cx}{e:Expr}{te:TE}{lo hi:Option Expr}{tl th:TO}{pos p2:Pos}
theorem dI8:PO X none dI7:=by
 intro pins s σ H Q I h;rw[evalPart_none];exact aL ⟨none,H,I,.none,h⟩
theorem cN6 (h:PE X e te):PO X (some e) (tPart te):=by
 intro pins s σ H Q I hw;rw[evalPart_some];refine thn (h pins s σ H _ I hw) λu s1 ⟨x,H1,I1,r1,q1⟩=> ?_
 obtain⟨i,rfl,q⟩:=q1;obtain⟨t,rfl⟩:=r1;exact⟨some i,H1,I1,.int i t,q⟩
def SlR (X:Cx)(r:V->Option Int->Option Int->Hp->VK->Prop):Prop:=
 ∀(pins:List (Addr×Obj)) (s:Shared) (σ:St) (H:Hp) (x:V) (v vl vu:Value) (lo hi:Option Int) (sl:Addr) (Q:VK),Inv X pins σ H s->RelV x v->s.heap.IsSliceOf sl vl vu .none->IsPart vl lo->IsPart vu hi->r x lo hi H Q->
  ∃T id,typeLookup (.type T) "__getitem__"=pure (some<|.builtin id)/\s.TypeIs v T/\X∩(getItem v<|.ref sl) (EP X pins σ Q) X.xe s
theorem SlR.or {r r':V->Option Int->Option Int->Hp->VK->Prop}(h:SlR X r)(h':SlR X r'):SlR X (λx lo hi H Q=>r x lo hi H Q\/r' x lo hi H Q):=by
 intro pins s σ H x v vl vu lo hi sl Q I rx hs pl pu q;rcases q with q|q
 .exact h pins s σ H x v vl vu lo hi sl Q I rx hs pl pu q
 .exact h' pins s σ H x v vl vu lo hi sl Q I rx hs pl pu q
def tSl (r:V->Option Int->Option Int->Hp->VK->Prop)(te:TE)(tl th:TO):TE:=λσ H Q=>te σ H λx H1=>tl σ H1 λl H2=>th σ H2 λu H3=>r x l u H3 Q
theorem c35 {r:V->Option Int->Option Int->Hp->VK->Prop}(hr:SlR X r)(he:PE X e te)(hl:PO X lo tl)(hu:PO X hi th):PE X (.Subscript e (.Slice lo hi none p2) pos) (tSl r te tl th):=by
 intro pins s σ H Q I h;refine Subscript_ (thn (he pins s σ H _ I h) λv s1 ⟨x,H1,I1,r1,q1⟩=> ?_)
 refine wpAny_Slice (thn (hl pins s1 σ H1 _ I1 q1) λvl s2 ⟨l,H2,I2,pl,q2⟩=>thn (hu pins s2 σ H2 _ I2 q2) λvu s3 ⟨u,H3,I3,pu,q3⟩=> ?_)
 rw[evalPart_none];refine aL ?_;have I4:Inv X pins σ H3 {s3 with heap:=s3.heap.push {cls:= .type "slice",data:= .fields #[vl,vu,.none]}}:=I3.kept (t':=s3.toks) λb ob q=>aU _ q
 obtain⟨T,id,hT,ht,hg⟩:=hr pins {s3 with heap:=s3.heap.push {cls:= .type "slice",data:= .fields #[vl,vu,.none]}} σ H3 x v vl vu l u s3.heap.objs.size Q I4 r1 (Heap.IsSliceOf.new ..) pl pu q3;show X∩(subscriptTail e (.Slice lo hi none p2) v<|.ref s3.heap.objs.size) (EP X pins σ Q) X.xe {s3 with heap:=s3.heap.push {cls:= .type "slice",data:= .fields #[vl,vu,.none]}}
 exact tail_any (ops:=[.ref s3.heap.objs.size,v]) ht hT hg (by with_unfolding_all rfl)
nonrec def c36 (xs:List V)(lo hi:Option Int):List V:=(xs.drop<|HT.sIx xs.length 0 lo).take (HT.sIx xs.length xs.length hi-HT.sIx xs.length 0 lo)
theorem b09 (xs:List V)(lo hi:Option Int):(c36 xs lo hi).length<=xs.length:=by
 unfold c36;rw[lJ,qH]
 lia
nonrec def rSlT (K:Frag):V->Option Int->Option Int->Hp->VK->Prop:=λx lo hi H Q=> ∃a xs,x= .ref a/\SqT K H a xs/\
 ¬(HT.sIx xs.length 0 lo=0/\HT.sIx xs.length xs.length hi=xs.length)/\ ∀p,H p=none->Q (.ref p) (upd H p<|.tup<|c36 xs lo hi)
theorem d29:SlR X (rSlT X.K):=by
 intro pins s σ H x v vl vu lo hi sl Q I rx hs pl pu h;obtain⟨a,xs,rfl,hx,hw,q⟩:=h;cases rx;obtain⟨its,r,ht,hz⟩:=I.tuple hx;have hlen:its.toArray.size=xs.length:=by rw[bB];exact r.length.symm
 refine⟨"tuple",_,PyProof.Rows.slot_tuple_getitem.lookup,ht.typeIs,?_⟩
 refine HT.getItem_tuple_cut ht hs pl pu (by rw[hlen];exact hw) ?_ (by rw[hlen];exact hz)
 rw[hlen];refine⟨.ref s.heap.objs.size,_,I.laid (t':=s.toks) (o:= .tup (c36 xs lo hi)) (λb ob q=>aU _ q) (aF _) ?_,rfl,q _<|I.hok.fresh<|aF _⟩
 exact⟨aG (b09 xs lo hi) hz,_,(r.drop<|HT.sIx xs.length 0 lo).take<|HT.sIx xs.length xs.length hi-HT.sIx xs.length 0 lo,uH _ _⟩
nonrec def rCatT (K:Frag):R2:=λx y H Q=> ∃a b xs ys,x= .ref a/\y= .ref b/\SqT K H a xs/\SqT K H b ys/\xs≠[]/\xs.length+ys.length<=sizeLine/\
 (ys=[]->Q (.ref a) H)/\(ys≠[]-> ∀p,H p=none->Q (.ref p) (upd H p<|.tup<|xs++ys))
theorem Vals.nil_iff {xs:List V}(r:Vals xs us):us=[]↔xs=[]:=by
 cases r with
 | nil=>simp
 | cons _ _=>simp
theorem dI9:OpR X (binaryOp .Add) (rCatT X.K):=by
 intro pins s σ H x y v u Q I rx ry h;obtain⟨a,b,xs,ys,rfl,rfl,ha,hb,hx,hz,q1,q2⟩:=h;cases rx;cases ry;obtain⟨its,r1,p1,_⟩:=I.tuple ha;obtain⟨its2,r2,p2,_⟩:=I.tuple hb;refine HT.cat_tup p1 p2 (λz=>hx (r1.nil_iff.mp z)) (λz=>⟨.ref a,H,I,rfl,q1<|r2.nil_iff.mp z⟩) (λz=> ?_) (by rw[<-r1.length,<-r2.length];exact hz)
 refine⟨.ref s.heap.objs.size,_,I.laid (t':=s.toks) (o:= .tup (xs++ys)) (λb ob q=>aU _ q) (aF _) ?_,rfl,q2 (λw=>z (r2.nil_iff.mpr w)) _<|I.hok.fresh<|aF _⟩
 exact⟨by rw[cM];exact hz,_,r1.append r2,uH _ _⟩
end
nonrec def ixN (n:Nat)(i:Int):Option Nat:=if 0<=i then(if i<n then some i.toNat else none)else if -(n:Int)<=i then some (i+n).toNat else none
nonrec def atI (xs:List α)(i:Int):Option α:=(ixN xs.length i).bind λj=>xs[j]?
theorem cN7 {i:Int}(h:ixN n i=some j):seqIndex? i n=some j/\j<n/\ -(n:Int)<=i/\i<n:=by
 unfold ixN at h
 by_cases h0:0<=i
 .rw[a8 h0]at h
  by_cases h1:i<n
  .rw[a8 h1]at h;have e:i.toNat=j:=gQ h;exact⟨by rw[a01 h0 h1,e],ae,ae,h1⟩
  .rw[a6 h1]at h;cases h
 .rw[a6 h0]at h
  by_cases h1: -(n:Int)<=i
  .rw[a8 h1]at h;have e:(i+n).toNat=j:=gQ h;exact⟨by rw[zV ae h1,e],ae,h1,ae⟩
  .rw[a6 h1]at h;cases h
theorem b60 {xs:List α}{i:Int}{v:α}(h:atI xs i=some v): ∃j,seqIndex? i xs.length=some j/\xs[j]? =some v/\j<xs.length/\ -(xs.length:Int)<=i/\i<xs.length:=by
 unfold atI at h;cases e:ixN xs.length i with
 | none=>rw[e]at h;cases h
 | some j=>
  rw[e]at h;obtain⟨h1,h2,h3,h4⟩:=cN7 e;exact⟨j,h1,h,h2,h3,h4⟩
theorem bK {xs:List α}{v:α}(h:xs[j]? =some v):atI xs (j:Int)=some v:=by
 have hj:j<xs.length:=(jX.mp h).1;have e:ixN xs.length (j:Int)=some j:=by
  unfold ixN;rw[a8 ae,a8 ae];simp
 unfold atI;rw[e];exact h
theorem d30 (xs:List α)(v:α):atI (xs++[v]) (-1)=some v:=by
 have hl:(xs++[v]).length=xs.length+1:=af
 have e:ixN (xs++[v]).length (-1)=some xs.length:=by
  unfold ixN;rw[hl,a6 ac,a8 ae]
  congr 1
  lia
 unfold atI;rw[e];show(xs++[v])[xs.length]? =some v;simp
def bU1 (b:Expr):Prop:= ∀o i,subscripted b false o i=operate [o,i] (getItem o i)
def IxR (X:Cx)(r:R2):Prop:=
 ∀(value slice:Expr) (pins:List (Addr×Obj)) (s:Shared) (σ:St) (H:Hp) (x y:V) (v u:Value) (Q:VK),Inv X pins σ H s->RelV x v->RelV y u->r x y H Q->
  subscripted slice false v u=operate [v,u] (getItem v u)->X∩(subscriptTail value slice v u) (EP X pins σ Q) X.xe s
def MtR (X:Cx)(id:String)(r:V->List V->Hp->VK->Prop):Prop:=
 ∀(pins:List (Addr×Obj)) (s:Shared) (σ:St) (H:Hp) (x:V) (xs:List V) (v:Value) (us:List Value) (Q:VK),Inv X pins σ H s->RelV x v->Vals xs us->r x xs H Q->
  X∩(call (.builtin id) (v::us)) (EP X pins σ Q) X.xe s
section
variable {X:Cx}{a b:Expr}{ta tb:TE}{pos:Pos}
theorem IxR.or {r r':R2}(h:IxR X r)(h':IxR X r'):IxR X (λx y H Q=>r x y H Q\/r' x y H Q):=by
 intro value slice pins s σ H x y v u Q I rx ry q hs;rcases q with q|q
 .exact h value slice pins s σ H x y v u Q I rx ry q hs
 .exact h' value slice pins s σ H x y v u Q I rx ry q hs
theorem pe_ix {r:R2}(hr:IxR X r)(ha:PE X a ta)(hb:PE X b tb)(hs:bU1 b):PE X (.Subscript a b pos) (tOp r ta tb):=by
 intro pins s σ H Q I h;exact Subscript_ (binT ha hb I h λv u s2 x y H2 I2 rx ry q=>hr a b pins s2 σ H2 x y v u Q I2 rx ry q (hs _ _))
nonrec def rIxL (K:Frag):R2:=λx y H Q=> ∃p xs i v,x= .ref p/\y= .int i/\SqL K H p xs/\atI xs i=some v/\Q v H
nonrec def rIxT (K:Frag):R2:=λx y H Q=> ∃p xs i v,x= .ref p/\y= .int i/\SqT K H p xs/\atI xs i=some v/\Q v H
nonrec def rIxS:R2:=λx y H Q=> ∃z i c,x= .str z/\y= .int i/\z.length<=sizeLine/\atI z.cps.toList i=some c/\Q (.str ⟨#[c]⟩) H
theorem dJ0:IxR X (rIxL X.K):=by
 intro value slice pins s σ H x y v u Q I rx ry h hs;obtain⟨p,xs,i,z,rfl,rfl,hq,he,q⟩:=h;cases rx;obtain⟨t,rfl⟩:=ry;obtain⟨its,r,pl,hz⟩:=I.list hq;obtain⟨j,h1,h2,h3,h4,h5⟩:=b60 he;obtain⟨w,ew,rw'⟩:=r.get h2;have hl:=r.length;have hn:=aV5;have fin:EP X pins σ Q w s:=⟨z,H,I,rw',q⟩
 by_cases h0:0<=i
 .have hj:i.toNat=j:=by
   rw[a01 h0 h5]at h1;exact gQ h1
  exact item_listR pl.isList h0 ae (by rw[hj];exists ew) fin hs
 .have hj:(i+(its.toArray.size:Int)).toNat=j:=by
   rw[zV ae h4]at h1
   rw[bB,<-hl];exact gQ h1
  exact subscriptTail_builtinR (x:=w) pl.isList.typeIs slot_list_getitem.lookup
   (wpAny_getItem_list_neg (Q:=λr s'=>r=w/\EP X pins σ Q r s') pl.isList ae (by rw[bB]<;>lia) ae (by rw[hj];exists ew) ⟨rfl,fin⟩) hs
theorem ix_tup:IxR X (rIxT X.K):=by
 intro value slice pins s σ H x y v u Q I rx ry h hs;obtain⟨p,xs,i,z,rfl,rfl,hq,he,q⟩:=h;cases rx;obtain⟨t,rfl⟩:=ry;obtain⟨its,r,pl,hz⟩:=I.tuple hq;obtain⟨j,h1,h2,h3,h4,h5⟩:=b60 he;obtain⟨w,ew,rw'⟩:=r.get h2;have hl:=r.length;have hn:=aV5;have fin:EP X pins σ Q w s:=⟨z,H,I,rw',q⟩;exact subscriptTail_builtinR (x:=w) pl.typeIs slot_tuple_getitem.lookup
  (getItem_tuple (j:=j) (Q:=λr s'=>r=w/\EP X pins σ Q r s') pl ae ae (by rw[bB,<-hl];exact h1) (by exists ew) ⟨rfl,fin⟩) hs
theorem ix_str:IxR X rIxS:=by
 intro value slice pins s σ H x y v u Q I rx ry h hs;obtain⟨z,i,c,rfl,rfl,hz,he,q⟩:=h;obtain⟨t,rfl⟩:=rx;obtain⟨t',rfl⟩:=ry;obtain⟨j,h1,h2,h3,h4,h5⟩:=b60 he;have hl:z.cps.toList.length=z.length:=by simp[Str.length]
 rw[hl]at h1 h4 h5;have hn:=aV5;exact tail_any (typeIs_str s z t) slot_str_getitem.lookup (getItem_str (c:=c) (by
  have e1:decide (i< -(2^63:Int))=false:=gC ae
  have e2:decide (i≥2^63)=false:=gC ae
  rw[e1,e2,Bool.or_false]) (by rw[h1];exists h2) ⟨.str ⟨#[c]⟩,H,I.tok _,⟨_,rfl⟩,q⟩) hs
nonrec def rIx (K:Frag):R2:=λx y H Q=>rIxL K x y H Q\/rIxT K x y H Q\/rIxS x y H Q
theorem ix_seq:IxR X (rIx X.K):=dJ0.or (ix_tup.or ix_str)
theorem cF9 (its:List Value)(n j:Nat)(u:Value):Obj.mapSeq (·.setIfInBounds j u) {cls:= .type "list",data:= .seq its.toArray n}={cls:= .type "list",data:= .seq (its.set j u).toArray n}:=by
 simp[Obj.mapSeq]
theorem Inv.lst {σ:St}{H:Hp}{p:Addr}{xs:List V}(I:Inv X pins σ H s)(h:H p=some (.lst xs)) :
  ∃(its:List Value) (n:Nat),Vals xs its/\s.heap.get? p=some {cls:= .type "list",data:= .seq its.toArray n}/\xs.length<=sizeLine:=by
 obtain⟨z,its,n,r,e⟩:=I.hok p _ h;exact⟨its,n,r,e,z⟩
theorem Inv.lstUpd {σ:St}{H:Hp}{p:Addr}{xs ys:List V}{its':List Value}{n':Nat}{f:Obj->Obj}(I:Inv X pins σ H s)(h:H p=some (.lst xs))
  (ho:s.heap.get? p=some {cls:= .type "list",data:= .seq its.toArray n}) (hf:f {cls:= .type "list",data:= .seq its.toArray n}={cls:= .type "list",data:= .seq its'.toArray n'}) (r:Vals ys its') (hz:ys.length<=sizeLine) (t:Nat) :
  Inv X pins σ (upd H p<|.lst ys) {s with heap:=s.heap.update p f,toks:=t}:=by
 have e:(s.heap.update p f).get? p=some {cls:= .type "list",data:= .seq its'.toArray n'}:=by
  rw[pV f ho (by rw[hf]<;>rfl),hf]
 refine I.write (x:=p) (e:=p) (by rw[h];trivial) (.inl rfl) (λb u hb q=>(aJ3 _ _<|Ne.symm hb).trans q) ⟨_,e⟩ ?_
 exact⟨hz,its',n',r,e⟩
nonrec def rSetL:V->V->V->Hp->(Hp->Prop)->Prop:=λo i v H Q=> ∃p xs k j,o= .ref p/\i= .int k/\H p=some (.lst xs)/\ixN xs.length k=some j/\Q (upd H p<|.lst<|xs.set j v)
theorem c37:PSet X rSetL:=by
 intro pins s σ H o i v ov iv u Q I ro ri rv h;obtain⟨p,xs,k,j,rfl,rfl,hp,hj,q⟩:=h;cases ro;obtain⟨t,rfl⟩:=ri;obtain⟨its,n,r,ho,hz⟩:=I.lst hp;obtain⟨h1,h2,h3,h4⟩:=cN7 hj;have hl:=r.length;have hn:=aV5;have I':Inv X pins σ (upd H p<|.lst<|xs.set j v) {s with heap:=s.heap.update p (Obj.mapSeq (·.setIfInBounds j u))}:=
  I.lstUpd hp ho (cF9 its n j u) (r.set rv j) (by rw[dM];exact hz) s.toks
 by_cases h0:0<=k
 .have hk:k.toNat=j:=by
   rw[a01 h0 h4]at h1;exact gQ h1
  exact PySem.W.ki_setAt ho h0 ae (by rw[bB,<-hl];exact h4) (by rw[hk];exact⟨_,I',q⟩)
 .have hk:(k+(its.toArray.size:Int)).toNat=j:=by
   rw[zV ae h3]at h1
   rw[bB,<-hl];exact gQ h1
  exact PySem.W.ki_setBack ho ae (by rw[bB,<-hl];exact h3) ae (by rw[hk];exact⟨_,I',q⟩)
theorem bU2 (lo hi:Option Int)(n:Nat):(sliceBounds lo hi none n).1=((HT.sIx n 0 lo:Nat):Int)/\(sliceBounds lo hi none n).2.1=((HT.sIx n n hi:Nat):Int)/\(sliceBounds lo hi none n).2.2=1:=by
 refine⟨?_,?_,rfl⟩
 .cases lo with
  | none=>simp[sliceBounds,HT.sIx]
  | some i=>
   simp only[sliceBounds,HT.sIx,getD_none,show(1:Int)>0 by decide,dR]
   by_cases h:i<0
   .simp only[h,dR]<;>lia
   .simp only[h,fS]<;>lia
 .cases hi with
  | none=>simp[sliceBounds,HT.sIx]
  | some i=>
   simp only[sliceBounds,HT.sIx,getD_none,show(1:Int)>0 by decide,dR]
   by_cases h:i<0
   .simp only[h,dR]<;>lia
   .simp only[h,fS]<;>lia
theorem bK0 (its:List Value)(lo hi:Option Int):slicePick its.toArray lo hi none=((its.drop<|HT.sIx its.length 0 lo).take<|HT.sIx its.length its.length hi-HT.sIx its.length 0 lo).toArray:=by
 obtain⟨h1,h2,h3⟩:=bU2 lo hi its.toArray.size;unfold slicePick;rw[h1,h2,h3];simp only[sliceRange_one,pick_run,bB]<;>rfl
nonrec def rSlL (K:Frag):V->Option Int->Option Int->Hp->VK->Prop:=λx lo hi H Q=> ∃a xs,x= .ref a/\SqL K H a xs/\ ∀p,H p=none->Q (.ref p) (upd H p<|.lst<|c36 xs lo hi)
theorem cN8:SlR X (rSlL X.K):=by
 intro pins s σ H x v vl vu lo hi sl Q I rx hs pl pu h;obtain⟨a,xs,rfl,hx,q⟩:=h;cases rx;obtain⟨its,r,ht,hz⟩:=I.list hx;have hlen:=r.length;refine⟨"list",_,slot_list_getitem.lookup,ht.isList.typeIs,?_⟩;refine wpAny_getItem_list_slice ht.isList hs pl pu .none af ?_ (by rw[bB]<;>lia)
 rw[bK0,<-hlen];refine⟨.ref s.heap.objs.size,_,I.laid (t':=s.toks) (o:= .lst (c36 xs lo hi)) (λb ob q=>aU _ q) (aF _) ?_,rfl,q _<|I.hok.fresh<|aF _⟩
 exact⟨aG (b09 xs lo hi) hz,_,0,(r.drop<|HT.sIx xs.length 0 lo).take<|HT.sIx xs.length xs.length hi-HT.sIx xs.length 0 lo,cA _ rfl⟩
nonrec def aP8:V->Bool
 | .non=>true
 | .bl _=>true
 | .int _=>true
 | .str _=>true
 | _=>false
nonrec def eqV:V->V->Bool
 | .non,.non=>true
 | .bl a,.bl b=>a==b
 | .bl a,.int b=>(if a then 1 else 0)==b
 | .int a,.bl b=>a==(if b then 1 else 0)
 | .int a,.int b=>a==b
 | .str a,.str b=>a==b
 | _,_=>false
theorem eqAt_V {y x:V}(ry:RelV y u)(rx:RelV x v)(fy:aP8 y=true)(fx:aP8 x=true):SeqAt.EqAt A s u v (eqV y x):=by
 cases y with
 | non=>
  cases ry;cases x with
  | non=>cases rx;exact SeqAt.EqAt.same _
  | bl b=>cases rx;exact SeqAt.EqAt.none_bool b
  | int b=>obtain⟨t,rfl⟩:=rx;exact SeqAt.EqAt.none_int b t
  | str b=>obtain⟨t,rfl⟩:=rx;exact SeqAt.EqAt.none_str b t
  | _=>exact absurd (show false=true from fx) bF
 | bl a=>
  cases ry;cases x with
  | non=>cases rx;exact SeqAt.EqAt.bool_none a
  | bl b=>cases rx;exact SeqAt.EqAt.bool_bool a b
  | int b=>obtain⟨t,rfl⟩:=rx;exact SeqAt.EqAt.bool_int a b t
  | str b=>obtain⟨t,rfl⟩:=rx;exact SeqAt.EqAt.bool_str a b t
  | _=>exact absurd (show false=true from fx) bF
 | int a=>
  obtain⟨t',rfl⟩:=ry;cases x with
  | non=>cases rx;exact SeqAt.EqAt.int_none a t'
  | bl b=>cases rx;exact SeqAt.EqAt.int_bool a t' b
  | int b=>obtain⟨t,rfl⟩:=rx;exact SeqAt.EqAt.int_int a t' b t
  | str b=>obtain⟨t,rfl⟩:=rx;exact SeqAt.EqAt.int_str a t' b t
  | _=>exact absurd (show false=true from fx) bF
 | str a=>
  obtain⟨t',rfl⟩:=ry;cases x with
  | non=>cases rx;exact SeqAt.EqAt.str_none a t'
  | bl b=>cases rx;exact SeqAt.EqAt.str_bool a t' b
  | int b=>obtain⟨t,rfl⟩:=rx;exact SeqAt.EqAt.str_int a t' b t
  | str b=>obtain⟨t,rfl⟩:=rx;exact SeqAt.EqAt.str_str a t' b t
  | _=>exact absurd (show false=true from fx) bF
 | _=>exact absurd (show false=true from fy) bF
nonrec def eqU (x:V)(u:Value):Bool:=match u with
 | .none=>eqV .non x
 | .bool b=>eqV (.bl b) x
 | .int i _=>eqV (.int i) x
 | .str z _=>eqV (.str z) x
 | _=>false
theorem d31 {x y:V}(r:RelV y u)(f:aP8 y=true):eqU x u=eqV y x:=by
 cases y with
 | non=>cases r;rfl
 | bl b=>cases r;rfl
 | int i=>obtain⟨t,rfl⟩:=r;rfl
 | str z=>obtain⟨t,rfl⟩:=r;rfl
 | _=>exact absurd (show false=true from f) bF
theorem bU3 {x:V}: ∀{xs:List V} {us:List Value},Vals xs us->xs.all aP8=true->us.any (eqU x)=xs.any λy=>eqV y x
 | _,_,.nil,_=>rfl
 | y::xs,u::us,.cons r t,f=>by
  rw[all_cons,dZ]at f;rw[any_cons,any_cons,d31 r f.1,bU3 t f.2]
theorem b86 {A:Around}{s:Shared}{x:V}{v:Value}(rx:RelV x v)(fx:aP8 x=true): ∀{xs:List V} {us:List Value},Vals xs us->xs.all aP8=true-> ∀u∈us,SeqAt.EqAt A s u v (eqU x u)
 | _,_,.nil,_=>λu hu=>by cases hu
 | y::xs,u::us,.cons r t,f=>λu' hu=>by
  rw[all_cons,dZ]at f;rcases aY.mp hu with rfl|hu
  .rw[d31 r f.1];exact eqAt_V r rx f.1 fx
  .exact b86 rx fx t f.2 u' hu
nonrec def inV (x:V)(xs:List V):Bool:=xs.any λy=>eqV y x
nonrec def rIn (K:Frag)(neg:Bool):R2:=λx y H Q=> ∃p xs,y= .ref p/\(SqL K H p xs\/SqT K H p xs)/\aP8 x=true/\xs.all aP8=true/\Q (.bl<|if neg then !inV x xs else inV x xs) H
theorem bU4:OpR X (compareOp .NotIn) (rIn X.K true):=by
 intro pins s σ H x y v u Q I rx ry h;obtain⟨p,xs,rfl,hq,fx,fs,q⟩:=h;cases ry;rcases hq with hq|hq
 .obtain⟨its,r,pl,hz⟩:=I.list hq;refine SeqAt.notIn_listAt (eqU x) pl.isList (λw hw=>b86 rx fx r fs w (by exists hw)) ⟨.bl _,H,I,rfl,?_⟩
  rw[show its.toArray.any (eqU x)=its.any (eqU x)by simp,bU3 r fs]
  exact q
 .obtain⟨its,r,pl,hz⟩:=I.tuple hq;refine SeqAt.notIn_tupleAt (eqU x) pl (λw hw=>b86 rx fx r fs w (by exists hw)) ⟨.bl _,H,I,rfl,?_⟩
  rw[show its.toArray.any (eqU x)=its.any (eqU x)by simp,bU3 r fs]
  exact q
theorem bU5:oV X (.builtin "len") (λxs H Q=> ∃p ys,xs=[.ref p]/\(SqL X.K H p ys\/SqT X.K H p ys)/\Q (.int ys.length) H):=by
 intro pins s σ H xs us Q I r h;obtain⟨p,ys,rfl,hq,q⟩:=h;obtain⟨u,rfl,rx⟩:=vals1 r;cases rx;have hn:=aV5;rcases hq with hq|hq
 .obtain⟨its,r',pl,hz⟩:=I.list hq;have hlen:=r'.length;exact Calls.call_len_list pl.isList (by simp only[bB]<;>lia) ⟨.int ys.length,H,I.tok _,⟨s.toks+1,by rw[bB,hlen]⟩,q⟩
 .obtain⟨its,r',pl,hz⟩:=I.tuple hq;have hlen:=r'.length;exact len_tuple pl (by simp only[bB]<;>lia) ⟨.int ys.length,H,I.tok _,⟨s.toks+1,by rw[bB,hlen]⟩,q⟩
theorem bU6:oV X (.type "list") (λxs H Q=> ∃p ys,xs=[.ref p]/\(SqL X.K H p ys\/SqT X.K H p ys)/\ ∀l,H l=none->Q (.ref l) (upd H l<|.lst ys)):=by
 intro pins s σ H xs us Q I r h;obtain⟨p,ys,rfl,hq,q⟩:=h;obtain⟨u,rfl,rx⟩:=vals1 r;cases rx;have fin: ∀(its:List Value),Vals ys its->ys.length<=sizeLine-> ∀(h':Heap) (c':Nat),(∀b o',s.heap.get? b=some o'->h'.get? b=some o')->
   h'.get? s.heap.objs.size=some {cls:= .type "list",dict:=none,data:= .seq its.toArray c',slots:= #[]}->EP X pins σ Q (.ref s.heap.objs.size) {s with heap:=h'}:=λits r' hz h' c' kp e=>
  ⟨.ref s.heap.objs.size,_,I.laid (t':=s.toks) kp (aF _)<|show rO X.prog X.w _ h' _ (.lst ys)from⟨hz,its,c',r',e⟩,rfl,q _<|I.hok.fresh<|aF _⟩
 rcases hq with hq|hq
 .obtain⟨its,r',pl,hz⟩:=I.list hq;have hlen:=r'.length;obtain⟨o,ho,hc,n,hd⟩:=pl.isList;exact call_list_seq p (.inl rfl) ho hc hd (λh' c' kp e=>fin its r' hz h' c' kp e) (by simp only[bB]<;>lia)
 .obtain⟨its,r',pl,hz⟩:=I.tuple hq;have hlen:=r'.length;obtain⟨o,ho,hc,n,hd⟩:=pl;exact call_list_seq p (.inr rfl) ho hc hd (λh' c' kp e=>fin its r' hz h' c' kp e) (by simp only[bB]<;>lia)
theorem wS:oV X (.type "tuple") (λxs H Q=> ∃p ys,xs=[.ref p]/\((SqL X.K H p ys/\ ∀l,H l=none->Q (.ref l) (upd H l<|.tup ys))\/(SqT X.K H p ys/\Q (.ref p) H))):=by
 intro pins s σ H xs us Q I r h;obtain⟨p,ys,rfl,h⟩:=h;obtain⟨u,rfl,rx⟩:=vals1 r;cases rx;rcases h with⟨hq,q⟩| ⟨hq,q⟩
 .obtain⟨its,r',pl,hz⟩:=I.list hq;have hlen:=r'.length;refine call_tuple_list pl.isList (λh' kp=> ?_) (by simp only[bB]<;>lia)
  have I1:Inv X pins σ H {s with heap:=h'}:=I.kept (t':=s.toks) kp;have I2:Inv X pins σ (upd H h'.objs.size<|.tup ys) {s with heap:=h'.push {cls:= .type "tuple",data:= .seq its.toArray}}:=
   I1.laid (t':=s.toks) (λb o e=>aU _ e) (aF _) (show rO X.prog X.w _ _ _ (.tup ys)from⟨hz,its,r',uH _ _⟩)
  exact⟨.ref h'.objs.size,_,I2,rfl,q _<|I1.hok.fresh<|aF _⟩
 .obtain⟨its,r',pl,hz⟩:=I.tuple hq;exact call_tuple_same pl ⟨.ref p,H,I,rfl,q⟩
def tyV (K:Frag)(T:String)(x:V)(H:Hp):Prop:=match x with
 | .str _=>T="str"
 | .int _=>T="int"
 | .ref p=>(T="list"/\ ∃xs,SqL K H p xs)\/(T="tuple"/\ ∃o,K.lookup p=some o/\o.cls= .type "tuple"/\o.dict=none)\/
   (T="dict"/\((∃kvs,H p=some (.dK kvs))\/ ∃kvs,H p=some (.dT kvs)))\/(T="set"/\ ∃S n,H p=some (.set S n))
 | _=>False
theorem tyV_is {pins:List (Addr×Obj)}{σ:St}{H:Hp}{s:Shared}{T:String}{x:V}{v:Value}(I:Inv X pins σ H s)(r:RelV x v)(ty:tyV X.K T x H) :
  s.TypeIs v T/\ ∀a,v= .ref a-> ∃ob,s.heap.get? a=some ob/\ob.dict=none:=by
 cases x with
 | str z=>
  obtain⟨t,rfl⟩:=r;cases (show T="str" from ty)
  exact⟨typeIs_str s z t,λ_ e=>nomatch e⟩
 | int i=>
  obtain⟨t,rfl⟩:=r;cases (show T="int" from ty)
  exact⟨qN s i t,λ_ e=>nomatch e⟩
 | ref p=>
  cases r;rcases ty with⟨rfl,xs,hq⟩| ⟨rfl,o,hk,hc,hd⟩| ⟨rfl,hk⟩| ⟨rfl,S,n,hk⟩
  .obtain⟨its,_,pl,_⟩:=I.list hq;refine⟨pl.isList.typeIs,λa e=> ?_⟩
   cases e;obtain⟨o,n,e,c,hd,_⟩:=pl;exact⟨o,e,hd⟩
  .refine⟨⟨o,I.kIn p o hk,hc⟩,λa e=> ?_⟩
   cases e;exact⟨o,I.kIn _ o hk,hd⟩
  .have z: ∃o,s.heap.get? p=some o/\o.ExactDict:=by
    rcases hk with⟨kvs,hk⟩| ⟨kvs,hk⟩
    .obtain⟨_,_,_,_,o,_,_,e,ex,_⟩:=I.hok p _ hk;exact⟨o,e,ex⟩
    .obtain⟨_,_,_,_,o,_,_,e,ex,_⟩:=I.hok p _ hk;exact⟨o,e,ex⟩
   obtain⟨o,e,ex⟩:=z;refine⟨⟨o,e,ex.1⟩,λa e2=> ?_⟩
   cases e2;exact⟨o,e,ex.2.1⟩
  .obtain⟨o,_,_,_,e,ex,_⟩:=I.hok p _ hk;refine⟨⟨o,e,ex.1⟩,λa e2=> ?_⟩
   cases e2;exact⟨o,e,ex.2.1⟩
 | _=>exact False.elim ty
def tBM (K:Frag)(T:String)(r:V->List V->Hp->VK->Prop)(to:TE)(t:TA):TE:=λσ H Q=>to σ H λx H1=>tyV K T x H1/\t σ H1 λxs H2=>r x xs H2 Q
variable {o e:Expr}{es:List Expr}{to:TE}{t:TA}{name:Str}{apos cpos:Pos}{T id:String}{r:V->List V->Hp->VK->Prop}
theorem pe_bm (pa:PlainAttrs T)(slot:Slot T name id)(hty:typeOf (.builtin id)=pure (.type "method_descriptor"))(hm:MtR X id r)(ho:PE X o to)(ha:PA X (e::es) t)
  (hbase:↥(attributeBase o name X.env (eval o X.env)=eval o X.env))
  (hfew:↥(((backTo cpos<|starEach (e::es) X.env).all (λx=> !x.1)&&(backToKw cpos<|keywordEach [] X.env).all (λx=>x.1.isSome)
   &&decide ((e::es).length+([]:List Keyword).length+(if([]:List Keyword).isEmpty then 0 else 1)<30))=true))
  (hline:↥((apos.endLine==cpos.line)=true)) (hs:↥(starEach (e::es) X.env=(false,eval e X.env)::starEach es X.env)) (hplain:↥((backTo cpos<|starEach es X.env).any (·.1)=false)) :
  PE X (.Call (.Attribute o name apos) (e::es) [] cpos) (tBM X.K T r to t):=by
 intro pins s σ H Q I h;refine wpAny_Call_method_late hbase hfew hline rfl (thn (ho pins s σ H _ I h) λv s1 ⟨x,H1,I1,r1,ty,q1⟩=> ?_)
 obtain⟨h1,h2⟩:=tyV_is I1 r1 ty;refine⟨T,id,pa,slot,hty,h1,h2,?_⟩;have hA:=ha cpos pins s1 σ H1 _ I1 q1;rw[hs]at hA⊢;refine Calls.callWith_builtin (by show(false||(backTo cpos<|starEach es X.env).any (·.1))=false;rw[hplain]<;>rfl) (aJ9 ?_)
 exact thn hA λus s2 ⟨vs,H2,I2,r2,q2⟩=>hm pins s2 σ H2 x vs v us Q I2 r1 r2 q2
end
def MtM (X:Cx)(id:String)(r:V->List V->Hp->VK->Prop):Prop:=
 ∀(pins:List (Addr×Obj)) (s:Shared) (σ:St) (H:Hp) (x:V) (xs:List V) (v:Value) (us:List Value) (Q:VK),Inv X pins σ H s->RelV x v->Vals xs us->r x xs H Q->
  X∩(call (.builtin id) (v::us)) (EP X pins σ Q) X.xe s
theorem Vals.one {x:V}(h:Vals [x] us): ∃u,us=[u]/\RelV x u:=by
 cases h with
 | cons r q=>cases q;exact⟨_,rfl,r⟩
theorem Vals.two {x y:V}(h:Vals [x,y] us): ∃u v,us=[u,v]/\RelV x u/\RelV y v:=by
 cases h with
 | cons r q=>obtain⟨u,rfl,s⟩:=Vals.one q;exact⟨_,_,rfl,r,s⟩
theorem Vals.reverse {xs:List V}(h:Vals xs us):Vals xs.reverse us.reverse:=by
 induction h with
 | nil=>exact .nil
 | cons r t ih=>rw[zH,zH];exact Vals.append ih (.cons r .nil)
theorem Vals.rep {xs:List V}{us:List Value}(h:Vals xs us): ∀k:Nat,Vals (replicate k xs).flatten (replicate k us).flatten
 | 0=> .nil
 | k+1=>by
  rw[jZ,jZ,nT,nT];exact Vals.append h (Vals.rep h k)
theorem foldl_rep (its:List Value): ∀(k:Nat) (acc:List Value),
  foldl (λx1 x2=>x1++x2) acc.toArray (replicate k its.toArray)=(acc++(replicate k its).flatten).toArray
 | 0,acc=>af
 | k+1,acc=>by
  have e:acc.toArray++its.toArray=(acc++its).toArray:=af
  have e2:(acc++its)++(replicate k its).flatten=acc++(replicate (k+1) its).flatten:=by
   rw[jZ,nT,List.append_assoc]
  rw[<-e2,<-foldl_rep its k (acc++its),<-e,jZ,List.foldl_cons]
section
variable {X:Cx}{pins:List (Addr×Obj)}{σ:St}{H:Hp}{s:Shared}{l b:Addr}{xs ys zs:List V}
theorem Inv.lset {its':List Value}{f:Array Value->Array Value}(I:Inv X pins σ H s)(hH:H l=some (.lst xs))
  (e:s.heap.get? l=some {cls:= .type "list",data:= .seq its.toArray n}) (hf:f its.toArray=its'.toArray) (hv:Vals ys its') (hz:ys.length<=sizeLine) :
  Inv X pins σ (upd H l<|.lst ys) {s with heap:=s.heap.update l (Obj.mapSeq f),toks:=t'}:=by
 have q:=PySem.IsL.update e f;rw[hf]at q;refine I.write (x:=l) (e:=l) (by rw[hH];exact trivial) (.inl rfl) (λb' u hb hu=>(aJ3 s.heap (Obj.mapSeq f)<|Ne.symm hb).trans hu) ⟨_,q⟩ ?_
 exact⟨hz,its',_,hv,q⟩
theorem Inv.lnew (I:Inv X pins σ H s)(hv:Vals ys its)(hz:ys.length<=sizeLine) :
  Inv X pins σ (upd H s.heap.objs.size<|.lst ys) {s with heap:=s.heap.push {cls:= .type "list",data:= .seq its.toArray},toks:=t'}:=
 I.laid (λ_ _ q=>aU _ q) (aF _) ⟨hz,its,0,hv,cA _ rfl⟩
theorem Inv.fresh (I:Inv X pins σ H s):H s.heap.objs.size=none:=I.hok.fresh (aF _)
theorem Inv.lstM (I:Inv X pins σ H s)(hH:H l=some (.lst xs)):xs.length<=sizeLine/\ ∃(its:List Value) (n:Nat),Vals xs its/\xs.length=its.length/\s.heap.get? l=some {cls:= .type "list",data:= .seq its.toArray n}:=by
 obtain⟨z,its,n,r,e⟩:=I.hok l _ hH;exact⟨z,its,n,r,r.length,e⟩
theorem d32 (h:n<=sizeLine):Builtin.List.listTooLong n=false:=by
 unfold Builtin.List.listTooLong;exact gC ae
end
section
variable {X:Cx}
nonrec def dJ1:V->List V->Hp->VK->Prop:=λx vs H Q=> ∃l xs y,x= .ref l/\vs=[y]/\H l=some (.lst xs)/\xs.length<sizeLine/\Q .non (upd H l<|.lst<|xs++[y])
theorem bO3:MtM X "list.append" dJ1:=by
 intro pins s σ H x vs v us Q I rx rv h;obtain⟨l,xs,y,rfl,rfl,hH,hz,q⟩:=h;cases rx;obtain⟨u,rfl,ru⟩:=rv.one;obtain⟨z,its,n,r,hl,e⟩:=I.lstM hH;refine lP F.slot_list_append ⟨_,e,rfl⟩ F.entry_list_append (F.args_list_append_2 _ _) (PySem.list_append l its.toArray n u (by rw[bB];lia)) ⟨e,?_⟩
 refine⟨.non,_,I.lset (its':=its++[u]) hH e af (r.append<|.cons ru .nil) ?_,rfl,q⟩
 rw[cM,aJ5]
 lia
nonrec def rCat:R2:=λx y H Q=> ∃l b xs zs,x= .ref l/\y= .ref b/\H l=some (.lst xs)/\H b=some (.lst zs)/\xs.length+zs.length<=sizeLine/\ ∀p,H p=none->Q (.ref p) (upd H p<|.lst<|xs++zs)
theorem op_cat:OpR X (binaryOp .Add) rCat:=by
 intro pins s σ H x y v u Q I rx ry h;obtain⟨l,b,xs,zs,rfl,rfl,hH,hB,hz,q⟩:=h;cases rx;cases ry;obtain⟨z,its,n,r,hl,e⟩:=I.lstM hH;obtain⟨z2,its2,n2,r2,hl2,e2⟩:=I.lstM hB;refine PySem.P.add_list e e2 ?_ (by rw[bB,bB];omega)
 have ea:its.toArray++its2.toArray=(its++its2).toArray:=af
 rw[ea];exact⟨.ref _,_,I.lnew (t':=s.toks) (r.append r2) (by rw[cM];omega),rfl,q _ I.fresh⟩
nonrec def rRep:R2:=λx y H Q=> ∃l k xs,x= .ref l/\y= .int k/\H l=some (.lst xs)/\ -(2^63)<=k/\k<2^63/\xs.length*k.toNat<=sizeLine/\
 ∀p,H p=none->Q (.ref p) (upd H p<|.lst (replicate k.toNat xs).flatten)
theorem bU7 (xs:List α)(k:Nat):(replicate k xs).flatten.length=k*xs.length:=by
 induction k with
 | zero=>simp
 | succ k ih=>rw[jZ,nT,cM,ih,Nat.succ_mul,add_comm]
theorem op_rep:OpR X (binaryOp .Mult) rRep:=by
 intro pins s σ H x y v u Q I rx ry h;obtain⟨l,k,xs,rfl,rfl,hH,h1,h2,hz,q⟩:=h;cases rx;obtain⟨t,rfl⟩:=ry;obtain⟨z,its,n,r,hl,e⟩:=I.lstM hH;have hlen:its.toArray.size*k.toNat<=sizeLine:=by rw[bB,<-hl];exact hz
 have hcap: ¬its.toArray.size*k.toNat>(2^63-1)/8:=by
  have:(sizeLine:Nat)<=(2^63-1)/8:=ac
  lia
 have hfit: ¬(!Builtin.List.listFitsIndex k)=true:=by
  rw[fitsIndex_both h1 h2];exact bF
 have hlong: ¬Builtin.List.listTooLong (its.toArray.size*k.toNat)=true:=by
  rw[d32 hlen];exact bF
 have hnew:foldl (λx1 x2=>x1++x2) #[] (replicate (if its.toArray.isEmpty=true then 0 else k.toNat) its.toArray)=(replicate k.toNat its).flatten.toArray:=by
  have f0: ∀m:Nat,foldl (λx1 x2=>x1++x2) #[] (replicate m its.toArray)=(replicate m its).flatten.toArray:=λm=>by
   have:=foldl_rep its m [];rw[zO]at this;exact this
  rw[f0];cases its with
  | nil=>simp
  | cons a r'=>rw[a6 af]
 refine wpAny_binaryOp_repeat_ref (T:="list") (U:="int") ac ⟨_,e,rfl⟩ (λs'=>qN s' k t) noFill_list_mul F.fills_int_mul F.slot_int_rmul repeat_list F.slot_int_index.lookup
  (lP F.slot_int_rmul (qN s k t) F.entry_int_rmul (F.args_int_rmul_2 _ _) (int___rmul___int_list k t l its.toArray n)
   ⟨e,rfl,⟨_,e,rfl⟩,lP F.slot_list_mul ⟨_,e,rfl⟩ F.entry_list_mul (F.args_list_mul_2 _ _) (AutoListH.list___mul___list_int_3 l its.toArray n k t hfit hcap hlong) ⟨e,?_⟩⟩)
 rw[hnew];exact⟨.ref _,_,I.lnew (t':=s.toks) (r.rep k.toNat) (by rw[bU7,zW];exact hz),rfl,q _ I.fresh⟩
end
section
variable {prog:Program}{w:World}{A:Around}{E:Value->Shared->Prop}{s:Shared}
set_option maxRecDepth 100000 in
end
end L2
namespace Att
open PySem PySem.W PySem.Calls PyProof.Rows
theorem b38 {P:Params}: ∀(ns:List Int) (vs:List Value),WellAll P h vs (ns.map WData.int)->IntsAre vs ns:=by
 intro ns
 induction ns with
 | nil=>
  intro vs w;rw[kF]at w;cases w;exact .nil
 | cons n ns ih=>
  intro vs w;rw[cN]at w;cases w with
  | cons a b=>
   cases a;exact .cons _ _ (ih _ b)
theorem cV1 {l:OpenLaw}{n:Nat}(hn:l.most=some n){P:Params}{h:Heap}{args:List WData}{vals:List Value}
  (hpre:l.row.toRowW.claim.pre args=true) (hwl:WellAll P h vals args) :
  ∃a vs ns,vals=[Value.ref a]/\args=[WData.list<|ns.map WData.int]/\h.get? a=some {cls:= .type "list",data:= .seq vs.toArray}/\IntsAre vs ns/\ns.length<=n:=by
 have hsh:WShape.hasAll [] args [.list .int]=true:=(pre_splitW hpre).1;have hc:l.pre.holds [] {args:=args}=true:=(pre_splitW hpre).2;obtain⟨d,r,rfl,h1,h2⟩:=hasAllW_cons hsh;obtain rfl:=hasAllW_nil h2;obtain⟨xs,rfl,h3⟩:=hasW_list h1;obtain⟨ns,rfl⟩:=items_int h3;have hlen:ns.length<=n:=by
  unfold OpenLaw.pre at hc;have h4:(WTm.not<|.lt (.lit<|.int (n:Int))<|.len<|.arg 0).holds [] {args:=[.list<|ns.map .int]}=true:=by
   have h4:=(holds_andW hc).1;rw[hn]at h4;exact h4
  have h5:=condW_of h4 (w_not<|w_lt w_lit<|w_len_list<|w_arg rfl);rw[aH]at h5;refine Nat.le_of_not_lt λq=> ?_
  have q':(n:Int)< ((ns.length:Nat):Int):=aa
  first
   | (rw[kC q']at h5;exact absurd h5 ac)
   | (simp at h5;omega)
 cases hwl with
 | cons w1 w2=>
  cases w2;cases w1 with
  | list ho hall=>exact⟨_,_,ns,rfl,rfl,ho,b38 ns _ hall,hlen⟩
theorem cV2 (l:OpenLaw)(args:List WData):l.row.toRowW.claim.post args (.bool true) args=true:=
 postW_of (r:=l.row.toRowW) (X:=(true==true))
  (show WShape.has [] (.bool true) .bool=true by first|rfl|decide|simp[WShape.has,WShape.arms,WShape.armsAll])
  (show(WTm.eq .res<|.lit<|.bool true).value [] {args:=args,res:=some (.bool true),after:=args}=some (.bool<|true==true)from w_eq_bool (w_res rfl) w_lit) rfl
theorem attach_call {l:OpenLaw}{XP:(Str->Option Value)->Heap->Prop}{d:DefRec}
  (hn:l.most=some n) (hdf:d.params.defaults=[])
  (call: ∀(w:World) (s₀ s₁:Shared) (mg mb:Str->Option Value) (fa:Addr) (o:Obj) (pm cd doc:Value) (a:Addr) (vs:List Value) (ns:List Int),
   Ground q loose [] XP w s₀ mg mb s₁.heap->YP w s₁.heap->
   s₁.heap.get? fa=some o->o.data= .func (docDef d.name d.params d.body d.scope pm cd doc)->s₁.heap.CodeRec cd d.name->mg d.name=some (.ref fa)->
   s₁.heap.get? a=some {cls:= .type "list",data:= .seq vs.toArray}->IntsAre vs ns->ns.length<=n->s₁.gens= #[]->
   codeAny (model l.prog w) callerA (.call (.ref fa) ⟨[.ref a],[]⟩) (λr s'=>r= .ok (.ret<|.bool true)/\OldK s₁.heap s'.heap/\s'.os=s₁.os/\AllBare s'.gens) s₁) :
  WalkO q loose XP YP l.row.toRowW d [] (λf vs=>PySem.call f vs):=by
 intro w s₀ s₁ mg mb G Y fa o pm cd doc dV kV ho hd hcd hD hmg hg args vals as hpre hlay hrd hwl hlo;obtain rfl:dV= .none:=Dflts.none hD hdf;obtain rfl:kV= .none:=Dflts.noKw hD;obtain⟨a,vs,ns,rfl,rfl,hobj,hints,hlen⟩:=cV1 hn hpre hwl;refine enter_call (uE (call w s₀ s₁ mg mb fa o pm cd doc a vs ns G Y ho (fd_plain hd) hcd hmg hobj hints hlen hg) λr s' hq=> ?_)
 obtain⟨rfl,h2,h3,h4⟩:=hq;exact⟨.inl ⟨.bool true,.bool true,[],rfl,λ_=>rfl,.bool true,cV2 l _,λ_=>⟨List.Pairwise.nil,λ_ hm=>(nomatch hm)⟩⟩,h2,h3,h4⟩
end Att
namespace L2
theorem bO4: ∀{vs:List Value} {ns:List Int},IntsAre vs ns->Vals (ns.map V.int) vs
 | _,_,.nil=> .nil
 | _,_,.cons n t h=> .cons ⟨t,rfl⟩ (bO4 h)
def Only (H:Hp):Prop:= ∀b,H b=none\/ ∃o xs,H b=some (.frz o<|.lst xs)
theorem d33 {P:Program}{w:World}{K:Frag}{mg mb:Str->Option Value}{CX:CXT}{k:Nat}{fa a:Addr}{fd:FuncData}{x:Str}{sp:Sp}{s₁:Shared}{vs:List Value}{ns:List Int}
  (KX:K.In s₁.heap) (hns:s₁.heap.Ns mainGlobals mg) (hb:s₁.heap.Ns builtinsNs mb) (hbb: ∀x:Str,x≠"__name__"->mb x=bootBuiltins x) (hlim:s₁.heap.NoLimit) (hg:s₁.gens= #[])
  (ha:s₁.heap.get? a=some {cls:= .type "list",data:= .seq vs.toArray}) (hi:IntsAre vs ns) (hl:ns.length<=sizeLine) (hr:gT k callerA)
  (F: ∀base:Heap,K.In base->base.Ns mainGlobals mg->sC P w K mg base CX k fa fd [x] sp) (hbind: ∀(s:Shared) (u:Value),BindsTo s fd ⟨[u],[]⟩ [(x,u)])
  (hsp: ∀H:Hp,Only H->SqL K H a (ns.map V.int)->sp [.ref a] H (λv _=>v= .bl true) λ_ _ _=>False)
  (hCX: ∀H e s',CX [] H s₁ (λ_ _ _=>False) e s'->False) :
  codeAny (model P w) callerA (.call (.ref fa) ⟨[.ref a],[]⟩) (λr s'=>r= .ok (.ret<|.bool true)/\OldK s₁.heap s'.heap/\s'.os=s₁.os/\AllBare s'.gens) s₁:=by
 have rv:=bO4 hi;have lenV:=hi.length;have core: ∀H:Hp,Only H->SqL K H a (ns.map V.int)->HOk P w H s₁.heap->(∀b,H b≠none->b=a)->(H a≠none->K.lookup a=none)->
   codeAny (model P w) callerA (.call (.ref fa) ⟨[.ref a],[]⟩) (λr s'=>r= .ok (.ret<|.bool true)/\OldK s₁.heap s'.heap/\s'.os=s₁.os/\AllBare s'.gens) s₁:=by
  intro H hO hS hok hA hK;have base_of: ∀{b:Addr} {o:Obj},s₁.heap.get? b=some o->H b=none->(bT6 s₁.heap H).get? b=some o:=λe n=>d09 e n
  have noA: ∀{b:Addr} {o:Obj} {es:Array DictEntry} {ep:Nat},s₁.heap.get? b=some o->o.data= .dict es ep->H b=none:=λ{b o es ep} e d=>by
   cases q:H b with
   | none=>rfl
   | some u=>
    have e':b=a:=hA b (by rw[q];simp)
    subst e';rw[ha]at e;cases e;have d':Data.seq vs.toArray _=Data.dict es ep:=d;cases d'
  have nsK: ∀{b:Addr} {m:Str->Option Value},s₁.heap.Ns b m->(bT6 s₁.heap H).Ns b m:=λ{b m} ⟨o,es,ep,e,d,r⟩=>⟨o,es,ep,base_of e<|noA e d,d,r⟩
  have hKb:K.In (bT6 s₁.heap H):=λb o e=>base_of (KX b o e) (by
   cases q:H b with
   | none=>rfl
   | some u=>
    have e':b=a:=hA b (by rw[q];simp)
    subst e';rw[hK (by rw[q];simp)]at e;cases e)
  have hM:Mod K mg (bT6 s₁.heap H):=⟨hKb,nsK hns,⟨mb,nsK hb,hbb⟩,let ⟨mc,h1,h2⟩:=hlim;⟨mc,nsK h1,h2⟩⟩;have e0:cF6 P w K mg (bT6 s₁.heap H) callerA [] s₁ H:=⟨rfl,hM,λb o e=>dG9 e,le_of_eq<|cT9 _ _,trivial,λb hb=>absurd (show b∈([]:List Addr)from hb) af,hok,.of_eq hg⟩
  refine uE ((F _ hKb<|nsK hns).run callerA [] s₁ H ⟨[.ref a],[]⟩ [.ref a] [.ref a] _ _ hr e0 (hbind s₁<|.ref a) (.cons rfl .nil)<|hsp H hO hS) λr s' h=> ?_
  cases r with
  | error e=>exact(hCX H e s' h).elim
  | ok fl=>
   cases fl with
   | next=>exact False.elim h
   | brk=>exact False.elim h
   | cont=>exact False.elim h
   | ret u=>
    obtain⟨v,H',os,bare,un,hok',r',q⟩:=h;have q':v= .bl true:=q;subst q';obtain rfl:u=Value.bool true:=r';refine⟨rfl,OldK.of_keep λb o e=> ?_,os,bare⟩
    cases q:H b with
    | none=>exact un.keep b o e q (by intro z;exact absurd (show b∈([]:List Addr)from z) af) af
    | some u=>
     rcases hO b with z| ⟨ob,xs,z⟩
     .rw[q]at z;cases z
     .have z2:=un.frzs b ob _ z;obtain⟨e1,_⟩:=hok b _ z;obtain⟨e2,_⟩:=hok' b _ z2;rw[e]at e1;cases e1;exact e2
 cases hk:K.lookup a with
 | some o=>
  have e:=KX a o hk;rw[ha]at e;cases e;refine core (λ_=>none) (λ_=> .inl rfl) (.inr ⟨_,vs.toArray,_,hk,rfl,rfl,rfl,by rw[bB,lenV];exact hl,by exists rv⟩) (λb u z=>by have z':(none:Option HO)=some u:=z;cases z') (λb z=>absurd rfl z) λz=>absurd rfl z
 | none=>
  refine core (λb=>if b=a then some (.frz {cls:= .type "list",data:= .seq vs.toArray}<|.lst<|ns.map V.int)else none) (λb=> ?_) (.inl<|.inr ⟨{cls:= .type "list",data:= .seq vs.toArray},a8 rfl⟩) (λb u z=> ?_) (λb z=> ?_) λ_=>hk
  .by_cases hb:b=a
   .exact .inr ⟨_,_,a8 hb⟩
   .exact .inl (a6 hb)
  .by_cases hb:b=a
   .have z':=(a8 hb).symm.trans z;cases z';subst hb;exact⟨ha,by rw[aH];exact hl,vs,_,rv,ha⟩
   .have z':=(a6 hb).symm.trans z;cases z'
  .by_cases hb:b=a
   .exact hb
   .exact absurd (a6 hb) z
theorem walk_of {l:PySem.W.OpenLaw}{XP:(Str->Option Value)->Heap->Prop}{d:DefRec}{K:Params->Frag}{CX:World->CXT}{sp:World->Sp}
  (hn:l.most=some n) (hn2:n<=sizeLine) (hdf:d.params.defaults=[]) (hr:gT k callerA)
  (hY: ∀(w:World) (h:Heap),YP w h->(K w.params).In h)
  (F: ∀(w:World) (mg:Str->Option Value) (fa:Addr) (h:Heap),(K w.params).In h->h.Ns mainGlobals mg->mg d.name=some (.ref fa)->
   ∃fd:FuncData,(∀(s:Shared) (u:Value),BindsTo s fd ⟨[u],[]⟩ [(x,u)])/\
    ∀base:Heap,(K w.params).In base->base.Ns mainGlobals mg->sC l.prog w (K w.params) mg base (CX w) k fa fd [x] (sp w))
  (hsp: ∀(w:World) (H:Hp) (a:Addr) (ns:List Int),ns.length<=n->Only H->SqL (K w.params) H a (ns.map V.int)->sp w [.ref a] H (λv _=>v= .bl true) λ_ _ _=>False)
  (hCX: ∀(w:World) (H:Hp) (s:Shared) (e:Value) (s':Shared),CX w [] H s (λ_ _ _=>False) e s'->False) :
  PySem.W.WalkO q loose XP YP l.row.toRowW d [] (λf vs=>PySem.call f vs):=by
 refine Att.attach_call hn hdf λw s₀ s₁ mg mb fa o pm cd doc a vs ns G Y ho hd hcd hmg hobj hints hlen hg=> ?_
 have KX:=hY w _ Y;obtain⟨fd,hb,hF⟩:=F w mg fa _ KX G.T.g hmg;exact d33 KX G.T.g G.T.b G.T.builtins G.T.nolimit hg hobj hints (aG hlen hn2) hr hF hb (λH hO hS=>hsp w H a ns hlen hO hS) λH e s'=>hCX w H s₁ e s'
def iV (s:Stmt):Arguments:=match s with
 | .FunctionDef _ a _ _ _ _ _ _ _ _=>a
 | _=>{posonlyargs:=[],args:=[],vararg:=none,kwonlyargs:=[],kw_defaults:=[],kwarg:=none,defaults:=[]}
nonrec def dF (s:Stmt):List Stmt:=match s with
 | .FunctionDef _ _ b _ _ _ _ _ _ _=>b
 | _=>[]
def aD (s:Stmt):Scope:=match s with
 | .FunctionDef _ _ _ _ _ _ sc _ _ _=>sc
 | _=>{kind:= .function,names:=[],isGenerator:=false,isCoroutine:=false}
abbrev CX0:CXT:=λ_ _ _ _ _ _=>False
abbrev E0:XK:=λ_ _ _=>False
structure Fun (K:Frag)(x qual:Str)(st:Stmt)(f:Addr)(fd:FuncData):Prop where
 ex: ∃(oc:Value) (od:Option Addr) (kV doc pm:Value) (an:Option Addr) (cdv ct:Value) (osl:Array (Option Value)),
  fd=fnOf x qual (iV st) (dF st) (aD st) .none kV doc pm an cdv ct/\K.lookup f=some ⟨oc,od,.func fd,osl⟩/\codeIn K cdv qual=true
 kp:keepIn K (.ref f)=true
section
variable {P:Program}{w:World}{K:Frag}{mg:Str->Option Value}{base:Heap}
theorem Fun.ok {ps:List Str}{sp:Sp}(F:Fun K x qual st f fd)(S:aW N ps (aD st))(len: ∀vs H Q E,sp vs H Q E->vs.length=ps.length)
  (hbody: ∀(cdv:Value) (A:Around) (outer:List Env) (s:Shared) (H:Hp) (vs:List V) (Q:VK) (E:XK),gT k (A.deeper<|envOfC qual (aD st) s.heap.objs.size f cdv)->sp vs H Q E->
   ∃t,PSs (t9 CX0 P w K mg base N qual (aD st) f cdv A outer s H E).nox (dF st) t/\t {nx:=λ_ H'=>Q .non H',rt:=Q} (start N vs) H):sC<$>CX0 (k+1) f fd ps sp:=by
 obtain⟨oc,od,kV,doc,pm,an,cdv,ct,osl,rfl,lk,hcd⟩:=F.ex;refine cN4 lk hcd S len λA outer s H vs Q E hr hsp=> ?_
 obtain⟨t,h,q⟩:=hbody cdv A outer s H vs Q E hr hsp;exact⟨t,h.nox,q⟩
theorem Fun.binds {ps:List Str}(F:Fun K x qual st f fd)
  (h: ∀(kV doc pm:Value) (an:Option Addr) (cdv ct:Value) (us:List Value),us.length=ps.length->bindArgs (fnOf x qual (iV st) (dF st) (aD st) .none kV doc pm an cdv ct) ⟨us,[]⟩=pure (ps.zip us)):Binds K fd ps []:=by
 obtain⟨oc,od,kV,doc,pm,an,cdv,ct,osl,rfl,lk,hcd⟩:=F.ex;exact .all (h kV doc pm an cdv ct)
theorem aV7 {oc:Value}{an:Option Addr}{osl:Array (Option Value)}{kV doc pm cdv ct:Value}(l:K.lookup f=some ⟨oc,od,.func<|fnOf x qual (iV st) (dF st) (aD st) .none kV doc pm an cdv ct,osl⟩)
  (c:codeIn K cdv qual=true) (k:keepIn K (.ref f)=true):Fun K x qual st f (fnOf x qual (iV st) (dF st) (aD st) .none kV doc pm an cdv ct):=⟨⟨oc,od,kV,doc,pm,an,cdv,ct,osl,rfl,l,c⟩,k⟩
end
section
variable {X:Cx}
theorem pv (i:Nat)(hN:↥(X.N[i]? =some x))(hv:Vis X.env.scope x:=by first|exact Or.inl rfl|exact Or.inr (Or.inl rfl)|exact Or.inr (Or.inr rfl))(hd:⇑(x∪0))
  (hcd:⇑((x==("__classdict__":Str))=false)):PE X (.Name x pos) (a63 i):=pe_var hN hv hd hcd
end
def gZ (H H':Hp):Prop:= ∀b o,H b=some o->H' b=some o
theorem gZ.refl (H:Hp):gZ H H:=λ_ _ h=>h
theorem gZ.trans {H H1 H2:Hp}(a:gZ H H1)(b:gZ H1 H2):gZ H H2:=λc o h=>b c o (a c o h)
theorem gZ.free {H H':Hp}(e:gZ H H')(h:H' l=Option.none):H l=Option.none:=by
 cases q:H l with
 | none=>rfl
 | some o=>
  rw[e l o q]at h;cases h
theorem gZ.seq {H H':Hp}{xs:List V}(e:gZ H H')(h:SqL K H a xs):SqL K H' a xs:=by
 rcases h with(h| ⟨o,h⟩)|h
 .exact .inl (.inl<|e _ _ h)
 .exact .inl (.inr ⟨o,e _ _ h⟩)
 .exact .inr h
end L2
namespace M
inductive D where
 | non|bl (b:Bool)|int (i:Int)|str (x:Str)|ty (n:String)
 | tup (l:List D)|lst (l:List D)|rol (l:List D)
 | obj (C:Addr) (ks:List Str) (l:List D)
 | adr (a:Addr)
 | xob (a d:Addr) (ks:List Str) (l:List D)
abbrev AS:=Addr->Prop
def KT (K:Frag)(a:Addr)(vs:List V):Prop:=
 ∃(o:Obj) (its:Array Value) (n:Nat),K.lookup a=some o/\o.cls= .type "tuple"/\o.data= .seq its n/\its.size<=sizeLine/\Vals vs its.toList
def KL (K:Frag)(a:Addr)(vs:List V):Prop:=
 ∃(o:Obj) (its:Array Value) (n:Nat),K.lookup a=some o/\o.cls= .type "list"/\o.dict=none/\o.data= .seq its n/\its.size<=sizeLine/\Vals vs its.toList
def OkC (K:Frag)(C:Addr)(ks:List Str):Prop:=Cls K C/\ ∀f∈ks,a64 K C f
mutual
def Rep (K:Frag)(A:AS)(H:Hp):D->V->Prop
 | .non,v=>v= .non
 | .bl b,v=>v= .bl b
 | .int i,v=>v= .int i
 | .str x,v=>v= .str x
 | .ty n,v=>v= .ty n
 | .tup l,v=> ∃a vs,v= .ref a/\((¬A a/\Rd H a (.tup vs))\/KT K a vs)/\bY K A H l vs
 | .lst l,v=> ∃a vs,v= .ref a/\ ¬A a/\H a=some (.lst vs)/\bY K A H l vs
 | .rol l,v=> ∃a vs,v= .ref a/\((¬A a/\Rd H a (.lst vs))\/KL K a vs)/\bY K A H l vs
 | .obj C ks l,v=> ∃a dx vs,v= .ref a/\ ¬A a/\H a=some (.ins C dx<|ks.zip vs)/\ks.length=vs.length/\bY K A H l vs/\OkC K C ks
 | .adr a,v=>v= .ref a
 | .xob a d ks l,v=> ∃vs,v= .ref a/\ ¬A d/\H d=some (.xd<|ks.zip vs)/\ks.length=vs.length/\bY K A H l vs
def bY (K:Frag)(A:AS)(H:Hp):List D->List V->Prop
 | [],vs=>vs=[]
 | d::ds,vs=> ∃v vr,vs=v::vr/\Rep K A H d v/\bY K A H ds vr
end
section
variable {K:Frag}{A A':AS}{H H':Hp}
def nE (A:AS)(H:Hp)(A':AS)(H':Hp):Prop:= ∀b o,¬A b->H b=some o-> ¬A' b/\H' b=some o
theorem Rd.pres (p:nE A H A' H'){u:HO}(n: ¬A a)(r:Rd H a u): ¬A' a/\Rd H' a u:=by
 rcases r with r| ⟨o,r⟩
 .exact⟨(p a _ n r).1,.inl (p a _ n r).2⟩
 .exact⟨(p a _ n r).1,.inr ⟨o,(p a _ n r).2⟩⟩
mutual
theorem Rep.mono (p:nE A H A' H'): ∀{d:D} {v:V},Rep K A H d v->Rep K A' H' d v
 | .non,_,h=>h
 | .bl _,_,h=>h
 | .int _,_,h=>h
 | .str _,_,h=>h
 | .ty _,_,h=>h
 | .tup l,v,h=>by
  simp only[Rep]at h⊢;obtain⟨a,vs,e,c,r⟩:=h;refine⟨a,vs,e,?_,bY.mono p r⟩;rcases c with⟨n,c⟩|c
  .exact .inl (Rd.pres p n c)
  .exact .inr c
 | .lst l,v,h=>by
  simp only[Rep]at h⊢;obtain⟨a,vs,e,n,c,r⟩:=h;exact⟨a,vs,e,(p a _ n c).1,(p a _ n c).2,bY.mono p r⟩
 | .rol l,v,h=>by
  simp only[Rep]at h⊢;obtain⟨a,vs,e,c,r⟩:=h;refine⟨a,vs,e,?_,bY.mono p r⟩;rcases c with⟨n,c⟩|c
  .exact .inl (Rd.pres p n c)
  .exact .inr c
 | .obj C ks l,v,h=>by
  simp only[Rep]at h⊢;obtain⟨a,dx,vs,e,n,c,hl,r,ok⟩:=h;exact⟨a,dx,vs,e,(p a _ n c).1,(p a _ n c).2,hl,bY.mono p r,ok⟩
 | .adr _,_,h=>h
 | .xob a d ks l,v,h=>by
  simp only[Rep]at h⊢;obtain⟨vs,e,n,c,hl,r⟩:=h;exact⟨vs,e,(p d _ n c).1,(p d _ n c).2,hl,bY.mono p r⟩
theorem bY.mono (p:nE A H A' H'): ∀{l:List D} {vs:List V},bY K A H l vs->bY K A' H' l vs
 | [],_,h=>by simp only[bY]at h ⊢; exact h
 | d::ds,vs,h=>by
  simp only[bY]at h⊢;obtain⟨v,vr,e,r,rs⟩:=h;exact⟨v,vr,e,Rep.mono p r,bY.mono p rs⟩
end
theorem bY.length: ∀{l:List D} {vs:List V},bY K A H l vs->l.length=vs.length
 | [],_,h=>by simp only[bY]at h;subst h;rfl
 | d::ds,vs,h=>by
  simp only[bY]at h;obtain⟨v,vr,rfl,_,rs⟩:=h;simp only[dI,bY.length rs]
theorem bY.nil:bY K A H [] []:=by simp only[bY]
theorem bY.cons {d:D}{v:V}{l:List D}{vs:List V}(r:Rep K A H d v)(rs:bY K A H l vs):bY K A H (d::l) (v::vs):=by
 simp only[bY];exact⟨v,vs,rfl,r,rs⟩
theorem bY.uncons {d:D}{l:List D}{vs:List V}(h:bY K A H (d::l) vs): ∃v vr,vs=v::vr/\Rep K A H d v/\bY K A H l vr:=by
 simpa only[bY]using h
theorem bY.unnil {vs:List V}(h:bY K A H [] vs):vs=[]:=by simpa only[bY]using h
theorem bY.append: ∀{l m:List D} {vs ws:List V},bY K A H l vs->bY K A H m ws->bY K A H (l++m) (vs++ws)
 | [],_,_,_,h,g=>by rw[h.unnil];exact g
 | d::l,m,vs,ws,h,g=>by
  obtain⟨v,vr,rfl,r,rs⟩:=h.uncons;exact .cons r (bY.append rs g)
theorem bY.get: ∀{l:List D} {vs:List V} {i:Nat} {d:D},bY K A H l vs->l[i]? =some d-> ∃v,vs[i]? =some v/\Rep K A H d v
 | [],_,_,_,_,e=>by simp at e
 | d::l,vs,0,d',h,e=>by
  obtain⟨v,vr,rfl,r,rs⟩:=h.uncons;simp at e;subst e;exact⟨v,af,r⟩
 | d::l,vs,i+1,d',h,e=>by
  obtain⟨v,vr,rfl,r,rs⟩:=h.uncons;obtain⟨w,h1,h2⟩:=bY.get (i:=i) rs (by exists e)
  exact⟨w,by simpa using h1,h2⟩
theorem bY.set: ∀{l:List D} {vs:List V} {d:D} {v:V} (i:Nat),bY K A H l vs->Rep K A H d v->bY K A H (l.set i d) (vs.set i v)
 | [],_,_,_,_,h,_=>by rw[h.unnil];exact .nil
 | d'::l,vs,d,v,0,h,g=>by
  obtain⟨w,vr,rfl,r,rs⟩:=h.uncons;exact .cons g rs
 | d'::l,vs,d,v,i+1,h,g=>by
  obtain⟨w,vr,rfl,r,rs⟩:=h.uncons;exact .cons r (bY.set i rs g)
theorem bY.drop: ∀{l:List D} {vs:List V} (n:Nat),bY K A H l vs->bY K A H (l.drop n) (vs.drop n)
 | _,_,0,h=>h
 | [],_,n+1,h=>by rw[h.unnil];exact .nil
 | d::l,vs,n+1,h=>by
  obtain⟨v,vr,rfl,r,rs⟩:=h.uncons;exact bY.drop n rs
theorem bY.take: ∀{l:List D} {vs:List V} (n:Nat),bY K A H l vs->bY K A H (l.take n) (vs.take n)
 | _,_,0,h=>by simp only[List.take_zero];exact .nil
 | [],_,n+1,h=>by rw[h.unnil];exact .nil
 | d::l,vs,n+1,h=>by
  obtain⟨v,vr,rfl,r,rs⟩:=h.uncons;exact .cons r (bY.take n rs)
theorem bY.rep {l:List D}{vs:List V}(h:bY K A H l vs): ∀k:Nat,bY K A H (replicate k l).flatten (replicate k vs).flatten
 | 0=> .nil
 | k+1=>by
  rw[jZ,jZ,nT,nT];exact .append h (h.rep k)
theorem bY.reverse: ∀{l:List D} {vs:List V},bY K A H l vs->bY K A H l.reverse vs.reverse
 | [],_,h=>by rw[h.unnil];exact .nil
 | d::l,vs,h=>by
  obtain⟨v,vr,rfl,r,rs⟩:=h.uncons;rw[zH,zH];exact .append (bY.reverse rs) (.cons r .nil)
theorem nE.same (s:gZ H H'):nE A H A H':=λb o n e=>⟨n,s b o e⟩
theorem nE.sub (s:gZ H H')(h: ∀a,A' a->A a):nE A H A' H':=λb o n e=>⟨λq=>n (h b q),s b o e⟩
theorem nE.fresh (s:gZ H H')(n:H a=none):nE A H (λb=>A b\/b=a) H':=λb o nb e=>
 ⟨λq=>q.elim nb λz=>(by subst z;rw[n]at e;cases e),s b o e⟩
theorem nE.upd {a:Addr}{o:HO}(h:A a):nE A H A (upd H a o):=λb o' nb e=>⟨nb,by rw[cI λz=>nb (by subst z;exact h)];exact e⟩
end
inductive B where
 | pu (d:D)|ow (l:List D)|bo (l:List D)
nonrec def B.d:B->D
 | .pu d=>d
 | .ow l=> .lst l
 | .bo l=> .lst l
abbrev Ev:=List (Option B)
def Own (ρ:Ev)(σ:L2.St):AS:=λa=> ∃(i:Nat) (l:List D),ρ[i]? =some (some<|.ow l)/\σ[i]? =some (some<|.ref a)
structure C0 where
 H0:Hp
 A0:AS
def Av (C:C0)(ρ:Ev)(σ:L2.St):AS:=λa=>C.A0 a\/Own ρ σ a
structure EOk (K:Frag)(C:C0)(ρ:Ev)(σ:L2.St)(H:Hp):Prop where
 len:ρ.length=σ.length
 pu: ∀(i:Nat) (d:D),ρ[i]? =some (some<|.pu d)-> ∃v,σ[i]? =some (some v)/\Rep K (Av C ρ σ) H d v
 ow: ∀(i:Nat) (l:List D),ρ[i]? =some (some<|.ow l)-> ∃a vs,σ[i]? =some (some<|.ref a)/\H a=some (.lst vs)/\C.H0 a=none/\bY K (Av C ρ σ) H l vs
 inj: ∀(i j:Nat) (l l':List D) (a:Addr),ρ[i]? =some (some<|.ow l)->ρ[j]? =some (some<|.ow l')->σ[i]? =some (some<|.ref a)->σ[j]? =some (some<|.ref a)->i=j
 bo: ∀(i:Nat) (l:List D),ρ[i]? =some (some<|.bo l)-> ∃a vs,σ[i]? =some (some<|.ref a)/\C.A0 a/\C.H0 a=some (.lst vs)/\bY K (Av C ρ σ) H l vs
 ext:gZ C.H0 H
 a0: ∀a,C.A0 a->C.H0 a≠none
section
variable {K:Frag}{C:C0}{ρ ρ':Ev}{σ σ':L2.St}{H H':Hp}
theorem EOk.avSome (I:EOk K C ρ σ H)(h:Av C ρ σ a):H a≠none:=by
 rcases h with h| ⟨i,l,h1,h2⟩
 .intro z;cases e:C.H0 a with
  | none=>exact I.a0 a h e
  | some o=>rw[I.ext a o e]at z;cases z
 .obtain⟨b,vs,h3,h4,_⟩:=I.ow i l h1;rw[h2]at h3;cases h3;rw[h4];simp
theorem EOk.same (I:EOk K C ρ σ H)(s:gZ H H'):EOk K C ρ σ H' where
 len:=I.len
 pu:=λi d h=>let ⟨v,h1,h2⟩:=I.pu i d h;⟨v,h1,h2.mono<|.same s⟩
 ow:=λi l h=>let ⟨a,vs,h1,h2,h3,h4⟩:=I.ow i l h;⟨a,vs,h1,s _ _ h2,h3,h4.mono<|.same s⟩
 inj:=I.inj
 bo:=λi l h=>let ⟨a,vs,h1,h2,h3,h4⟩:=I.bo i l h;⟨a,vs,h1,h2,h3,h4.mono<|.same s⟩
 ext:=I.ext.trans s
 a0:=I.a0
theorem get_set_ne {l:List α}{x:α}(h:i≠j):(l.set i x)[j]? =l[j]? :=by
 rw[zI];simp[h]
theorem jC {l:List α}{x:α}(h:i<l.length):(l.set i x)[i]? =some x:=by
 rw[zI];simp[h]
theorem bC {l:List α}{x y:α}(h:(l.set i x)[j]? =some y):(i=j/\y=x/\i<l.length)\/(i≠j/\l[j]? =some y):=by
 by_cases e:i=j
 .subst e;rw[zI]at h
  by_cases hl:i<l.length
  .simp[hl]at h;exact .inl ⟨rfl,h.symm,hl⟩
  .simp[hl]at h
 .exact .inr ⟨e,by rw[get_set_ne e]at h;exact h⟩
def uL (K:Frag)(A:AS)(H H':Hp):B->V->Prop
 | .pu d,v=>Rep K A H' d v
 | .ow l,v=> ∃a vs,v= .ref a/\H a=none/\H' a=some (.lst vs)/\bY K (λb=>A b\/b=a) H' l vs
 | .bo _,_=>False
theorem uL.rep {A:AS}(hA: ∀a,A a->H a≠none): ∀{b:B} {v:V},uL K A H H' b v->Rep K A H' b.d v
 | .pu d,v,h=>h
 | .ow l,v,h=>by
  obtain⟨a,vs,e,n,h1,r⟩:=h;show Rep K A H' (.lst l) v;simp only[Rep];exact⟨a,vs,e,λz=>hA a z n,h1,r.mono λb o nb q=>⟨λz=>nb (.inl z),q⟩⟩
 | .bo l,v,h=>h.elim
theorem EOk.store (I:EOk K C ρ σ H){b:B}{v:V}{H1:Hp}(s:gZ H H1)(r:uL K (Av C ρ σ) H H1 b v)(hi:i<σ.length):EOk K C (ρ.set i<|some b) (σ.set i<|some v) H1:=by
 have I1:=I.same s;have hir:i<ρ.length:=by rw[I.len];exact hi
 cases b with
 | pu d=>
  have sub: ∀a,Av C (ρ.set i<|some<|.pu d) (σ.set i<|some v) a->Av C ρ σ a:=by
   rintro a (z| ⟨j,l,h1,h2⟩)
   .exact .inl z
   .rcases bC h1 with⟨rfl,h3,_⟩| ⟨ne,h3⟩
    .cases h3
    .rw[get_set_ne ne]at h2;exact .inr ⟨j,l,h3,h2⟩
  refine⟨by rw[dM,dM];exact I.len,?_,?_,?_,?_,I1.ext,I.a0⟩
  rotate_right
  .intro j l h;rcases bC h with⟨rfl,h3,_⟩| ⟨ne,h3⟩
   .cases h3
   .obtain⟨a,vs,h4,h5,h6,h7⟩:=I1.bo j l h3;exact⟨a,vs,by rw[get_set_ne ne];exact h4,h5,h6,h7.mono<|.sub (.refl _) sub⟩
  .intro j d' h;rcases bC h with⟨rfl,h3,_⟩| ⟨ne,h3⟩
   .cases h3;exact⟨v,jC hi,Rep.mono (.sub (.refl _) sub) r⟩
   .obtain⟨v',h4,h5⟩:=I1.pu j d' h3;exact⟨v',by rw[get_set_ne ne];exact h4,h5.mono<|.sub (.refl _) sub⟩
  .intro j l h;rcases bC h with⟨rfl,h3,_⟩| ⟨ne,h3⟩
   .cases h3
   .obtain⟨a,vs,h4,h5,h6,h7⟩:=I1.ow j l h3;exact⟨a,vs,by rw[get_set_ne ne];exact h4,h5,h6,h7.mono<|.sub (.refl _) sub⟩
  .intro j k l l' a h1 h2 h3 h4;rcases bC h1 with⟨rfl,z,_⟩| ⟨ne,z⟩
   .cases z
   .rcases bC h2 with⟨rfl,z',_⟩| ⟨ne',z'⟩
    .cases z'
    .rw[get_set_ne ne]at h3;rw[get_set_ne ne']at h4;exact I.inj j k l l' a z z' h3 h4
 | ow l0=>
  obtain⟨a0,vs0,rfl,n0,e0,r0⟩:=r;have sub: ∀a,Av C (ρ.set i<|some<|.ow l0) (σ.set i<|some<|.ref a0) a->Av C ρ σ a\/a=a0:=by
   rintro a (z| ⟨j,l,h1,h2⟩)
   .exact .inl (.inl z)
   .rcases bC h1 with⟨rfl,h3,_⟩| ⟨ne,h3⟩
    .rw[jC hi]at h2;cases h2;exact .inr rfl
    .rw[get_set_ne ne]at h2;exact .inl (.inr ⟨j,l,h3,h2⟩)
  have P:nE (Av C ρ σ) H (Av C (ρ.set i<|some<|.ow l0)<|σ.set i<|some<|.ref a0) H1:=λb o nb e=>
   ⟨λq=>(sub b q).elim nb λz=>(by subst z;rw[n0]at e;cases e),s b o e⟩
  refine⟨by rw[dM,dM];exact I.len,?_,?_,?_,?_,I1.ext,I.a0⟩
  rotate_right
  .intro j l h;rcases bC h with⟨rfl,h3,_⟩| ⟨ne,h3⟩
   .cases h3
   .obtain⟨a,vs,h4,h5,h6,h7⟩:=I.bo j l h3;exact⟨a,vs,by rw[get_set_ne ne];exact h4,h5,h6,h7.mono P⟩
  .intro j d' h;rcases bC h with⟨rfl,h3,_⟩| ⟨ne,h3⟩
   .cases h3
   .obtain⟨v',h4,h5⟩:=I.pu j d' h3;exact⟨v',by rw[get_set_ne ne];exact h4,h5.mono P⟩
  .intro j l h;rcases bC h with⟨rfl,h3,_⟩| ⟨ne,h3⟩
   .cases h3;refine⟨a0,vs0,jC hi,e0,?_,r0.mono λb o nb q=>⟨λz=>nb (sub b z),q⟩⟩
    cases e:C.H0 a0 with
    | none=>rfl
    | some o=>rw[I.ext _ _ e]at n0;cases n0
   .obtain⟨a,vs,h4,h5,h6,h7⟩:=I.ow j l h3;exact⟨a,vs,by rw[get_set_ne ne];exact h4,s _ _ h5,h6,h7.mono P⟩
  .intro j k l l' a h1 h2 h3 h4;have old: ∀{j:Nat} {l:List D},ρ[j]? =some (some<|.ow l)->σ[j]? ≠some (some<|.ref a0):=λ{j l} h z=>by
    obtain⟨b,vs,h4,h5,_⟩:=I.ow j l h;rw[z]at h4;cases h4;rw[n0]at h5;cases h5
   rcases bC h1 with⟨rfl,z,_⟩| ⟨ne,z⟩
   .rw[jC hi]at h3;cases h3;rcases bC h2 with⟨rfl,z',_⟩| ⟨ne',z'⟩
    .rfl
    .rw[get_set_ne ne']at h4;exact absurd h4 (old z')
   .rw[get_set_ne ne]at h3;rcases bC h2 with⟨rfl,z',_⟩| ⟨ne',z'⟩
    .rw[jC hi]at h4;cases h4;exact absurd h3 (old z)
    .rw[get_set_ne ne']at h4;exact I.inj j k l l' a z z' h3 h4
 | bo l0=>exact r.elim
theorem EOk.freeze (I:EOk K C ρ σ H){l:List D}(h:ρ[i]? =some (some<|.ow l)) :
  EOk K C (ρ.set i<|some<|.pu<|.lst l) σ H/\(∀a,Own (ρ.set i<|some<|.pu<|.lst l) σ a->Own ρ σ a)/\ ∃v,σ[i]? =some (some v)/\Rep K (Av C (ρ.set i<|some<|.pu<|.lst l) σ) H (.lst l) v:=by
 have sub: ∀a,Own (ρ.set i<|some<|.pu<|.lst l) σ a->Own ρ σ a:=by
  rintro a ⟨j,l',h1,h2⟩;rcases bC h1 with⟨rfl,h3,_⟩| ⟨ne,h3⟩
  .cases h3
  .exact⟨j,l',h3,h2⟩
 have subA: ∀a,Av C (ρ.set i<|some<|.pu<|.lst l) σ a->Av C ρ σ a:=λa z=>z.imp id (sub a)
 obtain⟨a,vs,h1,h2,h3,h4⟩:=I.ow i l h;have na: ¬Av C (ρ.set i<|some<|.pu<|.lst l) σ a:=by
  rintro(z| ⟨j,l',g1,g2⟩)
  .exact I.a0 a z h3
  .rcases bC g1 with⟨rfl,g3,_⟩| ⟨ne,g3⟩
   .cases g3
   .exact ne (I.inj i j l l' a h g3 h1 g2)
 have R:Rep K (Av C (ρ.set i<|some<|.pu<|.lst l) σ) H (.lst l) (.ref a):=by
  simp only[Rep];exact⟨a,vs,rfl,na,h2,h4.mono<|.sub (.refl _) subA⟩
 refine⟨⟨by rw[dM];exact I.len,?_,?_,?_,?_,I.ext,I.a0⟩,sub,.ref a,h1,R⟩
 rotate_right
 .intro j l' g;rcases bC g with⟨rfl,g3,_⟩| ⟨ne,g3⟩
  .cases g3
  .obtain⟨a',vs',g4,g5,g6,g7⟩:=I.bo j l' g3;exact⟨a',vs',g4,g5,g6,g7.mono<|.sub (.refl _) subA⟩
 .intro j d' g;rcases bC g with⟨rfl,g3,_⟩| ⟨ne,g3⟩
  .cases g3;exact⟨_,h1,R⟩
  .obtain⟨v',g4,g5⟩:=I.pu j d' g3;exact⟨v',g4,g5.mono<|.sub (.refl _) subA⟩
 .intro j l' g;rcases bC g with⟨rfl,g3,_⟩| ⟨ne,g3⟩
  .cases g3
  .obtain⟨a',vs',g4,g5,g6,g7⟩:=I.ow j l' g3;exact⟨a',vs',g4,g5,g6,g7.mono<|.sub (.refl _) subA⟩
 .intro j k l1 l2 a' g1 g2 g3 g4;rcases bC g1 with⟨rfl,z,_⟩| ⟨ne,z⟩
  .cases z
  .rcases bC g2 with⟨rfl,z',_⟩| ⟨ne',z'⟩
   .cases z'
   .exact I.inj j k l1 l2 a' z z' g3 g4
theorem EOk.write (I:EOk K C ρ σ H){l l':List D}{vs':List V}(h:ρ[i]? =some (some<|.ow l))(hs:σ[i]? =some (some<|.ref a))(r:bY K (Av C ρ σ) H l' vs') :
  EOk K C (ρ.set i<|some<|.ow l') σ (upd H a<|.lst vs'):=by
 have hi:i<ρ.length:=(jX.mp h).1;have sub: ∀b,Av C (ρ.set i<|some<|.ow l') σ b->Av C ρ σ b:=by
  rintro b (z| ⟨j,l2,h1,h2⟩)
  .exact .inl z
  .rcases bC h1 with⟨rfl,h3,_⟩| ⟨ne,h3⟩
   .exact .inr ⟨i,l,h,h2⟩
   .exact .inr ⟨j,l2,h3,h2⟩
 have own:Av C ρ σ a:= .inr ⟨i,l,h,hs⟩;have P:nE (Av C ρ σ) H (Av C (ρ.set i<|some<|.ow l') σ) (upd H a<|.lst vs'):=λb o nb e=>⟨λz=>nb (sub b z),(nE.upd own b o nb e).2⟩
 obtain⟨a1,vs,h1,h2,h3,h4⟩:=I.ow i l h;rw[hs]at h1;cases h1;refine⟨by rw[dM];exact I.len,?_,?_,?_,?_,?_,I.a0⟩
 rotate_left 3
 .intro j l2 g;rcases bC g with⟨rfl,g3,_⟩| ⟨ne,g3⟩
  .cases g3
  .obtain⟨a',vs',g4,g5,g6,g7⟩:=I.bo j l2 g3;exact⟨a',vs',g4,g5,g6,g7.mono P⟩
 rotate_left 1
 .intro j d' g;rcases bC g with⟨rfl,g3,_⟩| ⟨ne,g3⟩
  .cases g3
  .obtain⟨v',g4,g5⟩:=I.pu j d' g3;exact⟨v',g4,g5.mono P⟩
 .intro j l2 g;rcases bC g with⟨rfl,g3,_⟩| ⟨ne,g3⟩
  .cases g3;exact⟨a,vs',hs,iU,h3,r.mono P⟩
  .obtain⟨a',vs2,g4,g5,g6,g7⟩:=I.ow j l2 g3;refine⟨a',vs2,g4,?_,g6,g7.mono P⟩;rw[cI λz=> ?_]
   .exact g5
   .subst z;exact ne (I.inj i j l l2 a' h g3 hs g4)
 .intro j k l1 l2 a' g1 g2 g3 g4;have old: ∀{j:Nat} {l1:List D},(ρ.set i<|some<|.ow l')[j]? =some (some<|.ow l1)-> ∃l3,ρ[j]? =some (some<|.ow l3):=λ{j l1} g=>by
   rcases bC g with⟨rfl,z,_⟩| ⟨ne,z⟩
   .exact⟨l,h⟩
   .exact⟨l1,z⟩
  obtain⟨_,q1⟩:=old g1;obtain⟨_,q2⟩:=old g2;exact I.inj j k _ _ a' q1 q2 g3 g4
 .intro b o e;rw[cI λz=> ?_]
  .exact I.ext b o e
  .subst z;rw[h3]at e;cases e
nonrec def C0.raise (C:C0)(ρ:Ev)(σ:L2.St)(H:Hp)(D:(a:Addr)->Decidable (Own ρ σ a)):C0:=⟨λb=> @ite _ (Own ρ σ b) (D b) none (H b),C.A0⟩
open Classical in
theorem EOk.raise (I:EOk K C ρ σ H):EOk K (C.raise ρ σ H λ_=>inferInstance) ρ σ H/\gZ C.H0 (C.raise ρ σ H λ_=>inferInstance).H0:=by
 have e1: ∀b,Own ρ σ b->(C.raise ρ σ H λ_=>inferInstance).H0 b=none:=λb h=>a8 h
 have e2: ∀b,¬Own ρ σ b->(C.raise ρ σ H λ_=>inferInstance).H0 b=H b:=λb h=>a6 h
 have no: ∀b o,C.H0 b=some o-> ¬Own ρ σ b:=λb o e ⟨i,l,h1,h2⟩=>by
  obtain⟨a,vs,h3,h4,h5,_⟩:=I.ow i l h1;rw[h2]at h3;cases h3;rw[h5]at e;cases e
 have s1:gZ C.H0 (C.raise ρ σ H λ_=>inferInstance).H0:=λb o e=>by rw[e2 b<|no b o e];exact I.ext b o e
 refine⟨⟨I.len,I.pu,λi l h=> ?_,I.inj,λi l h=> ?_,λb o e=> ?_,λa h z=> ?_⟩,s1⟩
 .obtain⟨a,vs,h3,h4,h5,h6⟩:=I.ow i l h;exact⟨a,vs,h3,h4,e1 a ⟨i,l,h,h3⟩,h6⟩
 .obtain⟨a,vs,h3,h4,h5,h6⟩:=I.bo i l h;exact⟨a,vs,h3,h4,s1 _ _ h5,h6⟩
 .by_cases q:Own ρ σ b
  .rw[e1 b q]at e;cases e
  .rw[e2 b q]at e;exact e
 .cases e:C.H0 a with
  | none=>exact I.a0 a h e
  | some o=>rw[s1 a o e]at z;cases z
theorem EOk.lower {C C':C0}(I:EOk K C' ρ σ H)(s:gZ C.H0 C'.H0)(e:C'.A0=C.A0)(ha: ∀a,C.A0 a->C.H0 a≠none):EOk K C ρ σ H:=by
 obtain⟨H0',A0'⟩:=C';obtain⟨H0,A0⟩:=C;have e':A0'=A0:=e;subst e';refine⟨I.len,I.pu,λi l h=> ?_,I.inj,λi l h=> ?_,s.trans I.ext,ha⟩
 .obtain⟨a,vs,h3,h4,h5,h6⟩:=I.ow i l h;exact⟨a,vs,h3,h4,s.free h5,h6⟩
 .obtain⟨a,vs,h3,h4,h5,h6⟩:=I.bo i l h;refine⟨a,vs,h3,h4,?_,h6⟩;cases e:H0 a with
  | none=>exact absurd e (ha a h4)
  | some o=>
   have:=s a o e;have h5':H0' a=some (.lst vs):=h5;have this':H0' a=some o:=this;rw[h5']at this';cases this';exact e
end
def Frz (ρ ρ':Ev):Prop:=ρ'.length=ρ.length/\ ∀i:Nat,ρ'[i]? =ρ[i]? \/ ∃l:List D,ρ[i]? =some (some<|.ow l)/\ρ'[i]? =some (some<|.pu<|.lst l)
theorem Frz.refl (ρ:Ev):Frz ρ ρ:=⟨rfl,λ_=> .inl rfl⟩
theorem Frz.trans {a b c:Ev}(h:Frz a b)(g:Frz b c):Frz a c:=by
 refine⟨g.1.trans h.1,λi=> ?_⟩
 rcases g.2 i with e| ⟨l,e1,e2⟩
 .rcases h.2 i with e'| ⟨l,e1,e2⟩
  .exact .inl (e.trans e')
  .exact .inr ⟨l,e1,e.trans e2⟩
 .rcases h.2 i with e'| ⟨l',e3,e4⟩
  .exact .inr ⟨l,e'▸e1,e2⟩
  .rw[e4]at e1;cases e1
theorem Frz.own {ρ ρ':Ev}{σ:L2.St}(f:Frz ρ ρ')(h:Own ρ' σ a):Own ρ σ a:=by
 obtain⟨i,l,h1,h2⟩:=h;rcases f.2 i with e| ⟨l',_,e2⟩
 .exact⟨i,l,e▸h1,h2⟩
 .rw[e2]at h1;cases h1
theorem Frz.set {ρ:Ev}{l:List D}(h:ρ[i]? =some (some<|.ow l)):Frz ρ (ρ.set i<|some<|.pu<|.lst l):=by
 refine⟨dM,λj=> ?_⟩
 by_cases e:i=j
 .subst e;exact .inr ⟨l,h,jC (jX.mp h).1⟩
 .exact .inl (get_set_ne e)
section
variable {K:Frag}{C:C0}{ρ ρ':Ev}{σ:L2.St}{H H':Hp}
theorem Frz.av (f:Frz ρ ρ')(h:Av C ρ' σ a):Av C ρ σ a:=h.imp id f.own
theorem EOk.frz (I:EOk K C ρ σ H)(f:Frz ρ ρ'):EOk K C ρ' σ H:=by
 have ow': ∀{j:Nat} {l:List D},ρ'[j]? =some (some<|.ow l)->ρ[j]? =some (some<|.ow l):=λ{j l} h=>by
  rcases f.2 j with e| ⟨l',_,e2⟩
  .exact e▸h
  .rw[e2]at h;cases h
 refine⟨by rw[f.1];exact I.len,λi d h=> ?_,λi l h=> ?_,λi j l l' a h1 h2=>I.inj i j l l' a (ow' h1) (ow' h2),λi l h=> ?_,I.ext,I.a0⟩
 .rcases f.2 i with e| ⟨l,e1,e2⟩
  .obtain⟨v,h1,h2⟩:=I.pu i d (e▸h);exact⟨v,h1,h2.mono<|.sub (.refl _) λa=>f.av⟩
  .rw[e2]at h;cases h;obtain⟨a,vs,h1,h2,h3,h4⟩:=I.ow i l e1;refine⟨.ref a,h1,?_⟩;simp only[Rep];refine⟨a,vs,rfl,?_,h2,h4.mono<|.sub (.refl _) λa=>f.av⟩
   rintro(z| ⟨j,l',g1,g2⟩)
   .exact I.a0 a z h3
   .have:=I.inj i j l l' a e1 (ow' g1) h1 g2;subst this;rw[e2]at g1;cases g1
 .obtain⟨a,vs,h1,h2,h3,h4⟩:=I.ow i l (ow' h);exact⟨a,vs,h1,h2,h3,h4.mono<|.sub (.refl _) λa=>f.av⟩
 .have h':ρ[i]? =some (some<|.bo l):=by
   rcases f.2 i with e| ⟨l',_,e2⟩
   .exact e▸h
   .rw[e2]at h;cases h
  obtain⟨a,vs,h1,h2,h3,h4⟩:=I.bo i l h';exact⟨a,vs,h1,h2,h3,h4.mono<|.sub (.refl _) λa=>f.av⟩
end
abbrev UE:=Ev->(B->Ev->Prop)->Prop
abbrev UV:=Ev->(D->Ev->Prop)->Prop
abbrev UA:=Ev->(List D->Ev->Prop)->Prop
abbrev UT:=Ev->(Bool->Ev->Prop)->Prop
def lE (K:Frag)(t:UE):TE:=λσ H Q=> ∃C ρ Q0,EOk K C ρ σ H/\t ρ Q0/\
 ∀b ρ' v H',Q0 b ρ'->Frz ρ ρ'->gZ H H'->uL K (Av C ρ' σ) H H' b v->Q v H'
def lA (K:Frag)(t:UA):TA:=λσ H Q=> ∃C ρ Q0,EOk K C ρ σ H/\t ρ Q0/\
 ∀ds ρ' vs H',Q0 ds ρ'->Frz ρ ρ'->gZ H H'->bY K (Av C ρ' σ) H' ds vs->Q vs H'
def lT (K:Frag)(t:UT):TT:=λσ H Q=> ∃C ρ Q0,EOk K C ρ σ H/\t ρ Q0/\
 ∀b ρ' H',Q0 b ρ'->Frz ρ ρ'->gZ H H'->Q b H'
def cG0 (K:Frag)(A:AS)(H:Hp):D->V->Prop
 | .tup l,v=> ∃a vs,v= .ref a/\SqT K H a vs/\bY K A H l vs
 | .lst l,v=> ∃a vs,v= .ref a/\H a=some (.lst vs)/\bY K A H l vs
 | .rol l,v=> ∃a vs,v= .ref a/\SqL K H a vs/\bY K A H l vs
 | d,v=>Rep K A H d v
def lV (K:Frag)(t:UV):TE:=λσ H Q=> ∃C ρ Q0,EOk K C ρ σ H/\t ρ Q0/\
 ∀d ρ' v H',Q0 d ρ'->Frz ρ ρ'->gZ H H'->cG0 K (Av C ρ' σ) H' d v->Q v H'
def PU (X:Cx)(e:Expr)(t:UE):Prop:=PE X e (lE X.K t)
def PUV (X:Cx)(e:Expr)(t:UV):Prop:=PE X e (lV X.K t)
def PUA (X:Cx)(es:List Expr)(t:UA):Prop:=PA X es (lA X.K t)
def PUT (X:Cx)(e:Expr)(t:UT):Prop:=PT X e (lT X.K t)
def PUW (X:Cx)(e:Expr)(t:UT):Prop:=PW X e (lT X.K t)
section
variable {K:Frag}{A:AS}{H:Hp}
theorem Rep.one: ∀{d:D} {v:V},Rep K A H d v->cG0 K A H d v
 | .non,_,h=>h
 | .bl _,_,h=>h
 | .int _,_,h=>h
 | .str _,_,h=>h
 | .ty _,_,h=>h
 | .tup l,v,h=>by
  simp only[Rep]at h;obtain⟨a,vs,e,c,r⟩:=h;exact⟨a,vs,e,c.imp cO id,r⟩
 | .lst l,v,h=>by
  simp only[Rep]at h;obtain⟨a,vs,e,n,c,r⟩:=h;exact⟨a,vs,e,c,r⟩
 | .rol l,v,h=>by
  simp only[Rep]at h;obtain⟨a,vs,e,c,r⟩:=h;exact⟨a,vs,e,c.imp cO id,r⟩
 | .obj _ _ _,_,h=>h
 | .adr _,_,h=>h
 | .xob _ _ _ _,_,h=>h
end
theorem iJ {X:Cx}{t t':TE}(h:PE X e t)(i: ∀σ H Q,t' σ H Q->t σ H Q):PE X e t':=λpins s σ H Q I q=>h pins s σ H Q I (i σ H Q q)
theorem dT2 {X:Cx}{t t':TA}(h:PA X es t)(i: ∀σ H Q,t' σ H Q->t σ H Q):PA X es t':=λpos pins s σ H Q I q=>h pos pins s σ H Q I (i σ H Q q)
theorem c38 {X:Cx}{t t':TT}(h:PT X e t)(i: ∀σ H Q,t' σ H Q->t σ H Q):PT X e t':=λpins s σ H Q I q=>h pins s σ H Q I (i σ H Q q)
theorem dT3 {X:Cx}{t t':TT}(h:PW X e t)(i: ∀σ H Q,t' σ H Q->t σ H Q):PW X e t':=λw pins s σ H Q I q=>h w pins s σ H Q I (i σ H Q q)
section
variable {X:Cx}{a b c e o:Expr}{es kL:List Expr}{pos:Pos}{ta tb tc:UE}
def uC (d:D):UE:=λρ Q=>Q (.pu d) ρ
theorem aE {i j pos}:PU X (.Constant (.int i) j pos) (uC<|.int i):=iJ pe_int λσ H Q ⟨C,ρ,Q0,I,h,k⟩=>k _ ρ _ H h (.refl _) (.refl _) (show Rep _ _ _ _ _ by simp only[Rep])
theorem bO5 {b j pos}:PU X (.Constant (.bool b) j pos) (uC<|.bl b):=iJ pe_bl λσ H Q ⟨C,ρ,Q0,I,h,k⟩=>k _ ρ _ H h (.refl _) (.refl _) (show Rep _ _ _ _ _ by simp only[Rep])
theorem b87 {j pos}:PU X (.Constant .none j pos) (uC .non):=iJ pe_non λσ H Q ⟨C,ρ,Q0,I,h,k⟩=>k _ ρ _ H h (.refl _) (.refl _) (show Rep _ _ _ _ _ by simp only[Rep])
theorem pu_str {x j pos}:PU X (.Constant (.str x) j pos) (uC<|.str x):=iJ pe_str λσ H Q ⟨C,ρ,Q0,I,h,k⟩=>k _ ρ _ H h (.refl _) (.refl _) (show Rep _ _ _ _ _ by simp only[Rep])
def b10 (ρ:Ev)(i:Nat)(Q:B->Ev->Prop):Prop:=match ρ[i]? with
 | some (some<|.pu d)=>Q (.pu d) ρ
 | some (some<|.ow l)=>Q (.pu<|.lst l) (ρ.set i<|some<|.pu<|.lst l)
 | _=>False
def aC (i:Nat):UE:=λρ Q=>b10 ρ i Q
theorem gF (i:Nat){pos:Pos}(h:PE X (.Name x pos) (a63 i)):PU X (.Name x pos) (aC i):=iJ h λσ H Q ⟨C,ρ,Q0,I,h,k⟩=>by
 unfold aC b10 at h;split at h
 .rename_i d e
  obtain⟨v,h1,h2⟩:=I.pu i d e;exact⟨v,h1,k _ ρ v H h (.refl _) (.refl _) h2⟩
 .rename_i l e
  obtain⟨_,_,v,h1,h2⟩:=I.freeze e;exact⟨v,h1,k _ _ v H h (.set e) (.refl _) h2⟩
 .exact h.elim
def c39 (ρ:Ev)(i:Nat)(Q:D->Ev->Prop):Prop:=match ρ[i]? with
 | some (some<|.pu d)=>Q d ρ
 | some (some<|.ow l)=>Q (.lst l) ρ
 | some (some<|.bo l)=>Q (.lst l) ρ
 | _=>False
def aS (i:Nat):UV:=λρ Q=>c39 ρ i Q
theorem wT (i:Nat){pos:Pos}(h:PE X (.Name x pos) (a63 i)):PUV X (.Name x pos) (aS i):=iJ h λσ H Q ⟨C,ρ,Q0,I,h,k⟩=>by
 unfold aS c39 at h;split at h
 .rename_i d e
  obtain⟨v,h1,h2⟩:=I.pu i d e;exact⟨v,h1,k _ ρ v H h (.refl _) (.refl _) h2.one⟩
 .rename_i l e
  obtain⟨a,vs,h1,h2,h3,h4⟩:=I.ow i l e;exact⟨_,h1,k _ ρ _ H h (.refl _) (.refl _) ⟨a,vs,rfl,h2,h4⟩⟩
 .rename_i l e
  obtain⟨a,vs,h1,h2,h3,h4⟩:=I.bo i l e;exact⟨_,h1,k _ ρ _ H h (.refl _) (.refl _) ⟨a,vs,rfl,I.ext _ _ h3,h4⟩⟩
 .exact h.elim
def uV (t:UE):UV:=λρ Q=>t ρ λb ρ1=>Q b.d ρ1
theorem EOk.avF {C:C0}{ρ ρ':Ev}{σ:L2.St}{H:Hp}(I:EOk K C ρ σ H)(f:Frz ρ ρ'){a:Addr}(h:Av C ρ' σ a):H a≠none:=I.avSome (f.av h)
theorem uM (h:PU X e ta):PUV X e (uV ta):=iJ h λσ H Q ⟨C,ρ,Q0,I,h,k⟩=>
 ⟨C,ρ,_,I,h,λb ρ' v H' q f s r=>k b.d ρ' v H' q f s (r.rep λa z=>I.avF f z).one⟩
theorem bU8 {v:V}{d:D}{pos:Pos}(h:PE X (.Name x pos) (tC v))(r: ∀A H,Rep X.K A H d v):PU X (.Name x pos) (uC d):=iJ h λσ H Q ⟨C,ρ,Q0,I,h,k⟩=>k _ ρ _ H h (.refl _) (.refl _) (r _ _)
def OpU (X:Cx)(f:Value->Value->Sem Value)(g:D->D->(B->Prop)->Prop):Prop:=
 ∀(A:AS) (H:Hp) (d e:D) (v w:V) (Q0:B->Prop) (Q:VK),(∀a,A a->H a≠none)->Rep X.K A H d v->Rep X.K A H e w->g d e Q0->
  (∀b v' H',Q0 b->gZ H H'->uL X.K A H H' b v'->Q v' H')-> ∃r,OpR X f r/\r v w H Q
def uOp (g:D->D->(B->Prop)->Prop)(ta tb:UE):UE:=λρ Q=>ta ρ λx ρ1=>tb ρ1 λy ρ2=>g x.d y.d λb=>Q b ρ2
theorem d34 {f:Value->Value->Sem Value}:OpR X f (λx y H Q=> ∃r,OpR X f r/\r x y H Q):=λpins s σ H x y v u Q I rx ry ⟨r,hr,q⟩=>hr pins s σ H x y v u Q I rx ry q
theorem uL.from {K:Frag}{A:AS}{H0 H H':Hp}(s:gZ H0 H): ∀{b:B} {v:V},uL K A H H' b v->uL K A H0 H' b v
 | .pu _,_,h=>h
 | .ow _,_,⟨a,vs,e,n,h1,r⟩=>⟨a,vs,e,s.free n,h1,r⟩
 | .bo _,_,h=>h.elim
theorem lOp {f:Value->Value->Sem Value}{g:D->D->(B->Prop)->Prop}(ho:OpU X f g)(σ:L2.St)(H:Hp)(Q:VK)(h:lE X.K (uOp g ta tb) σ H Q) :
  tOp (λx y H Q=> ∃r,OpR X f r/\r x y H Q) (lE X.K ta) (lE X.K tb) σ H Q:=by
 obtain⟨C,ρ,Q0,I,h,k⟩:=h;refine⟨C,ρ,_,I,h,λx ρ1 v H1 q1 f1 s1 r1=> ?_⟩
 have I1:=(I.frz f1).same s1;refine⟨C,ρ1,_,I1,q1,λy ρ2 w H2 q2 f2 s2 r2=> ?_⟩
 have I2:=(I1.frz f2).same s2;have hA: ∀a,Av C ρ2 σ a->H2 a≠none:=λa z=>I2.avSome z
 refine ho (Av C ρ2 σ) H2 x.d y.d v w _ Q hA ((r1.rep λa z=>I.avF f1 z).mono<|.sub s2 λa=>f2.av) (r2.rep λa z=>I1.avF f2 z) q2 λb v' H' q s r=> ?_
 exact k b ρ2 v' H' q (f1.trans f2) (s1.trans<|s2.trans s) (r.from<|s1.trans s2)
theorem aM {op:Operator}{g:D->D->(B->Prop)->Prop}(ho:OpU X (binaryOp op) g)(ha:PU X a ta)(hb:PU X b tb):PU X (.BinOp a op b pos) (uOp g ta tb):=
 iJ (pe_op d34 ha hb) (lOp ho)
theorem pu_cmp {g:D->D->(B->Prop)->Prop}(ho:OpU X (compareOp op) g)(ha:PU X a ta)(hb:PU X b tb)(hm:behindInMarks op b=false):PU X (.Compare a [op] [b] pos) (uOp g ta tb):=
 iJ (dI1 d34 ha hb hm) (lOp ho)
def isB (Q:Bool->Ev->Prop):B->Ev->Prop:=λb ρ=>match b with
 | .pu (.bl k)=>Q k ρ
 | _=>False
def fG (t:UE):UT:=λρ Q=>t ρ (isB Q)
theorem dJ2 {t:UE}(σ:L2.St)(H:Hp)(Q:Bool->Hp->Prop)(h:lT X.K (fG t) σ H Q):lE X.K t σ H λx H'=> ∃k,x= .bl k/\Q k H':=by
 obtain⟨C,ρ,Q0,I,h,k⟩:=h;refine⟨C,ρ,_,I,h,λb ρ' v H' q f s r=> ?_⟩
 unfold isB at q;split at q
 .rename_i k'
  refine⟨k',?_,k k' ρ' H' q f s⟩
  have r':Rep X.K (Av C ρ' σ) H' (.bl k') v:=r
  simpa only[Rep]using r'
 .exact q.elim
theorem b88 (h:PU X e ta)(he: ∀whole,isTrue e X.env whole=(do let v<-whole;standAt e.pos;holding [v] (truthy v)):=by intro _;rfl):PUT X e (fG ta):=
 c38 (pt_val h he) dJ2
theorem aD8 {g:D->D->(B->Prop)->Prop}(ho:OpU X (compareOp op) g)(ha:PU X a ta)(hb:PU X b tb)(hm:behindInMarks op b=false):PUT X (.Compare a [op] [b] pos) (fG<|uOp g ta tb):=
 c38 (dI2 d34 ha hb hm) λσ H Q h=>lOp ho σ H _ (dJ2 σ H Q h)
def cV3 (t u:UT):UT:=λρ Q=>t ρ λc ρ1=>if c=true then u ρ1 Q else Q false ρ1
def uOr (t u:UT):UT:=λρ Q=>t ρ λc ρ1=>if c=true then Q true ρ1 else u ρ1 Q
def d35 (t:UT):UT:=λρ Q=>t ρ λc ρ1=>Q (!c) ρ1
variable {tA tB:UT}
theorem aP9 (ha:PUT X a tA):PUW X (.BoolOp .And [a] pos) tA:=dH3 ha
theorem aQ0 (ha:PUT X a tA):PUW X (.BoolOp .Or [a] pos) tA:=pw_or1 ha
theorem b61 (ha:PUT X a tA)(hb:PUW X (.BoolOp .And (b::kL) pos) tB):PUW X (.BoolOp .And (a::b::kL) pos) (cV3 tA tB):=
 dT3 (pw_and ha hb) λσ H Q ⟨C,ρ,Q0,I,h,k⟩=>⟨C,ρ,_,I,h,λc ρ1 H1 q f s=>by
  cases c with
  | true=>
   rw[a8 rfl]at q⊢;exact⟨C,ρ1,Q0,(I.frz f).same s,q,λb ρ2 H2 q2 f2 s2=>k b ρ2 H2 q2 (f.trans f2) (s.trans s2)⟩
  | false=>
   rw[a6 bF]at q⊢;exact k _ _ _ q f s⟩
theorem aM3 (ha:PUT X a tA)(hb:PUW X (.BoolOp .Or (b::kL) pos) tB):PUW X (.BoolOp .Or (a::b::kL) pos) (uOr tA tB):=
 dT3 (pw_or ha hb) λσ H Q ⟨C,ρ,Q0,I,h,k⟩=>⟨C,ρ,_,I,h,λc ρ1 H1 q f s=>by
  cases c with
  | true=>
   rw[a8 rfl]at q⊢;exact k _ _ _ q f s
  | false=>
   rw[a6 bF]at q⊢;exact⟨C,ρ1,Q0,(I.frz f).same s,q,λb ρ2 H2 q2 f2 s2=>k b ρ2 H2 q2 (f.trans f2) (s.trans s2)⟩⟩
theorem PUW.pt (h:PUW X e tA):PUT X e tA:=PW.pt h
theorem bU9 (ha:PUT X a tA):PUT X (.UnaryOp .Not a pos) (d35 tA):=
 c38 (pt_not ha) λσ H Q ⟨C,ρ,Q0,I,h,k⟩=>⟨C,ρ,_,I,h,λc ρ1 H1 q f s=>k _ ρ1 H1 q f s⟩
def cN9 (t u:UE):UE:=λρ Q=>t ρ λx ρ1=>isB (λc ρ1=>if c=true then u ρ1 Q else Q (.pu<|.bl false) ρ1) x ρ1
def uOrV (t u:UE):UE:=λρ Q=>t ρ λx ρ1=>isB (λc ρ1=>if c=true then Q (.pu<|.bl true) ρ1 else u ρ1 Q) x ρ1
theorem cO0 {Q:Bool->Ev->Prop}{b:B}{ρ:Ev}{A:AS}{H H':Hp}{v:V}(h:isB Q b ρ)(r:uL K A H H' b v): ∃k,v= .bl k/\Q k ρ:=by
 unfold isB at h;split at h
 .rename_i k'
  have r':Rep K A H' (.bl k') v:=r;exact⟨k',by simpa only[Rep]using r',h⟩
 .exact h.elim
theorem mW {A:AS}{H H':Hp}{k:Bool}:uL K A H H' (.pu<|.bl k) (.bl k):=by
 show Rep K A H' (.bl k) (.bl k)
 simp only[Rep]
theorem cG1 {op}(h:PU X a ta):PU X (.BoolOp op [a] pos) ta:=pe_one h
theorem d36 (ha:PU X a ta)(hb:PU X (.BoolOp .And (b::kL) pos) tb):PU X (.BoolOp .And (a::b::kL) pos) (cN9 ta tb):=
 iJ (pe_and ha hb) λσ H Q ⟨C,ρ,Q0,I,h,k⟩=>⟨C,ρ,_,I,h,λx ρ1 v H1 q f s r=>by
  obtain⟨c,rfl,q⟩:=cO0 q r;refine⟨c,rfl,?_⟩;cases c with
  | true=>
   rw[a8 rfl]at q⊢;exact⟨C,ρ1,Q0,(I.frz f).same s,q,λb ρ2 v H2 q2 f2 s2 r2=>k b ρ2 v H2 q2 (f.trans f2) (s.trans s2) (r2.from s)⟩
  | false=>
   rw[a6 bF]at q⊢;exact k _ _ _ _ q f s mW⟩
theorem pu_or (ha:PU X a ta)(hb:PU X (.BoolOp .Or (b::kL) pos) tb):PU X (.BoolOp .Or (a::b::kL) pos) (uOrV ta tb):=
 iJ (pe_or ha hb) λσ H Q ⟨C,ρ,Q0,I,h,k⟩=>⟨C,ρ,_,I,h,λx ρ1 v H1 q f s r=>by
  obtain⟨c,rfl,q⟩:=cO0 q r;refine⟨c,rfl,?_⟩;cases c with
  | true=>
   rw[a8 rfl]at q⊢;exact k _ _ _ _ q f s mW
  | false=>
   rw[a6 bF]at q⊢;exact⟨C,ρ1,Q0,(I.frz f).same s,q,λb ρ2 v H2 q2 f2 s2 r2=>k b ρ2 v H2 q2 (f.trans f2) (s.trans s2) (r2.from s)⟩⟩
def uIf (t:UT)(ta tb:UE):UE:=λρ Q=>t ρ λc ρ1=>if c=true then ta ρ1 Q else tb ρ1 Q
theorem c40 (hc:PUT X c tA)(ha:PU X a ta)(hb:PU X b tb):PU X (.IfExp c a b pos) (uIf tA ta tb):=
 iJ (d13 hc ha hb) λσ H Q ⟨C,ρ,Q0,I,h,k⟩=>⟨C,ρ,_,I,h,λc ρ1 H1 q f s=>by
  have I1:=(I.frz f).same s;cases c with
  | true=>
   dsimp only at q⊢;rw[a8 rfl]at q⊢;exact⟨C,ρ1,Q0,I1,q,λb ρ2 v H2 q2 f2 s2 r2=>k b ρ2 v H2 q2 (f.trans f2) (s.trans s2) (r2.from s)⟩
  | false=>
   dsimp only at q⊢;rw[a6 bF]at q⊢;exact⟨C,ρ1,Q0,I1,q,λb ρ2 v H2 q2 f2 s2 r2=>k b ρ2 v H2 q2 (f.trans f2) (s.trans s2) (r2.from s)⟩⟩
def aK:UA:=λρ Q=>Q [] ρ
def a7 (t:UE)(u:UA):UA:=λρ Q=>t ρ λx ρ1=>u ρ1 λxs ρ2=>Q (x.d::xs) ρ2
theorem aA:PUA X [] aK:=dT2 cF5 λσ H Q ⟨C,ρ,Q0,I,h,k⟩=>k [] ρ [] H h (.refl _) (.refl _) .nil
theorem aB {t:UA}(ha:PU X e ta)(hr:PUA X es t)(hs:↥(starEach (e::es) X.env=(false,eval e X.env)::starEach es X.env)):PUA X (e::es) (a7 ta t):=
 dT2 (bU0 ha hr hs) λσ H Q ⟨C,ρ,Q0,I,h,k⟩=>⟨C,ρ,_,I,h,λx ρ1 v H1 q1 f1 s1 r1=>by
  have I1:=(I.frz f1).same s1;refine⟨C,ρ1,_,I1,q1,λxs ρ2 vs H2 q2 f2 s2 r2=> ?_⟩
  exact k _ ρ2 _ H2 q2 (f1.trans f2) (s1.trans s2) (.cons ((r1.rep λa z=>I.avF f1 z).mono<|.sub s2 λa=>f2.av) r2)⟩
def hJ (t:UA):UE:=λρ Q=>t ρ λl ρ1=>l.length<=sizeLine/\Q (.pu<|.tup l) ρ1
def eR (t:UA):UE:=λρ Q=>t ρ λl ρ1=>l.length<=sizeLine/\Q (.ow l) ρ1
theorem eS {H:Hp}{p:Addr}(h:H p=none)(o:HO):gZ H (upd H p o):=λb u q=>by rw[cI<|cX q h];exact q
theorem iW {A:AS}{H:Hp}{p:Addr}{l:List D}{vs:List V}(hA: ∀a,A a->H a≠none)(n:H p=none)(r:bY K A H l vs):Rep K A (upd H p<|.tup vs) (.tup l) (.ref p):=by
 simp only[Rep];exact⟨p,vs,rfl,.inl ⟨λz=>hA p z n,.inl iU⟩,r.mono<|.same<|eS n _⟩
theorem gL {A:AS}{H H0:Hp}{p:Addr}{l:List D}{vs:List V}(s:gZ H0 H)(n:H p=none)(r:bY K A H l vs):uL K A H0 (upd H p<|.lst vs) (.ow l) (.ref p):=
 ⟨p,vs,rfl,s.free n,iU,r.mono<|.fresh (eS n _) n⟩
theorem dD {t:UA}{x1}(h:PUA X es t):PU X (.Tuple es x1 pos) (hJ t):=
 iJ (pe_tup h) λσ H Q ⟨C,ρ,Q0,I,h,k⟩=>⟨C,ρ,_,I,h,λl ρ1 vs H1 q f s r=>by
  obtain⟨hz,q⟩:=q;refine⟨by rw[<-r.length];exact hz,λp n=> ?_⟩
  have I1:=(I.frz f).same s;exact k _ ρ1 _ _ q f (s.trans<|eS n _) (iW (λa z=>I1.avSome z) n r)⟩
theorem bO {t:UA}(h:PUA X es t):PU X (.List es pos) (eR t):=
 iJ (pe_lst h) λσ H Q ⟨C,ρ,Q0,I,h,k⟩=>⟨C,ρ,_,I,h,λl ρ1 vs H1 q f s r=>by
  obtain⟨hz,q⟩:=q;refine⟨by rw[<-r.length];exact hz,λp n=> ?_⟩
  exact k _ ρ1 _ _ q f (s.trans<|eS n _) (gL s n r)⟩
abbrev Φ:=List D->(B->Prop)->Prop
def spP (K:Frag)(φ:Φ):Sp:=λvs H Q _=> ∃A ds Q0,(∀a,A a->H a≠none)/\bY K A H ds vs/\φ ds Q0/\ ∀b v H',Q0 b->gZ H H'->uL K A H H' b v->Q v H'
def aR (φ:Φ)(t:UA):UE:=λρ Q=>t ρ λds ρ1=>φ ds λb=>Q b ρ1
theorem lCall {t:UA}{E:XK}(σ:L2.St)(H:Hp)(Q:VK)(h:lE X.K (aR φ t) σ H Q):d24 (spP X.K φ) [] E (lA X.K t) σ H Q:=by
 obtain⟨C,ρ,Q0,I,h,k⟩:=h;refine⟨C,ρ,_,I,h,λds ρ1 vs H1 q f s r=> ?_⟩
 have I1:=(I.frz f).same s;show spP X.K φ (vs++[]) H1 Q E;rw[kA];exact⟨Av C ρ1 σ,ds,_,λa z=>I1.avSome z,r,q,λb v H' q' s' r'=>k b ρ1 v H' q' f (s.trans s') (r'.from s)⟩
theorem dJ3 {CX:CXT}{ps:List Str}{E:XK}{t:UA}(F:sC X.prog X.w X.K X.mg X.base CX k f fd ps (spP X.K φ))(hr:gT k X.A)(hg:Gl X x)(hm:X.mg x=some (.ref f))
  (hk:keepIn X.K (.ref f)=true) (hb:Binds X.K fd ps []) (hx:wR CX X E) (ha:PUA X (e::es) t) (hdb:⇑(x∪0)) (he:↥(starEach (e::es) X.env=(false,eval e X.env)::starEach es X.env))
  (hpl:↥((backTo pos<|starEach es X.env).any (·.1)=false)):PU X (.Call (.Name x p) (e::es) [] pos) (aR φ t):=
 iJ (cN3 F hr hg hm hk hb .nil hx ha hdb he hpl) lCall
theorem d37 {CX:CXT}{ps:List Str}{E:XK}(F:sC X.prog X.w X.K X.mg X.base CX k f fd ps (spP X.K φ))(hr:gT k X.A)(hg:Gl X x)(hm:X.mg x=some (.ref f))
  (hk:keepIn X.K (.ref f)=true) (hb:Binds X.K fd ps []) (hx:wR CX X E) (hdb:⇑(x∪0)):PU X (.Call (.Name x p) [] [] pos) (aR φ aK):=
 iJ (d26 F hr hg hm hk hb .nil hx hdb) λσ H Q ⟨C,ρ,Q0,I,h,k⟩=>⟨Av C ρ σ,[],_,λa z=>I.avSome z,.nil,h,λb v H' q' s' r'=>k b ρ v H' q' (.refl _) s' r'⟩
def uN (X:Cx)(f:Value)(g:List D->(B->Prop)->Prop):Prop:=
 ∀(A:AS) (H:Hp) (ds:List D) (vs:List V) (Q0:B->Prop) (Q:VK),(∀a,A a->H a≠none)->bY X.K A H ds vs->g ds Q0->
  (∀b v' H',Q0 b->gZ H H'->uL X.K A H H' b v'->Q v' H')-> ∃r,oV X f r/\r vs H Q
theorem callAny {f:Value}:oV X f (λxs H Q=> ∃r,oV X f r/\r xs H Q):=λpins s σ H xs us Q I rx ⟨r,hr,q⟩=>hr pins s σ H xs us Q I rx q
theorem lCB {f:Value}{g:List D->(B->Prop)->Prop}{t:UA}(hc:uN X f g)(σ:L2.St)(H:Hp)(Q:VK)(h:lE X.K (aR g t) σ H Q):tCB (λxs H Q=> ∃r,oV X f r/\r xs H Q) (lA X.K t) σ H Q:=by
 obtain⟨C,ρ,Q0,I,h,k⟩:=h;refine⟨C,ρ,_,I,h,λds ρ1 vs H1 q f s r=> ?_⟩
 have I1:=(I.frz f).same s;exact hc (Av C ρ1 σ) H1 ds vs _ Q (λa z=>I1.avSome z) r q λb v H' q' s' r'=>k b ρ1 v H' q' f (s.trans s') (r'.from s)
theorem eY {id:String}{g:List D->(B->Prop)->Prop}{t:UA}(hc:uN X (.builtin id) g)(hg:Gl X x)(hm:X.mg x=none)(hv:bootBuiltins x=some (.builtin id))(ha:PUA X (e::es) t)(hn:⇑(x≠"__name__"))(hdb:⇑(x∪0))
  (he:↥(starEach (e::es) X.env=(false,eval e X.env)::starEach es X.env)) (hpl:↥((backTo pos<|starEach es X.env).any (·.1)=false)):PU X (.Call (.Name x p) (e::es) [] pos) (aR g t):=
 iJ (c34 callAny hg hm hv ha hn hdb he hpl) (lCB hc)
theorem cG {T:String}{g:List D->(B->Prop)->Prop}{t:UA}(hc:uN X (.type T) g)(hg:Gl X x)(hm:X.mg x=none)(hv:bootBuiltins x=some (.type T))(ha:PUA X (e::es) t)(hn:⇑(x≠"__name__"))(hdb:⇑(x∪0))
  (he:↥(starEach (e::es) X.env=(false,eval e X.env)::starEach es X.env)) (hpl:↥((backTo pos<|starEach es X.env).any (·.1)=false)):PU X (.Call (.Name x p) (e::es) [] pos) (aR g t):=
 iJ (cV0 callAny hg hm hv ha hn hdb he hpl) (lCB hc)
end
structure UD where
 nx:Ev->Prop
 rt:B->Prop
 bk:Ev->Prop:=λ_=>False
 ct:Ev->Prop:=λ_=>False
abbrev US:=UD->Ev->Prop
structure DOk (K:Frag)(C:C0)(D0:UD)(D:bJ9):Prop where
 nx: ∀ρ σ H,D0.nx ρ->EOk K C ρ σ H->D.nx σ H
 rt: ∀b v H,D0.rt b->gZ C.H0 H->uL K C.A0 C.H0 H b v->D.rt v H
 bk: ∀ρ σ H,D0.bk ρ->EOk K C ρ σ H->D.bk σ H
 ct: ∀ρ σ H,D0.ct ρ->EOk K C ρ σ H->D.ct σ H
def lS (K:Frag)(t:US):TS:=λD σ H=> ∃C ρ D0,EOk K C ρ σ H/\t D0 ρ/\DOk K C D0 D
def PUS (X:Cx)(st:Stmt)(t:US):Prop:=PS X st (lS X.K t)
def tD (X:Cx)(sts:List Stmt)(t:US):Prop:=PSs X sts (lS X.K t)
theorem sU {X:Cx}{t t':TS}(h:PS X st t)(i: ∀D σ H,t' D σ H->t D σ H):PS X st t':=λpins s σ H D I q=>h pins s σ H D I (i D σ H q)
theorem b89 {X:Cx}{st:List Stmt}{t t':TS}(h:PSs X st t)(i: ∀D σ H,t' D σ H->t D σ H):PSs X st t':=λpins s σ H D I q=>h pins s σ H D I (i D σ H q)
section
variable {X:Cx}{st:Stmt}{sts:List Stmt}{e:Expr}{pos:Pos}{t u:US}{te:UE}{tc:UT}{K:Frag}
def fJ:US:=λD ρ=>D.nx ρ
def aT (t u:US):US:=λD ρ=>t {D with nx:=u D} ρ
theorem cG2:tD X [] fJ:=b89 dH5 λD σ H ⟨C,ρ,D0,I,h,k⟩=>k.nx ρ σ H h I
theorem bS (h1:PUS X st t)(h2:tD X sts u):tD X (st::sts) (aT t u):=
 b89 (uJ h1 h2) λD σ H ⟨C,ρ,D0,I,h,k⟩=>⟨C,ρ,{D0 with nx:=u D0},I,h,⟨λρ' σ' H' q I'=>⟨C,ρ',D0,I',q,k⟩,k.rt,k.bk,k.ct⟩⟩
theorem bH (h1:PUS X st t):tD X [st] t:=b57 h1
def cZ (t:UE):US:=λD ρ=>t ρ λb _=>D.rt b
theorem uL.back {A A':AS}{H0 H H':Hp}(s:gZ H0 H)(h: ∀a,A' a->A a): ∀{b:B} {v:V},uL K A H H' b v->uL K A' H0 H' b v
 | .pu _,_,r=>Rep.mono (.sub (.refl _) h) r
 | .ow _,_,⟨a,vs,e,n,h1,r⟩=>⟨a,vs,e,s.free n,h1,r.mono λb o nb q=>⟨λz=>nb (z.imp (h b) id),q⟩⟩
 | .bo _,_,r=>r.elim
theorem d38 (he:PU X e te):PUS X (.Return (some e) pos) (cZ te):=
 sU (d14 he) λD σ H ⟨C,ρ,D0,I,h,k⟩=>⟨C,ρ,_,I,h,λb ρ' v H' q f s r=>k.rt b v H' q (I.ext.trans s) (r.back I.ext λa z=> .inl z)⟩
def rP (i:Nat):US:=λD ρ=>match ρ[i]? with
 | some (some<|.pu d)=>D.rt (.pu d)
 | some (some<|.ow l)=>D.rt (.ow l)
 | _=>False
theorem mF (i:Nat)(h:PE X (.Name x p) (a63 i)):PUS X (.Return (some<|.Name x p) pos) (rP i):=
 sU (d14 h) λD σ H ⟨C,ρ,D0,I,h,k⟩=>by
  unfold rP at h;split at h
  .rename_i d e
   obtain⟨v,h1,h2⟩:=I.pu i d e;exact⟨v,h1,k.rt _ v H h I.ext<|Rep.mono (.sub (.refl _) λa z=> .inl z) h2⟩
  .rename_i l e
   obtain⟨a,vs,h1,h2,h3,h4⟩:=I.ow i l e;refine⟨_,h1,k.rt _ _ H h I.ext ⟨a,vs,rfl,h3,h2,h4.mono λb o nb q=>⟨λz=>nb (z.elim .inl λz=> .inr ?_),q⟩⟩⟩
   subst z;exact⟨i,l,e,h1⟩
  .exact h.elim
def iL (c:UT)(t u:US):US:=λD ρ=>c ρ λb ρ1=>if b=true then t D ρ1 else u D ρ1
theorem d39 {a b:List Stmt}(hc:PUT X c tc)(ha:tD X a t)(hb:tD X b u):PUS X (.If c a b pos) (iL tc t u):=
 sU (dT1 hc ha hb) λD σ H ⟨C,ρ,D0,I,h,k⟩=>⟨C,ρ,_,I,h,λc ρ1 H1 q f s=>by
  have I1:=(I.frz f).same s;cases c with
  | true=>
   dsimp only at q⊢;rw[a8 rfl]at q⊢;exact⟨C,ρ1,D0,I1,q,k⟩
  | false=>
   dsimp only at q⊢;rw[a6 bF]at q⊢;exact⟨C,ρ1,D0,I1,q,k⟩⟩
theorem c41:PUS X st (λ_ _=>False):=sU d15 λD σ H ⟨C,ρ,D0,I,h,k⟩=>h
abbrev UG:=B->Ev->(Ev->Prop)->Prop
def lG (K:Frag)(T:List Nat)(g:UG):TG:=λv σ H Q=> ∃C ρ b H00 Q0,EOk K C ρ σ H00/\gZ H00 H/\uL K (Av C ρ σ) H00 H b v/\g b ρ Q0/\ ∀ρ' σ' H',Q0 ρ'->EOk K C ρ' σ' H'->(∀j:Nat,j ∉ T->σ'[j]? =σ[j]?)->Q σ' H'
def PUG (X:Cx)(e:Expr)(T:List Nat)(g:UG):Prop:=PG X e (lG X.K T g)
theorem dT4 {t t':TG}(h:PG X e t)(i: ∀v σ H Q,t' v σ H Q->t v σ H Q):PG X e t':=λpins s σ H v u Q I r q=>h pins s σ H v u Q I r (i v σ H Q q)
def cB (i:Nat):UG:=λb ρ Q=>i<ρ.length/\Q (ρ.set i<|some b)
theorem b62 (i:Nat)(h:PG X e (c28 i)):PUG X e [i] (cB i):=dT4 h λv σ H Q z=>by
 obtain⟨C,ρ,b,H00,Q0,I,s,r,⟨hi,q⟩,k⟩:=z;exact k _ _ _ q (I.store s r (by rw[<-I.len];exact hi)) λj hj=>get_set_ne λz=>hj (by simp[z])
abbrev UGs:=List D->Ev->(Ev->Prop)->Prop
def lGs (K:Frag)(T:List Nat)(g:UGs):TGs:=λvs σ H Q=> ∃C ρ ds Q0,EOk K C ρ σ H/\bY K (Av C ρ σ) H ds vs/\g ds ρ Q0/\ ∀ρ' σ' H',Q0 ρ'->EOk K C ρ' σ' H'->(∀j:Nat,j ∉ T->σ'[j]? =σ[j]?)->Q σ' H'
def dJ4 (X:Cx)(es:List Expr)(T:List Nat)(g:UGs):Prop:=PGs X es (lGs X.K T g)
def uO:UGs:=λds ρ Q=>ds=[]/\Q ρ
theorem Av.store_pu {C:C0}{ρ:Ev}{σ:L2.St}{d:D}{v:V}(h:Av C (ρ.set i<|some<|.pu d) (σ.set i<|some v) a):Av C ρ σ a:=by
 rcases h with z| ⟨j,l,h1,h2⟩
 .exact .inl z
 .rcases bC h1 with⟨rfl,h3,_⟩| ⟨ne,h3⟩
  .cases h3
  .rw[get_set_ne ne]at h2;exact .inr ⟨j,l,h3,h2⟩
theorem d40 {t t':TGs}(h:PGs X es t)(i: ∀v σ H Q,t' v σ H Q->t v σ H Q):PGs X es t':=λpins s σ H v u Q I r q=>h pins s σ H v u Q I r (i v σ H Q q)
theorem tE:dJ4 X [] [] uO:=d40 dH6 λvs σ H Q z=>by
 obtain⟨C,ρ,ds,Q0,I,r,⟨e,q⟩,k⟩:=z;subst e;exact⟨r.unnil,k ρ σ H q I λ_ _=>rfl⟩
def fY (i:Nat)(u:UGs):UGs:=λds ρ Q=>match ds with
 | d::r=>i<ρ.length/\u r (ρ.set i<|some<|.pu d) Q
 | []=>False
theorem fU {u:UGs}{T:List Nat}(i:Nat)(h1:PG X e (c28 i))(h2:dJ4 X es T u)
  (hs:↥((assignEach (e::es) X.env).map (·.2)=assign e X.env::(assignEach es X.env).map (·.2))):dJ4 X (e::es) (i::T) (fY i u):=
 d40 (d17 h1 h2 hs) λvs σ H Q z=>by
  obtain⟨C,ρ,ds,Q0,I,r,g,k⟩:=z;cases ds with
  | nil=>exact(show False from g).elim
  | cons d dr=>
   obtain⟨hi,g⟩:i<ρ.length/\u dr (ρ.set i<|some<|.pu d) Q0:=g;obtain⟨v,vr,rfl,rv,rr⟩:=r.uncons;have I1:EOk X.K C (ρ.set i<|some<|.pu d) (σ.set i<|some v) H:=I.store (b:= .pu d) (.refl _) rv (by rw[<-I.len];exact hi)
   exact⟨v,vr,rfl,C,_,dr,Q0,I1,rr.mono<|.sub (.refl _) λa z=>Av.store_pu z,g,λρ' σ' H' q I' hT=>k ρ' σ' H' q I' λj hj=>(hT j λz=>hj (fB _ z)).trans (get_set_ne λz=>hj (by simp[z]))⟩
def uP (u:UGs):UG:=λb ρ Q=>match b.d with
 | .tup ds=>u ds ρ Q
 | _=>False
theorem a04 {u:UGs}{T:List Nat}(hc:X.calm=true)(h:dJ4 X es T u)(hu: ∀ds ρ Q,u ds ρ Q->ds.length=n)
  (hn:↥((assignEach es X.env).length=n)) (hst:↥((assignEach es X.env).findIdx? (·.1)=none)):PUG X (.Tuple es k pos) T (uP u):=
 dT4 (pg_tup hc h hn hst) λv σ H Q z=>by
  obtain⟨C,ρ,b,H00,Q0,I,s,r,g,k⟩:=z;have R:=r.rep λa z=>I.avSome z
  unfold uP at g;split at g
  .rename_i ds e
   rw[e]at R;simp only[Rep]at R;obtain⟨a,vs,rfl,c,rs⟩:=R;exact⟨a,vs,rfl,c.imp cO id,by rw[<-rs.length];exact hu _ _ _ g,C,ρ,ds,Q0,I.same s,rs,g,k⟩
  .exact g.elim
def d41 (t:UE)(g:UG):US:=λD ρ=>t ρ λb ρ1=>g b ρ1 D.nx
theorem cG3 {g:UG}{T:List Nat}(he:PU X e te)(hg:PUG X tg T g)(hs:↥(swapsWithSole [tg] e pos.line X.env=pure false))(hw:↥(swappedStores [tg] e X.env=pure none))
  (h1:↥((assignEach [tg] X.env).map (·.2)=[assign tg X.env])):PUS X (.Assign [tg] e pos) (d41 te g):=
 sU (d18 he hg hs hw h1) λD σ H ⟨C,ρ,D0,I,h,k⟩=>⟨C,ρ,_,I,h,λb ρ1 v H1 q f s r=>⟨C,ρ1,b,H,D0.nx,I.frz f,s,r,q,λρ' σ' H' q I' _=>k.nx ρ' σ' H' q I'⟩⟩
def bM (i:Nat)(t:UE):US:=λD ρ=>t ρ λb ρ1=>D.nx (ρ1.set i<|some b)
theorem a65 (i:Nat)(hN:X.N.Nodup)(hi:X.N[i]? =some x)(hx:Loc X.env.scope x)(he:PU X e te)(hs:↥(swapsWith e (some<|.Name x pos') pos.line X.env=pure false))(hf:X.fn x=true\/X.env.scope.names.lookup x=some .local:=by walk_at "z")
  (hl: ∀pins σ H s,Inv X pins σ H s->i<σ.length:=by intro pins σ H s I;rw[I.len];decide):PUS X (.Assign [.Name x pos'] e pos) (bM i te):=by
 intro pins s σ H D I q;refine ps_set hN hi hx he hs hf pins s σ H D I ?_;obtain⟨C,ρ,D0,J,h,k⟩:=q;exact⟨C,ρ,_,J,h,λb ρ1 v H1 q f s1 r=>k.nx _ _ _ q ((J.frz f).store s1 r<|hl pins σ H s I)⟩
def IpU (X:Cx)(op:Operator)(g:D->D->(B->Prop)->Prop):Prop:=
 ∀(A:AS) (H:Hp) (d e:D) (v w:V) (Q0:B->Prop) (Q:VK),(∀a,A a->H a≠none)->Rep X.K A H d v->Rep X.K A H e w->g d e Q0->
  (∀b v' H',Q0 b->gZ H H'->uL X.K A H H' b v'->Q v' H')-> ∃r,PIp X op r/\r v w H Q
theorem ipAny {op:Operator}:PIp X op (λx y H Q=> ∃r,PIp X op r/\r x y H Q):=λpins s σ H x y v u Q I rx ry ⟨r,hr,q⟩=>hr pins s σ H x y v u Q I rx ry q
def c42 (i:Nat)(g:D->D->(B->Prop)->Prop)(te:UE):US:=λD ρ=>b10 ρ i λx ρ0=>te ρ0 λy ρ1=>g x.d y.d λb=>D.nx (ρ1.set i<|some b)
theorem d42 {op:Operator}{g:D->D->(B->Prop)->Prop}(i:Nat)(hN:X.N.Nodup)(hi:X.N[i]? =some x)(hx:Loc X.env.scope x)(he:PU X e te)(ho:IpU X op g)(hf:X.fn x=true\/X.env.scope.names.lookup x=some .local:=by walk_at "z")
  (hl: ∀pins σ H s,Inv X pins σ H s->i<σ.length:=by intro pins σ H s I;rw[I.len];decide):PUS X (.AugAssign (.Name x pos') op e pos) (c42 i g te):=by
 intro pins s σ H D I q;refine ps_aug hN hi hx he ipAny hf pins s σ H D I ?_;obtain⟨C,ρ,D0,J,h,k⟩:=q;have go: ∀(d:M.D) (ρ0:Ev) (v:V),Frz ρ ρ0->σ[i]? =some (some v)->Rep X.K (Av C ρ0 σ) H d v->(te ρ0 λy ρ1=>g d y.d λb=>D0.nx (ρ1.set i<|some b))->
   tAug i (lE X.K te) (λx y H Q=> ∃r,PIp X op r/\r x y H Q) D σ H:=λd ρ0 v f0 h1 r0 h=>by
  have J0:=J.frz f0;refine⟨v,h1,C,ρ0,_,J0,h,λy ρ1 w H1 q1 f1 s1 r1=> ?_⟩
  have J1:=(J0.frz f1).same s1;refine ho (Av C ρ1 σ) H1 d y.d v w _ _ (λa z=>J1.avSome z) (r0.mono<|.sub s1 λa=>f1.av) (r1.rep λa z=>J0.avF f1 z) q1 λb v' H' q s r=> ?_
  exact k.nx _ _ _ q (J1.store s r<|hl pins σ _ _ I)
 unfold c42 b10 at h;split at h
 .rename_i d e
  obtain⟨v,h1,h2⟩:=J.pu i d e;exact go d ρ v (.refl _) h1 h2 h
 .rename_i l e
  obtain⟨_,_,v,h1,h2⟩:=J.freeze e;exact go (.lst l) _ v (.set e) h1 h2 h
 .exact h.elim
def bV0 (c:UT)(tb:US):US:=λD ρ=> ∃W:Nat->Ev->Prop,(∃m,W m ρ)/\ ∀m ρ,W m ρ->
 c ρ λb ρ1=>if b=true then tb {D with nx:=λρ'=> ∃m',m'<m/\W m' ρ',ct:=λρ'=> ∃m',m'<m/\W m' ρ',bk:=D.nx} ρ1 else D.nx ρ1
theorem b90 {tb:US}(hp:PassesOwn (model X.prog X.w) X.A X.env X.xe)(hc:PUT X c tc)(hb:tD X body tb):PUS X (.While c body [] pos) (bV0 tc tb):=
 sU (d20 hp hc hb) λD σ H ⟨C,ρ,D0,I,⟨W,⟨m0,w0⟩,turn⟩,k⟩=>by
  refine⟨λm σ H=> ∃ρ,EOk X.K C ρ σ H/\W m ρ,⟨m0,ρ,I,w0⟩,?_⟩
  rintro m σ H ⟨ρ,I,w⟩;refine⟨C,ρ,_,I,turn m ρ w,λb ρ1 H1 q f s=> ?_⟩
  have I1:=(I.frz f).same s;cases b with
  | true=>
   dsimp only at q⊢;rw[a8 rfl]at q⊢;refine⟨λσ' H'=> ∃m',m'<m/\ ∃ρ',EOk X.K C ρ' σ' H'/\W m' ρ',λσ' H' z=>z,C,ρ1,_,I1,q,⟨?_,k.rt,k.nx,?_⟩⟩
   .rintro ρ' σ' H' ⟨m',hm,w'⟩ I';exact⟨m',hm,ρ',I',w'⟩
   .rintro ρ' σ' H' ⟨m',hm,w'⟩ I';exact⟨m',hm,ρ',I',w'⟩
  | false=>
   dsimp only at q⊢;rw[a6 bF]at q⊢;exact k.nx _ _ _ q I1
end
abbrev UI:=Ev->(Nat->(Nat->D)->Ev->Prop)->Prop
structure c43 (K:Frag)(A:AS)(H:Hp)(J:It)(n:Nat)(it:Nat->D):Prop where
 go: ∀A' H' i,nE A H A' H'->i<n->J.go i H'
 yld: ∀A' H' i x H'',nE A H A' H'->(∀a,A' a->H' a≠none)->i<n->J.yld i H' x H''->gZ H' H''/\Rep K A' H'' (it i) x
 stop: ∀A' H',nE A H A' H'->J.stop n H'
def lI (K:Frag)(t:UI):TI:=λσ H R=> ∃C ρ Q0,EOk K C ρ σ H/\t ρ Q0/\
 ∀n it ρ' J H',Q0 n it ρ'->Frz ρ ρ'->gZ H H'->c43 K (Av C ρ' σ) H' J n it->R J H'
def PUI (X:Cx)(tg iter:Expr)(t:UI):Prop:=PI X tg iter (lI X.K t)
def iM (ui:UI)(g:UG)(tb:US):US:=λD ρ=>ui ρ λn it ρ1=> ∃Pv:Nat->Ev->Prop,Pv 0 ρ1/\
 (∀i ρ,i<n->Pv i ρ->g (.pu<|it i) ρ λρ2=>tb {D with nx:=Pv (i+1),ct:=Pv (i+1),bk:=D.nx} ρ2)/\ ∀ρ,Pv n ρ->D.nx ρ
nonrec def C0.rz (C:C0) (ρ:Ev) (σ:L2.St) (H:Hp):C0:=C.raise ρ σ H λ_=>Classical.propDecidable _
section
variable {X:Cx}{e:Expr}{pos:Pos}{te:UE}{K:Frag}{C:C0}{ρ ρ':Ev}{σ σ':L2.St}{H H':Hp}
theorem EOk.rz (I:EOk K C ρ σ H):EOk K (C.rz ρ σ H) ρ σ H/\gZ C.H0 (C.rz ρ σ H).H0:=I.raise
theorem dJ5 (I':EOk K (C.rz ρ σ H) ρ' σ' H'):nE (Av C ρ σ) H (Av (C.rz ρ σ H) ρ' σ') H':=λb o nb e=>by
 have e0:(C.rz ρ σ H).H0 b=some o:=by
  show @ite _ (Own ρ σ b) (Classical.propDecidable _) none (H b)=some o
  rw[a6 λz=>nb (.inr z)]
  exact e
 refine⟨?_,I'.ext b o e0⟩
 rintro(z| ⟨i,l,h1,h2⟩)
 .exact nb (.inl z)
 .obtain⟨a,vs,h3,h4,h5,_⟩:=I'.ow i l h1;rw[h2]at h3;cases h3;rw[e0]at h5;cases h5
theorem aV8 {ui:UI}{g:UG}{T:List Nat}{tb:US}(hp:PassesOwn (model X.prog X.w) X.A X.env X.xe)(hc:X.calm=true)(hi:PUI X tg iter ui)(hg:PUG X tg T g)(hb:tD X body tb)
  (hs: ∀x,foldedSetIterable iter X.env x=pure x:=by intro _;rfl):PUS X (.For tg iter body [] pos) (iM ui g tb):=
 sU (ps_for hp hc hi hg hb hs) λD σ H ⟨C,ρ,D0,I,h,k⟩=>⟨C,ρ,_,I,h,λn it ρ1 J H1 q f s ok=>by
  obtain⟨Pv,p0,turn,fin⟩:=q;have I1:=(I.frz f).same s;obtain⟨Ir,sub⟩:=I1.rz;refine⟨λi m σ' H'=>m=n-i/\i<=n/\ ∃ρ',EOk X.K (C.rz ρ1 σ H1) ρ' σ' H'/\Pv i ρ',⟨n,rfl,dO _,ρ1,Ir,p0⟩,?_⟩
  rintro i m σ' H' ⟨rfl,hi,ρ',I',p'⟩;have P:=dJ5 I';have lo: ∀ρ2 σ2 H2,EOk X.K (C.rz ρ1 σ H1) ρ2 σ2 H2->EOk X.K C ρ2 σ2 H2:=λρ2 σ2 H2 J2=>J2.lower sub rfl I.a0
  by_cases hlt:i<n
  .refine .inr ⟨ok.go _ _ i P hlt,λσ2 H2=> ∃ρ2,EOk X.K (C.rz ρ1 σ H1) ρ2 σ2 H2/\Pv (i+1) ρ2,λσ2 H2 z=>⟨n-(i+1),aa,rfl,hlt,z⟩,λx H2 y=> ?_⟩
   obtain⟨s2,r2⟩:=ok.yld _ _ i x H2 P (λa z=>I'.avSome z) hlt y
   refine⟨C.rz ρ1 σ H1,ρ',.pu<|it i,H',_,I',s2,r2,turn i ρ' hlt p',λρ2 σ2 H3 q I3 _=>⟨C.rz ρ1 σ H1,ρ2,_,I3,q,⟨?_,?_,?_,?_⟩⟩⟩
   .exact λρ3 σ3 H4 q I4=>⟨ρ3,I4,q⟩
   .exact λb v H4 q s4 r4=>k.rt b v H4 q (sub.trans s4) (r4.from sub)
   .exact λρ3 σ3 H4 q I4=>k.nx ρ3 σ3 H4 q (lo _ _ _ I4)
   .exact λρ3 σ3 H4 q I4=>⟨ρ3,I4,q⟩
  .have e:i=n:=aa
   subst e;exact .inl ⟨ok.stop _ _ P,k.nx _ _ _ (fin ρ' p')<|lo _ _ _ I'⟩⟩
nonrec def pP:D->Option (List D)
 | .tup l=>some l
 | .lst l=>some l
 | .rol l=>some l
 | _=>none
def iK (t:UE):UI:=λρ Q=>t ρ λb ρ1=>match pP b.d with
 | some l=>Q l.length (λi=>l.getD i .non) ρ1
 | none=>False
theorem pi_any {l:Expr}{tl:TE}(hl:PE X l tl):PI X tg l (λσ H R=>tl σ H λx H1=> ∃a,x= .ref a/\((∃xs,SqL X.K H1 a xs/\R (Itl X.K a) H1)\/ ∃xs,SqT X.K H1 a xs/\R (Itt X.K a) H1)):=by
 intro pins s σ H R I h;refine thn (hl pins s σ H _ I h) λv s1 ⟨x,H1,I1,r1,q1⟩=> ?_
 obtain⟨a,e,q⟩:=q1;subst e;cases r1;rcases q with⟨xs,hq,q⟩| ⟨xs,hq,q⟩
 .obtain⟨its,rv,p,hz⟩:=I1.list hq;refine zJ p.isList ?_;refine⟨s1.heap.objs.size,[s1.heap.objs.size],_,_,H1,rfl,I1.kept (t':=s1.toks) λb o e=>aU _ e,cU1 a _,⟨_,cA _ rfl,rfl,rfl⟩,λb hb=> ?_,q⟩
  have e:b=s1.heap.objs.size:=by exists hb
  subst e;exact I1.fpOk (aF _) (I1.hok.fresh<|aF _)
 .obtain⟨its,rv,p,hz⟩:=I1.tuple hq;refine aK8 (show s1.heap.IsTuple a its.toArray from p) ?_
  refine⟨s1.heap.objs.size,[s1.heap.objs.size],_,_,H1,rfl,I1.kept (t':=s1.toks) λb o e=>aU _ e,cE7 a _,⟨_,cA _ rfl,rfl,rfl⟩,λb hb=> ?_,q⟩
  have e:b=s1.heap.objs.size:=by exists hb
  subst e;exact I1.fpOk (aF _) (I1.hok.fresh<|aF _)
theorem b11 {t t':TI}(h:PI X tg iter t)(i: ∀σ H R,t' σ H R->t σ H R):PI X tg iter t':=λpins s σ H R I q=>h pins s σ H R I (i σ H R q)
theorem bO6 {A:AS}{vs:List V}{l:List D}(c:(¬A a/\Rd H a (.lst vs))\/KL K a vs)(r:bY K A H l vs):c43 K A H (Itl K a) l.length (λi=>l.getD i .non):=by
 have sq: ∀A' H',nE A H A' H'->SqL K H' a vs:=λA' H' P=>by
  rcases c with⟨n,c⟩|c
  .exact .inl (Rd.pres P n c).2
  .exact .inr c
 have get: ∀i,i<l.length-> ∃x,vs[i]? =some x/\Rep K A H (l.getD i .non) x:=λi hi=>r.get (by rw[aJ,aP hi];rfl)
 refine⟨λA' H' i P hi=> ?_,λA' H' i x H'' P hA hi y=> ?_,λA' H' P=>⟨vs,sq _ _ P,by rw[r.length];exact aF _⟩⟩
 .obtain⟨x,e,_⟩:=get i hi;exact⟨vs,x,sq _ _ P,e⟩
 .obtain⟨x',e,r'⟩:=get i hi;obtain⟨rfl,y⟩:=y;have:=y vs (sq _ _ P);rw[e]at this;cases this;exact⟨.refl _,r'.mono P⟩
theorem d43 {A:AS}{vs:List V}{l:List D}(c:(¬A a/\Rd H a (.tup vs))\/KT K a vs)(r:bY K A H l vs):c43 K A H (Itt K a) l.length (λi=>l.getD i .non):=by
 have sq: ∀A' H',nE A H A' H'->SqT K H' a vs:=λA' H' P=>by
  rcases c with⟨n,c⟩|c
  .exact .inl (Rd.pres P n c).2
  .exact .inr c
 have get: ∀i,i<l.length-> ∃x,vs[i]? =some x/\Rep K A H (l.getD i .non) x:=λi hi=>r.get (by rw[aJ,aP hi];rfl)
 refine⟨λA' H' i P hi=> ?_,λA' H' i x H'' P hA hi y=> ?_,λA' H' P=>⟨vs,sq _ _ P,by rw[r.length];exact aF _⟩⟩
 .obtain⟨x,e,_⟩:=get i hi;exact⟨vs,x,sq _ _ P,e⟩
 .obtain⟨x',e,r'⟩:=get i hi;obtain⟨rfl,y⟩:=y;have:=y vs (sq _ _ P);rw[e]at this;cases this;exact⟨.refl _,r'.mono P⟩
theorem iN (h:PU X e te):PUI X tg e (iK te):=b11 (pi_any h) λσ H R ⟨C,ρ,Q0,I,h,k⟩=>⟨C,ρ,_,I,h,λb ρ1 v H1 q f s r=>by
 have rr:=r.rep λa z=>I.avF f z
 generalize b.d=d at q rr;cases d with
 | tup l=>
  simp only[Rep]at rr;obtain⟨a,vs,rfl,c,rs⟩:=rr;exact⟨a,rfl,.inr ⟨vs,c.imp cO id,k _ _ ρ1 _ H1 q f s<|d43 c rs⟩⟩
 | lst l=>
  simp only[Rep]at rr;obtain⟨a,vs,rfl,n,c,rs⟩:=rr;exact⟨a,rfl,.inl ⟨vs,.inl<|.inl c,k _ _ ρ1 _ H1 q f s<|bO6 (.inl ⟨n,.inl c⟩) rs⟩⟩
 | rol l=>
  simp only[Rep]at rr;obtain⟨a,vs,rfl,c,rs⟩:=rr;exact⟨a,rfl,.inl ⟨vs,c.imp cO id,k _ _ ρ1 _ H1 q f s<|bO6 c rs⟩⟩
 | _=>exact(show False from q).elim⟩
theorem b91 {A:AS}:c43 K A H (Itr lo n) n (λi=> .int (lo+i)):=
 ⟨λ_ _ _ _ h=>h,λ_ _ i x H'' _ _ _ ⟨e,y⟩=>by subst e;subst y;exact⟨.refl _,by simp only[Rep]⟩,λ_ _ _=>aF n⟩
def eZ (ta:UA):UI:=λρ Q=>ta ρ λds ρ1=>match ds with
 | [.int j]=>(-(2^62)<=j/\j<2^62)/\Q j.toNat (λi=> .int (0+i)) ρ1
 | _=>False
def a66 (ta:UA):UI:=λρ Q=>ta ρ λds ρ1=>match ds with
 | [.int i,.int j]=>(-(2^62)<=i/\i<2^62/\ -(2^62)<=j/\j<2^62)/\Q (j-i).toNat (λk=> .int (i+k)) ρ1
 | _=>False
theorem bL {A:AS}{i:Int}{v:V}(h:Rep K A H (.int i) v):v= .int i:=by simpa only[Rep]using h
theorem cF {a:Expr}{ta:UA}(hg:Gl X "range")(hm:X.mg "range"=none)(ha:PUA X [a] ta)(hs:↥(starEach [a] X.env=[(false,eval a X.env)])):PUI X tg (.Call (.Name "range" p) [a] [] pos) (eZ ta):=
 b11 (cU2 hg hm ha hs) λσ H R ⟨C,ρ,Q0,I,h,k⟩=>⟨C,ρ,_,I,h,λds ρ1 vs H1 q f s r=>by
  split at q
  .rename_i j
   obtain⟨v,vr,rfl,rv,rr⟩:=r.uncons;have:=rr.unnil;subst this;have:=bL rv;subst this;obtain⟨⟨h1,h2⟩,q⟩:=q;exact⟨j,rfl,h1,h2,k _ _ ρ1 _ H1 q f s b91⟩
  .exact q.elim⟩
theorem qP {a b:Expr}{ta:UA}(hg:Gl X "range")(hm:X.mg "range"=none)(ha:PUA X [a,b] ta)(hs:↥(starEach [a,b] X.env=[(false,eval a X.env),(false,eval b X.env)]))(hs2:↥(starEach [b] X.env=[(false,eval b X.env)])) :
  PUI X tg (.Call (.Name "range" p) [a,b] [] pos) (a66 ta):=
 b11 (cU3 hg hm ha hs hs2) λσ H R ⟨C,ρ,Q0,I,h,k⟩=>⟨C,ρ,_,I,h,λds ρ1 vs H1 q f s r=>by
  split at q
  .rename_i i j
   obtain⟨v,vr,rfl,rv,rr⟩:=r.uncons;obtain⟨w,wr,rfl,rw',rr'⟩:=rr.uncons;have:=rr'.unnil;subst this;have:=bL rv;subst this;have:=bL rw';subst this;obtain⟨hb,q⟩:=q;exact⟨i,j,rfl,hb,k _ _ ρ1 _ H1 q f s b91⟩
  .exact q.elim⟩
end
section
variable {X:Cx}{a b e o:Expr}{es:List Expr}{pos:Pos}{ta tb te ti:UE}{K:Frag}{C:C0}{ρ ρ':Ev}{σ σ':L2.St}{H H':Hp}{A:AS}
theorem Frz.ow {l:List D}(f:Frz ρ ρ')(h:ρ'[i]? =some (some<|.ow l)):ρ[i]? =some (some<|.ow l):=by
 rcases f.2 i with q| ⟨l',_,q⟩
 .exact q▸h
 .rw[q]at h;cases h
def mU (ρ:Ev)(i:Nat)(Q:List D->Prop):Prop:=match ρ[i]? with
 | some (some<|.ow l)=>Q l
 | _=>False
theorem mG {Q:List D->Prop}(h:mU ρ i Q): ∃l,ρ[i]? =some (some<|.ow l)/\Q l:=by
 unfold mU at h;split at h
 .rename_i l e
  exact⟨l,e,h⟩
 .exact h.elim
def a67 (i:Nat)(t:UE):US:=λD ρ=>mU ρ i λ_=>t ρ λb ρ1=>mU ρ1 i λl=>l.length<sizeLine/\D.nx (ρ1.set i<|some<|.ow<|l++[b.d])
theorem jJ {apos:Pos}(i:Nat)(hx:PE X (.Name x p) (a63 i))(he:PU X e te)
  (hbase:↥(attributeBase (.Name x p) "append" X.env (eval (.Name x p) X.env)=eval (.Name x p) X.env))
  (hfew:↥(((backTo cpos<|starEach [e] X.env).all (λx=> !x.1)&&(backToKw cpos<|keywordEach [] X.env).all (λx=>x.1.isSome)
   &&decide ([e].length+([]:List Keyword).length+(if([]:List Keyword).isEmpty then 0 else 1)<30))=true))
  (hline:↥((apos.endLine==cpos.line)=true)) (hs:↥(starEach [e] X.env=(false,eval e X.env)::starEach [] X.env)) (hplain:↥((backTo cpos<|starEach [] X.env).any (·.1)=false))
  (hw:↥(swapsWith (.Call (.Attribute (.Name x p) "append" apos) [e] [] cpos) none pos.line X.env=pure false)) :
  PUS X (.Expr (.Call (.Attribute (.Name x p) "append" apos) [e] [] cpos) pos) (a67 i te):=
 sU (bT7 (pe_bm PySem.F.plainAttrs_list PySem.F.slot_list_append PySem.F.type_list_append bO3 hx (bU0 he cF5 hs) hbase hfew hline hs hplain) hw) λD σ H ⟨C,ρ,D0,I,h,k⟩=>by
  obtain⟨l,hl,h⟩:=mG h;obtain⟨a,vs,h1,h2,h3,h4⟩:=I.ow i l hl;refine⟨.ref a,h1,.inl ⟨rfl,vs,SqL.of h2⟩,C,ρ,_,I,h,λb ρ1 v H1 q f s r=> ?_⟩
  obtain⟨l',hl',hz,q⟩:=mG q;have e:=f.ow hl';rw[hl]at e;cases e;have I1:=(I.frz f).same s;obtain⟨a',vs',g1,g2,g3,g4⟩:=I1.ow i l hl';rw[h1]at g1;cases g1;refine⟨a,vs',v,rfl,rfl,g2,by rw[<-g4.length];exact hz,k.nx _ _ _ q ?_⟩
  exact I1.write hl' h1 (g4.append<|.cons (r.rep λa z=>I.avF f z) .nil)
def aQ1 (i:Nat)(t ti:UE):US:=λD ρ=>t ρ λb ρ1=>mU ρ1 i λ_=>ti ρ1 λj ρ2=>mU ρ2 i λl=>match j.d with
 | .int k=>(match ixN l.length k with
  | some n=>D.nx (ρ2.set i<|some<|.ow<|l.set n b.d)
  | none=>False)
 | _=>False
theorem nY {ix:Expr}(i:Nat)(hx:PE X (.Name x p) (a63 i))(he:PU X e te)(hi:PU X ix ti)
  (ha: ∀v,assign (.Subscript (.Name x p) ix tpos) X.env v=(do
   let ov<-holding [v] (eval (.Name x p) X.env)
   let iv<-holding [v,ov] (eval ix X.env)
   standAt tpos
   holding [v,ov,iv] (setItem ov iv v)
   release [v,ov,iv] []):=by intro _;rfl)
  (hs:↥(swapsWithSole [.Subscript (.Name x p) ix tpos] e pos.line X.env=pure false)) (hw:↥(swappedStores [.Subscript (.Name x p) ix tpos] e X.env=pure none))
  (h1:↥((assignEach [.Subscript (.Name x p) ix tpos] X.env).map (·.2)=[assign (.Subscript (.Name x p) ix tpos) X.env])):PUS X (.Assign [.Subscript (.Name x p) ix tpos] e pos) (aQ1 i te ti):=
 sU (d18 he (pg_sub hx hi c37 ha) hs hw h1) λD σ H ⟨C,ρ,D0,I,h,k⟩=>⟨C,ρ,_,I,h,λb ρ1 v H1 q f s r=>by
  obtain⟨l,hl,q⟩:=mG q;have I1:=(I.frz f).same s;obtain⟨a,vs,h1,h2,h3,h4⟩:=I1.ow i l hl;refine⟨.ref a,h1,C,ρ1,_,I1,q,λj ρ2 w H2 q2 f2 s2 r2=> ?_⟩
  obtain⟨l',hl',q2⟩:=mG q2;have e:=f2.ow hl';rw[hl]at e;cases e;have I2:=(I1.frz f2).same s2;obtain⟨a',vs',g1,g2,g3,g4⟩:=I2.ow i l hl';rw[h1]at g1;cases g1;have rj:=r2.rep λa z=>I1.avF f2 z
  generalize j.d=dj at q2 rj;split at q2
  .rename_i kk
   have:=bL rj;subst this;split at q2
   .rename_i n hn
    refine⟨a,vs',kk,n,rfl,rfl,g2,by rw[<-g4.length];exact hn,k.nx _ _ _ q2 ?_⟩
    exact I2.write hl' h1 (g4.set n<|(r.rep λa z=>I.avF f z).mono<|.sub s2 λa=>f2.av)
   .exact q2.elim
  .exact q2.elim⟩
def gIx (d i:D)(Q:D->Prop):Prop:=match pP d,i with
 | some l,.int k=>(match atI l k with
  | some x=>Q x
  | none=>False)
 | _,_=>False
def uIx (t:UV)(ti:UE):UE:=λρ Q=>t ρ λd ρ1=>ti ρ1 λi ρ2=>gIx d i.d λx=>Q (.pu x) ρ2
theorem bY.atI {l:List D}{vs:List V}{k:Int}{x:D}(r:bY K A H l vs)(h:atI l k=some x): ∃v,L2.atI vs k=some v/\Rep K A H x v:=by
 unfold L2.atI at h⊢;cases e:ixN l.length k with
 | none=>rw[e]at h;cases h
 | some j=>
  rw[e]at h;rw[<-r.length,e];exact r.get h
theorem cG0.mono {A':AS}(s:gZ H H')(h: ∀a,A' a->A a): ∀{d:D} {v:V},cG0 K A H d v->cG0 K A' H' d v
 | .non,_,r=>Rep.mono (.sub s h) r
 | .bl _,_,r=>Rep.mono (.sub s h) r
 | .int _,_,r=>Rep.mono (.sub s h) r
 | .str _,_,r=>Rep.mono (.sub s h) r
 | .ty _,_,r=>Rep.mono (.sub s h) r
 | .tup _,_,⟨a,vs,e,c,r⟩=>⟨a,vs,e,c.imp (λc=>c.imp (s _ _) λ⟨o,z⟩=>⟨o,s _ _ z⟩) id,r.mono<|.sub s h⟩
 | .lst _,_,⟨a,vs,e,c,r⟩=>⟨a,vs,e,s _ _ c,r.mono<|.sub s h⟩
 | .rol _,_,⟨a,vs,e,c,r⟩=>⟨a,vs,e,s.seq c,r.mono<|.sub s h⟩
 | .obj _ _ _,_,r=>Rep.mono (.sub s h) r
 | .adr _,_,r=>Rep.mono (.sub s h) r
 | .xob _ _ _ _,_,r=>Rep.mono (.sub s h) r
theorem cG0.seq {d:D}{v:V}{l:List D}(r:cG0 K A H d v)(h:pP d=some l): ∃a vs,v= .ref a/\(SqL K H a vs\/SqT K H a vs)/\bY K A H l vs:=by
 cases d with
 | tup l'=>cases h;obtain⟨a,vs,e,c,r⟩:=r;exact⟨a,vs,e,.inr c,r⟩
 | lst l'=>cases h;obtain⟨a,vs,e,c,r⟩:=r;exact⟨a,vs,e,.inl<|SqL.of c,r⟩
 | rol l'=>cases h;obtain⟨a,vs,e,c,r⟩:=r;exact⟨a,vs,e,.inl c,r⟩
 | _=>cases h
theorem dJ6 {d i:D}{Q:D->Prop}(h:gIx d i Q): ∃l k x,pP d=some l/\i= .int k/\atI l k=some x/\Q x:=by
 unfold gIx at h;split at h
 .rename_i l k e
  split at h
  .rename_i x ex
   exact⟨l,k,x,e,rfl,ex,h⟩
  .exact h.elim
 .exact h.elim
theorem b92 {t:UV}(ha:PUV X a t)(hb:PU X b ti)(hs:bU1 b):PU X (.Subscript a b pos) (uIx t ti):=
 iJ (pe_ix ix_seq ha hb hs) λσ H Q ⟨C,ρ,Q0,I,h,k⟩=>⟨C,ρ,_,I,h,λd ρ1 v H1 q f s r=>by
  have I1:=(I.frz f).same s;refine⟨C,ρ1,_,I1,q,λi ρ2 w H2 q2 f2 s2 r2=> ?_⟩
  obtain⟨l,kk,x,e1,e2,e3,q2⟩:=dJ6 q2;have ri:=r2.rep λa z=>I1.avF f2 z
  rw[e2]at ri;have:=bL ri;subst this;obtain⟨a,vs,rfl,c,rs⟩:=(r.mono (A':=Av C ρ2 σ) s2 λa=>f2.av).seq e1
  obtain⟨u,e4,r4⟩:=rs.atI e3;have fin:=k (.pu x) ρ2 u H2 q2 (f.trans f2) (s.trans s2) r4;rcases c with c|c
  .exact .inl ⟨a,vs,kk,u,rfl,rfl,c,e4,fin⟩
  .exact .inr (.inl ⟨a,vs,kk,u,rfl,rfl,c,e4,fin⟩)⟩
abbrev UO:=Ev->(Option Int->Ev->Prop)->Prop
def lO (K:Frag)(t:UO):TO:=λσ H Q=> ∃C ρ Q0,EOk K C ρ σ H/\t ρ Q0/\ ∀i ρ' H',Q0 i ρ'->Frz ρ ρ'->gZ H H'->Q i H'
def PUO (X:Cx)(e:Option Expr)(t:UO):Prop:=PO X e (lO X.K t)
theorem dT5 {e:Option Expr}{t t':TO}(h:PO X e t)(i: ∀σ H Q,t' σ H Q->t σ H Q):PO X e t':=λpins s σ H Q I q=>h pins s σ H Q I (i σ H Q q)
def kK:UO:=λρ Q=>Q none ρ
def nF (t:UE):UO:=λρ Q=>t ρ λb ρ1=>match b.d with
 | .int i=>Q (some i) ρ1
 | _=>False
theorem kM:PUO X none kK:=dT5 dI8 λσ H Q ⟨C,ρ,Q0,I,h,k⟩=>k _ _ _ h (.refl _) (.refl _)
theorem gU (h:PU X e te):PUO X (some e) (nF te):=dT5 (cN6 h) λσ H Q ⟨C,ρ,Q0,I,h,k⟩=>⟨C,ρ,_,I,h,λb ρ1 v H1 q f s r=>by
 have r':=r.rep λa z=>I.avF f z
 generalize b.d=d at q r';split at q
 .exact⟨_,bL r',k _ _ _ q f s⟩
 .exact q.elim⟩
nonrec def cutD (l:List D)(lo hi:Option Int):List D:=(l.drop<|HT.sIx l.length 0 lo).take (HT.sIx l.length l.length hi-HT.sIx l.length 0 lo)
theorem bY.cut {l:List D}{vs:List V}(r:bY K A H l vs)(lo hi:Option Int):bY K A H (cutD l lo hi) (c36 vs lo hi):=by
 unfold cutD c36;rw[r.length];exact(r.drop _).take _
def gSl (d:D)(lo hi:Option Int)(Q:B->Prop):Prop:=match d with
 | .tup l=> ¬(HT.sIx l.length 0 lo=0/\HT.sIx l.length l.length hi=l.length)/\Q (.pu<|.tup<|cutD l lo hi)
 | .lst l=>Q (.ow<|cutD l lo hi)
 | .rol l=>Q (.ow<|cutD l lo hi)
 | _=>False
def uSl (t:UV)(tl th:UO):UE:=λρ Q=>t ρ λd ρ1=>tl ρ1 λlo ρ2=>th ρ2 λhi ρ3=>gSl d lo hi λb=>Q b ρ3
theorem jK {t:UV}{tl th:UO}{lo hi:Option Expr}(he:PUV X e t)(hl:PUO X lo tl)(hu:PUO X hi th):PU X (.Subscript e (.Slice lo hi none p2) pos) (uSl t tl th):=
 iJ (c35 (cN8.or d29) he hl hu) λσ H Q ⟨C,ρ,Q0,I,h,k⟩=>⟨C,ρ,_,I,h,λd ρ1 v H1 q f s r=>by
  have I1:=(I.frz f).same s;refine⟨C,ρ1,_,I1,q,λl2 ρ2 H2 q2 f2 s2=> ?_⟩
  have I2:=(I1.frz f2).same s2;refine⟨C,ρ2,_,I2,q2,λh3 ρ3 H3 q3 f3 s3=> ?_⟩
  have I3:=(I2.frz f3).same s3;have s13:=s2.trans s3;have sAll:=s.trans s13;have fAll:=f.trans (f2.trans f3);have r':=r.mono (A':=Av C ρ3 σ) s13 λa z=>f2.av (f3.av z)
  cases d with
  | tup l=>
   obtain⟨hw,q3⟩:=q3;obtain⟨a,vs,rfl,c,rs⟩:=r';exact .inr ⟨a,vs,rfl,c,by rw[<-rs.length];exact hw,λp n=>k _ ρ3 _ _ q3 fAll (sAll.trans<|eS n _) (iW (λa z=>I3.avSome z) n<|rs.cut l2 h3)⟩
  | lst l=>
   obtain⟨a,vs,rfl,c,rs⟩:=r';exact .inl ⟨a,vs,rfl,SqL.of c,λp n=>k _ ρ3 _ _ q3 fAll (sAll.trans<|eS n _) (gL sAll n<|rs.cut l2 h3)⟩
  | rol l=>
   obtain⟨a,vs,rfl,c,rs⟩:=r';exact .inl ⟨a,vs,rfl,c,λp n=>k _ ρ3 _ _ q3 fAll (sAll.trans<|eS n _) (gL sAll n<|rs.cut l2 h3)⟩
  | _=>exact(show False from q3).elim⟩
def Sm (i:Int):Prop:=i.natAbs<2^9000
theorem Sm.log {i:Int}(h:Sm i):i.natAbs.log2<9000:=by
 by_cases z:i.natAbs=0
 .rw[z];decide
 .exact(Nat.log2_lt z).mpr h
def fN (d e:D)(Q:B->Prop):Prop:=match d,e with
 | .int i,.int j=>Q (.pu<|.int<|i+j)
 | .lst l,.lst m=>l.length+m.length<=sizeLine/\Q (.ow<|l++m)
 | .tup l,.tup m=>l.length+m.length<=sizeLine/\Q (.pu<|.tup<|l++m)
 | _,_=>False
theorem d44:OpR X (binaryOp .Add) (λx y H Q=> ∃a b ys,x= .ref a/\y= .ref b/\SqT X.K H a []/\SqT X.K H b ys/\Q (.ref b) H):=by
 intro pins s σ H x y v u Q I rx ry h;obtain⟨a,b,ys,rfl,rfl,ha,hb,q⟩:=h;cases rx;cases ry;obtain⟨its,r1,p1,_⟩:=I.tuple ha;obtain⟨its2,r2,p2,_⟩:=I.tuple hb;have e:its=[]:=by
  have:=r1.length;exact tU.mp this.symm
 subst e;obtain⟨⟨cls,dd,data,sl⟩,ho,hc,n,hd⟩:=id p1;obtain⟨⟨cls2,dd2,data2,sl2⟩,ho2,hc2,n2,hd2⟩:=id p2;simp only at hc hd hc2 hd2;subst hc hd hc2 hd2;exact concat_meets ⟨_,ho,rfl⟩ ⟨_,ho2,rfl⟩ aL5 seq_tuple_add aJ2 aI7 (aI3 _ _) (tuple_addW0 a b _ its2.toArray n n2 dd dd2 sl sl2 rfl) ⟨ho,ho2,⟨.ref b,H,I,rfl,q⟩⟩
theorem a68 {i:Int}:uL K A H H' (.pu<|.int i) (.int i):=by
 show Rep K A H' (.int i) (.int i)
 simp only[Rep]
theorem cC:OpU X (binaryOp .Add) fN:=by
 intro A H d e v w Q0 Q hA r1 r2 g k;unfold fN at g;split at g
 .rename_i i j
  exact⟨_,op_add,i,j,bL r1,bL r2,k _ _ H g (.refl _) a68⟩
 .rename_i l m
  simp only[Rep]at r1 r2;obtain⟨a,vs,rfl,n1,c1,rs1⟩:=r1;obtain⟨b,ws,rfl,n2,c2,rs2⟩:=r2;exact⟨_,op_cat,a,b,vs,ws,rfl,rfl,c1,c2,by rw[<-rs1.length,<-rs2.length];exact g.1,λp n=>k _ _ _ g.2 (eS n _) (gL (.refl _) n<|rs1.append rs2)⟩
 .rename_i l m
  simp only[Rep]at r1 r2;obtain⟨a,vs,rfl,c1,rs1⟩:=r1;obtain⟨b,ws,rfl,c2,rs2⟩:=r2;obtain⟨hz,g⟩:=g
  by_cases hn:l=[]
  .subst hn;have e1:vs=[]:=rs1.unnil;subst e1;refine⟨_,d44,a,b,ws,rfl,rfl,c1.imp cO id,c2.imp cO id,k _ _ H g (.refl _) ?_⟩;show Rep X.K A H (.tup m) (.ref b);simp only[Rep];exact⟨b,ws,rfl,c2,rs2⟩
  refine⟨_,dI9,a,b,vs,ws,rfl,rfl,c1.imp cO id,c2.imp cO id,λz=>hn ?_,by rw[<-rs1.length,<-rs2.length];exact hz,λz=> ?_,λz p n=> ?_⟩
  .have:=rs1.length;rw[z]at this;exact tU.mp this
  .have e2:=rs2.length;rw[z]at e2;have e3:m=[]:=tU.mp e2;subst e3;rw[kA]at g;refine k _ _ H g (.refl _) ?_;show Rep X.K A H (.tup l) (.ref a);simp only[Rep];exact⟨a,vs,rfl,c1,rs1⟩
  .exact k _ _ _ g (eS n _) (iW hA n<|rs1.append rs2)
 .exact g.elim
def gI2 (f:Int->Int->(B->Prop)->Prop)(d e:D)(Q:B->Prop):Prop:=match d,e with
 | .int i,.int j=>f i j Q
 | _,_=>False
theorem tF {f:Int->Int->(B->Prop)->Prop}{d e:D}{Q:B->Prop}(h:gI2 f d e Q): ∃i j,d= .int i/\e= .int j/\f i j Q:=by
 unfold gI2 at h;split at h
 .exact⟨_,_,rfl,rfl,h⟩
 .exact h.elim
def gSub:D->D->(B->Prop)->Prop:=gI2 λi j Q=>Q (.pu<|.int<|i-j)
theorem bQ:OpU X (binaryOp .Sub) gSub:=by
 intro A H d e v w Q0 Q hA r1 r2 g k;obtain⟨i,j,rfl,rfl,g⟩:=tF g;exact⟨_,op_sub,i,j,bL r1,bL r2,k _ _ H g (.refl _) a68⟩
theorem cO1 {i:Int}(h:Sm i):Builtin.Int.intBits i<=2^20:=aG (PyProof.Rows.intBits_le h) ac
def fV (d e:D)(Q:B->Prop):Prop:=match d,e with
 | .int i,.int j=>(cE9 i j\/(Sm i/\Sm j))/\Q (.pu<|.int<|i*j)
 | .lst l,.int k=>(-(2^63)<=k/\k<2^63/\l.length*k.toNat<=sizeLine)/\Q (.ow (replicate k.toNat l).flatten)
 | _,_=>False
theorem dJ7:OpR X (binaryOp .Mult) (rI (λi j=>cE9 i j\/(Sm i/\Sm j)) λi j=> .int (i*j)):=opI λ_ _ _ _ _ _ _ hc q=>mul_int q (hc.elim cE9.ok λh=> .of_bits (cO1 h.1) (cO1 h.2))
theorem cD:OpU X (binaryOp .Mult) fV:=by
 intro A H d e v w Q0 Q hA r1 r2 g k;unfold fV at g;split at g
 .rename_i i j
  exact⟨_,dJ7,i,j,bL r1,bL r2,g.1,k _ _ H g.2 (.refl _) a68⟩
 .rename_i l kk
  have:=bL r2;subst this;simp only[Rep]at r1;obtain⟨a,vs,rfl,n1,c1,rs1⟩:=r1;obtain⟨⟨h1,h2,h3⟩,g⟩:=g;exact⟨_,op_rep,a,kk,vs,rfl,rfl,c1,h1,h2,by rw[<-rs1.length];exact h3,λp n=>k _ _ _ g (eS n _) (gL (.refl _) n<|rs1.rep _)⟩
 .exact g.elim
def b39:D->D->(B->Prop)->Prop:=gI2 λi j Q=>(j≠0/\Sm j)/\Q (.pu<|.int<|i.fdiv j)
def oS:D->D->(B->Prop)->Prop:=gI2 λi j Q=>j≠0/\Q (.pu<|.int<|i.fmod j)
theorem dJ8:OpR X (binaryOp .FloorDiv) (rI (λ_ j=>j≠0/\Sm j) λi j=> .int (i.fdiv j)):=opI λ_ _ _ _ _ _ _ hc q=>floordiv_int hc.1 q (.inl<|PyProof.noPylong_of_log2 hc.2.log)
theorem a05:OpU X (binaryOp .FloorDiv) b39:=by
 intro A H d e v w Q0 Q hA r1 r2 g k;obtain⟨i,j,rfl,rfl,g⟩:=tF g;exact⟨_,dJ8,i,j,bL r1,bL r2,g.1,k _ _ H g.2 (.refl _) a68⟩
theorem gR:OpU X (binaryOp .Mod) oS:=by
 intro A H d e v w Q0 Q hA r1 r2 g k;obtain⟨i,j,rfl,rfl,g⟩:=tF g;exact⟨_,dI0,i,j,bL r1,bL r2,g.1,k _ _ H g.2 (.refl _) a68⟩
def d45:D->D->(B->Prop)->Prop:=gI2 λi j Q=>dH9 i j/\Q (.pu<|.int<|i^j.toNat)
theorem cG4:OpU X (binaryOp .Pow) d45:=by
 intro A H d e v w Q0 Q hA r1 r2 g k;obtain⟨i,j,rfl,rfl,g⟩:=tF g;exact⟨_,op_pow,i,j,bL r1,bL r2,g.1,k _ _ H g.2 (.refl _) a68⟩
def vW (p:Int->Int->Bool):D->D->(B->Prop)->Prop:=gI2 λi j Q=>Q (.pu<|.bl<|p i j)
theorem bV1 {p:Int->Int->Bool}(ho:OpR X (compareOp op) (rI0 λi j=> .bl (p i j))):OpU X (compareOp op) (vW p):=by
 intro A H d e v w Q0 Q hA r1 r2 g k;obtain⟨i,j,rfl,rfl,g⟩:=tF g;exact⟨_,ho,i,j,bL r1,bL r2,k _ _ H g (.refl _) mW⟩
theorem cO2:OpU X (compareOp .Lt) (vW λi j=>decide (i<j)):=bV1 op_lt
theorem dT6:OpU X (compareOp .LtE) (vW λi j=>decide (i<=j)):=bV1 op_le
theorem b93:OpU X (compareOp .Gt) (vW λi j=>decide (j<i)):=bV1 op_gt
theorem dT7:OpU X (compareOp .GtE) (vW λi j=>decide (j<=i)):=bV1 op_ge
def kR (neg:Bool)(d e:D)(Q:B->Prop):Prop:=match d,e with
 | .int i,.int j=>Q (.pu<|.bl<|neg ^^ decide (i=j))
 | .bl i,.bl j=>Q (.pu<|.bl<|neg ^^ decide (i=j))
 | .str i,.str j=>Q (.pu<|.bl<|neg ^^ decide (i=j))
 | _,_=>False
theorem wA {b:Bool}{v:V}(h:Rep K A H (.bl b) v):v= .bl b:=by simpa only[Rep]using h
theorem aQ2 {b:Str}{v:V}(h:Rep K A H (.str b) v):v= .str b:=by simpa only[Rep]using h
theorem lQ:OpU X (compareOp .Eq) (kR false):=by
 intro A H d e v w Q0 Q hA r1 r2 g k;unfold kR at g;split at g
 .rw[bL r1,bL r2];exact⟨_,d21,rfl,k _ _ H g (.refl _) (by rw[b58,lK,pW];exact mW)⟩
 .rw[wA r1,wA r2];exact⟨_,d21,rfl,k _ _ H g (.refl _) (by rw[bT8,lK,pW];exact mW)⟩
 .rw[aQ2 r1,aQ2 r2];exact⟨_,d21,rfl,k _ _ H g (.refl _) (by rw[b59,lK,pW];exact mW)⟩
 .exact g.elim
theorem b94:OpU X (compareOp .NotEq) (kR true):=by
 intro A H d e v w Q0 Q hA r1 r2 g k;unfold kR at g;split at g
 .rw[bL r1,bL r2];exact⟨_,d22,rfl,k _ _ H g (.refl _) (by rw[b58,qJ,pW];exact mW)⟩
 .rw[wA r1,wA r2];exact⟨_,d22,rfl,k _ _ H g (.refl _) (by rw[bT8,qJ,pW];exact mW)⟩
 .rw[aQ2 r1,aQ2 r2];exact⟨_,d22,rfl,k _ _ H g (.refl _) (by rw[b59,qJ,pW];exact mW)⟩
 .exact g.elim
end
section
variable {X:Cx}{a b e o:Expr}{es:List Expr}{pos:Pos}{ta tb te ti:UE}{K:Frag}{C:C0}{ρ ρ':Ev}{σ σ':L2.St}{H H':Hp}{A:AS}
def nZ (t:UE):UE:=λρ Q=>t ρ λb ρ1=>match b.d with
 | .int i=>Q (.pu<|.int<|-i) ρ1
 | _=>False
theorem iO (h:PU X a ta):PU X (.UnaryOp .USub a pos) (nZ ta):=
 iJ (pe_un un_neg h) λσ H Q ⟨C,ρ,Q0,I,h,k⟩=>⟨C,ρ,_,I,h,λb ρ1 v H1 q f s r=>by
  have r':=r.rep λa z=>I.avF f z
  generalize b.d=d at q r';split at q
  .exact⟨_,bL r',k _ _ _ _ q f s a68⟩
  .exact q.elim⟩
theorem cG5:IpU X .Add (gI2 λi j Q=>Q (.pu<|.int<|i+j)):=by
 intro A H d e v w Q0 Q hA r1 r2 g k;obtain⟨i,j,rfl,rfl,g⟩:=tF g;exact⟨_,ip_add,i,j,bL r1,bL r2,k _ _ H g (.refl _) a68⟩
theorem iu_sub:IpU X .Sub (gI2 λi j Q=>Q (.pu<|.int<|i-j)):=by
 intro A H d e v w Q0 Q hA r1 r2 g k;obtain⟨i,j,rfl,rfl,g⟩:=tF g;exact⟨_,d19,i,j,bL r1,bL r2,k _ _ H g (.refl _) a68⟩
def g1 (f:D->(B->Prop)->Prop)(ds:List D)(Q:B->Prop):Prop:=match ds with
 | [d]=>f d Q
 | _=>False
def g2 (f:D->D->(B->Prop)->Prop)(ds:List D)(Q:B->Prop):Prop:=match ds with
 | [d,e]=>f d e Q
 | _=>False
theorem a06 {f:D->(B->Prop)->Prop}{ds:List D}{Q:B->Prop}{vs:List V}(h:g1 f ds Q)(r:bY K A H ds vs): ∃d v,ds=[d]/\vs=[v]/\Rep K A H d v/\f d Q:=by
 unfold g1 at h;split at h
 .obtain⟨v,vr,rfl,rv,rr⟩:=r.uncons;have:=rr.unnil;subst this;exact⟨_,v,rfl,rfl,rv,h⟩
 .exact h.elim
theorem cG6 {f:D->D->(B->Prop)->Prop}{ds:List D}{Q:B->Prop}{vs:List V}(h:g2 f ds Q)(r:bY K A H ds vs): ∃d e v w,ds=[d,e]/\vs=[v,w]/\Rep K A H d v/\Rep K A H e w/\f d e Q:=by
 unfold g2 at h;split at h
 .obtain⟨v,vr,rfl,rv,rr⟩:=r.uncons;obtain⟨w,wr,rfl,rw',rr'⟩:=rr.uncons;have:=rr'.unnil;subst this;exact⟨_,_,v,w,rfl,rfl,rv,rw',h⟩
 .exact h.elim
def dJ9 (f:Int->(B->Prop)->Prop)(d:D)(Q:B->Prop):Prop:=match d with
 | .int i=>f i Q
 | _=>False
theorem d46 {f:Int->(B->Prop)->Prop}{d:D}{Q:B->Prop}(h:dJ9 f d Q): ∃i,d= .int i/\f i Q:=by
 unfold dJ9 at h;split at h
 .exact⟨_,rfl,h⟩
 .exact h.elim
def cV4:List D->(B->Prop)->Prop:=g1 (dJ9 λi Q=>Q (.pu<|.int<|if i<0 then -i else i))
theorem bV2:uN X (.builtin "abs") cV4:=by
 intro A H ds vs Q0 Q hA r g k;obtain⟨d,v,rfl,rfl,rv,g⟩:=a06 g r;obtain⟨i,rfl,g⟩:=d46 g;exact⟨_,d23,i,by rw[bL rv],k _ _ H g (.refl _) a68⟩
def gMax:List D->(B->Prop)->Prop:=g2 (gI2 λi j Q=>Q (.pu<|.int<|if j>i then j else i))
theorem cu_max (hc:X.calm=true):uN X (.builtin "max") gMax:=by
 intro A H ds vs Q0 Q hA r g k;obtain⟨d,e,v,w,rfl,rfl,rv,rw',g⟩:=cG6 g r;obtain⟨i,j,rfl,rfl,g⟩:=tF g;exact⟨_,cU5 hc,i,j,by rw[bL rv,bL rw'],k _ _ H g (.refl _) a68⟩
def gMin:List D->(B->Prop)->Prop:=g2 (gI2 λi j Q=>Q (.pu<|.int<|if j<i then j else i))
theorem cu_min (hc:X.calm=true):uN X (.builtin "min") gMin:=by
 intro A H ds vs Q0 Q hA r g k;obtain⟨d,e,v,w,rfl,rfl,rv,rw',g⟩:=cG6 g r;obtain⟨i,j,rfl,rfl,g⟩:=tF g;exact⟨_,cU6 hc,i,j,by rw[bL rv,bL rw'],k _ _ H g (.refl _) a68⟩
def bV3:List D->(B->Prop)->Prop:=g1 λd Q=>match d with
 | .int i=>Q (.pu<|.int i)
 | .bl k=>Q (.pu<|.int<|if k then 1 else 0)
 | _=>False
theorem cu_int:uN X (.type "int") bV3:=by
 intro A H ds vs Q0 Q hA r g k;obtain⟨d,v,rfl,rfl,rv,g⟩:=a06 g r;cases d with
 | int i=>exact⟨_,bN7,.inl ⟨i,by rw[bL rv],k _ _ H g (.refl _) a68⟩⟩
 | bl c=>exact⟨_,bN7,.inr ⟨c,by rw[wA rv],k _ _ H g (.refl _) a68⟩⟩
 | _=>exact(show False from g).elim
nonrec def cJ:List D->(B->Prop)->Prop:=g1 λd Q=>match pP d with
 | some l=>Q (.pu<|.tup l)
 | none=>False
theorem dS:uN X (.type "tuple") cJ:=by
 intro A H ds vs Q0 Q hA r g k;obtain⟨d,v,rfl,rfl,rv,g⟩:=a06 g r;cases d with
 | tup l=>
  have rv':=rv;simp only[Rep]at rv;obtain⟨a,vs,rfl,c,rs⟩:=rv;exact⟨_,wS,a,vs,rfl,.inr ⟨c.imp cO id,k _ _ H g (.refl _) rv'⟩⟩
 | lst l=>
  simp only[Rep]at rv;obtain⟨a,vs,rfl,n,c,rs⟩:=rv;exact⟨_,wS,a,vs,rfl,.inl ⟨SqL.of c,λp n=>k _ _ _ g (eS n _) (iW hA n rs)⟩⟩
 | rol l=>
  simp only[Rep]at rv;obtain⟨a,vs,rfl,c,rs⟩:=rv;exact⟨_,wS,a,vs,rfl,.inl ⟨c.imp cO id,λp n=>k _ _ _ g (eS n _) (iW hA n rs)⟩⟩
 | _=>exact(show False from g).elim
nonrec def aQ3:List D->(B->Prop)->Prop:=g1 λd Q=>match pP d with
 | some l=>Q (.ow l)
 | none=>False
theorem bV4:uN X (.type "list") aQ3:=by
 intro A H ds vs Q0 Q hA r g k;obtain⟨d,v,rfl,rfl,rv,g⟩:=a06 g r;cases e:pP d with
 | none=>simp only[e]at g
 | some l=>
  simp only[e]at g;obtain⟨a,vs,rfl,c,rs⟩:=rv.one.seq e;exact⟨_,bU6,a,vs,rfl,c,λp n=>k _ _ _ g (eS n _) (gL (.refl _) n rs)⟩
def jU (t:UV):UE:=λρ Q=>t ρ λd ρ1=>match pP d with
 | some l=>Q (.pu<|.int l.length) ρ1
 | none=>False
theorem eI {t:UV}(ha:PUV X e t)(hg:Gl X "len")(hm:X.mg "len"=none)(hs:↥(starEach [e] X.env=(false,eval e X.env)::starEach [] X.env))
  (hpl:↥((backTo pos<|starEach [] X.env).any (·.1)=false)):PU X (.Call (.Name "len" p) [e] [] pos) (jU t):=
 iJ (c34 bU5 hg hm PySem.boot_len (bU0 ha cF5 hs) ac ac hs hpl) λσ H Q ⟨C,ρ,Q0,I,h,k⟩=>⟨C,ρ,_,I,h,λd ρ1 v H1 q f s r=>by
  cases e:pP d with
  | none=>simp only[e]at q
  | some l=>
   simp only[e]at q;obtain⟨a,vs,rfl,c,rs⟩:=r.seq e;exact⟨a,vs,rfl,c,k _ _ _ _ q f s (by rw[rs.length];exact a68)⟩⟩
theorem aM4 {x:Value}{T:String}{A:Around}
  {P:(Result->Shared->Prop)->Shared->Prop} (hm:Meets (Builtin.«isinstance» ⟨[x,.type T],[]⟩) (λ_ R s=>P R s)) (h:P (λr s'=>match r with| .ok (.ret v)=>Q v s'| .ok _=>False| .error e=>E e s') s) :
  wpAny (model prog w) A (call (.builtin "isinstance") [x,.type T]) Q E s:=
 call_function_any kind_isinstance plain_isinstance entry_isinstance (args_isinstance _ _) (hm _ _ _ _ _ h)
theorem rep_ty {T:String}{v:V}(h:Rep K A H (.ty T) v):v= .ty T:=by simpa only[Rep]using h
def rIsi (K:Frag):List V->Hp->VK->Prop:=λxs H Q=> ∃x T k,xs=[x,.ty T]/\Q (.bl k) H/\
 ((∃i,x= .int i/\((T="int"/\k=true)\/((T="bool"\/T="tuple"\/T="list")/\k=false)))\/(∃c,x= .bl c/\(T="int"\/T="bool")/\k=true)\/
  (∃a ys,x= .ref a/\SqT K H a ys/\((T="tuple"/\k=true)\/((T="int"\/T="list")/\k=false)))\/(∃a ys,x= .ref a/\SqL K H a ys/\((T="list"/\k=true)\/((T="int"\/T="tuple")/\k=false))))
theorem tyT (T:String)(h:T="int"\/T="bool"\/T="tuple"\/T="list"):typeOf (.type T)=pure (.type "type"):=by
 rcases h with rfl|rfl|rfl|rfl<;>first|rfl|decide
theorem uQ:oV X (.builtin "isinstance") (rIsi X.K):=by
 intro pins s σ H xs us Q I r h;obtain⟨x,T,k,rfl,q,h⟩:=h;obtain⟨u,w',rfl,rx,ry⟩:=vals2 r;have e:w'=Value.type T:=ry;subst e;rcases h with⟨i,rfl,h⟩| ⟨c,rfl,h,rfl⟩| ⟨a,ys,rfl,hs,h⟩| ⟨a,ys,rfl,hs,h⟩
 .obtain⟨t,rfl⟩:=rx;rcases h with⟨rfl,rfl⟩| ⟨h,rfl⟩
  .exact tW (qN s i t) (tyT _ af) PyProof.Rows.sub_int_int ⟨.bl true,H,I,rfl,q⟩
  .rcases h with rfl|rfl|rfl
   .exact aM4 (aK0 ac (tyT _ af) PyProof.Rows.sub_int_bool) ⟨.bl false,H,I.tok _,rfl,q⟩
   .exact aM4 (aK0 ac (tyT _ af) PyProof.Rows.sub_int_tuple) ⟨.bl false,H,I.tok _,rfl,q⟩
   .exact aM4 (aK0 ac (tyT _ af) PyProof.Rows.sub_int_list) ⟨.bl false,H,I.tok _,rfl,q⟩
 .cases rx;rcases h with rfl|rfl
  .exact tW (PySem.typeIs_bool s c) (tyT _ af) PyProof.Rows.sub_bool_int ⟨.bl true,H,I,rfl,q⟩
  .exact tW (PySem.typeIs_bool s c) (tyT _ af) PyProof.Rows.sub_bool_bool ⟨.bl true,H,I,rfl,q⟩
 .cases rx;obtain⟨its,rv,p,hz⟩:=I.tuple hs;obtain⟨o,ho,hc,_⟩:=id p;rcases h with⟨rfl,rfl⟩| ⟨h,rfl⟩
  .exact tW p.typeIs (tyT _ af) PyProof.Rows.sub_tuple_tuple ⟨.bl true,H,I,rfl,q⟩
  .rcases h with rfl|rfl
   .exact aM4 (isinstance_false_tuple ac (tyT _ af) PyProof.Rows.sub_tuple_int) ⟨⟨o,ho,hc⟩,.bl false,H,I.tok _,rfl,q⟩
   .exact aM4 (isinstance_false_tuple ac (tyT _ af) PyProof.Rows.sub_tuple_list) ⟨⟨o,ho,hc⟩,.bl false,H,I.tok _,rfl,q⟩
 .cases rx;obtain⟨its,rv,p,hz⟩:=I.list hs;obtain⟨o,n,ho,hc,_⟩:=id p;rcases h with⟨rfl,rfl⟩| ⟨h,rfl⟩
  .exact tW p.isList.typeIs (tyT _ af) PyProof.Rows.sub_list_list ⟨.bl true,H,I,rfl,q⟩
  .rcases h with rfl|rfl
   .exact aM4 (isinstance_false_list ac (tyT _ af) PyProof.Rows.sub_list_int) ⟨⟨o,ho,hc⟩,.bl false,H,I.tok _,rfl,q⟩
   .exact aM4 (isinstance_false_list ac (tyT _ af) PyProof.Rows.sub_list_tuple) ⟨⟨o,ho,hc⟩,.bl false,H,I.tok _,rfl,q⟩
def gIsi:List D->(B->Prop)->Prop:=g2 λd e Q=>match e with
 | .ty T=>(match d with
  | .int _=>if T="int" then Q (.pu<|.bl true)else if T="bool"\/T="tuple"\/T="list" then Q (.pu<|.bl false)else False
  | .bl _=>if T="int"\/T="bool" then Q (.pu<|.bl true)else False
  | .tup _=>if T="tuple" then Q (.pu<|.bl true)else if T="int"\/T="list" then Q (.pu<|.bl false)else False
  | .lst _=>if T="list" then Q (.pu<|.bl true)else if T="int"\/T="tuple" then Q (.pu<|.bl false)else False
  | _=>False)
 | _=>False
theorem cu_isi:uN X (.builtin "isinstance") gIsi:=by
 intro A H ds vs Q0 Q hA r g k;obtain⟨d,e,v,w,rfl,rfl,rv,rw',g⟩:=cG6 g r;have no: ∀{c:Bool},Q0 (.pu<|.bl c)->Q (.bl c) H:=λz=>k _ _ H z (.refl _) mW
 cases e with
 | ty T=>
  rw[rep_ty rw'];cases d with
  | int i=>
   rw[bL rv]
   by_cases h1:T="int"
   .simp only[h1,dR]at g;exact⟨_,uQ,_,T,true,rfl,no g,.inl ⟨i,rfl,.inl ⟨h1,rfl⟩⟩⟩
   .by_cases h2:T="bool"\/T="tuple"\/T="list"
    .simp only[h1,h2,dR,fS]at g;exact⟨_,uQ,_,T,false,rfl,no g,.inl ⟨i,rfl,.inr ⟨h2,rfl⟩⟩⟩
    .simp only[h1,h2,fS]at g
  | bl c=>
   rw[wA rv]
   by_cases h1:T="int"\/T="bool"
   .simp only[h1,dR]at g;exact⟨_,uQ,_,T,true,rfl,no g,.inr<|.inl ⟨c,rfl,h1,rfl⟩⟩
   .simp only[h1,fS]at g
  | tup l=>
   obtain⟨a,vs,rfl,c,rs⟩:=rv.one
   by_cases h1:T="tuple"
   .simp only[h1,dR]at g;exact⟨_,uQ,_,T,true,rfl,no g,.inr<|.inr<|.inl ⟨a,vs,rfl,c,.inl ⟨h1,rfl⟩⟩⟩
   .by_cases h2:T="int"\/T="list"
    .simp only[h1,h2,dR,fS]at g;exact⟨_,uQ,_,T,false,rfl,no g,.inr<|.inr<|.inl ⟨a,vs,rfl,c,.inr ⟨h2,rfl⟩⟩⟩
    .simp only[h1,h2,fS]at g
  | lst l=>
   obtain⟨a,vs,rfl,c,rs⟩:=rv.one
   by_cases h1:T="list"
   .simp only[h1,dR]at g;exact⟨_,uQ,_,T,true,rfl,no g,.inr<|.inr<|.inr ⟨a,vs,rfl,SqL.of c,.inl ⟨h1,rfl⟩⟩⟩
   .by_cases h2:T="int"\/T="tuple"
    .simp only[h1,h2,dR,fS]at g;exact⟨_,uQ,_,T,false,rfl,no g,.inr<|.inr<|.inr ⟨a,vs,rfl,SqL.of c,.inr ⟨h2,rfl⟩⟩⟩
    .simp only[h1,h2,fS]at g
  | _=>exact(show False from g).elim
 | _=>exact(show False from g).elim
theorem pu_ty {T:String}(hg:Gl X x)(hm:X.mg x=none)(hv:bootBuiltins x=some (.type T))(hn:⇑(x≠"__name__"))(hd:⇑(x∪0)):PU X (.Name x p) (uC<|.ty T):=
 bU8 (dH1 (v:= .ty T) hg hm hv rfl hn hd) λA H=>by simp only[Rep]
nonrec def init (N:List Str)(ds:List D):Ev:=ds.map (λd=>some (.pu d))++replicate (N.length-ds.length) none
theorem a69 {ds:List D}{z:B}(h:(init N ds)[i]? =some (some z)): ∃d,z= .pu d/\ds[i]? =some d:=by
 unfold init at h
 by_cases hi:i<ds.length
 .rw[yV<|by simpa using hi,bG]at h
  cases e:ds[i]? with
  | none=>rw[e]at h;cases h
  | some d=>rw[e]at h;cases h;exact⟨d,rfl,rfl⟩
 .rw[tT<|by simpa using hi,yY]at h
  split at h<;>cases h
theorem b63 {ds:List D}{vs:List V}(hA: ∀a,A a->H a≠none)(r:bY K A H ds vs):EOk K ⟨H,A⟩ (init N ds) (L2.start N vs) H:=by
 have own: ∀a,¬Own (init N ds) (L2.start N vs) a:=λa ⟨i,l,h1,_⟩=>by
  obtain⟨d,e,_⟩:=a69 h1;cases e
 refine⟨?_,λi d h=> ?_,λi l h=> ?_,λi j l l' a h=> ?_,λi l h=> ?_,.refl _,hA⟩
 .unfold init L2.start;simp[r.length]
 .obtain⟨d',e,e2⟩:=a69 h;cases e;obtain⟨v,h1,h2⟩:=r.get e2;refine⟨v,?_,h2.mono<|.sub (.refl _) λa z=>z.elim id λz=>absurd z (own a)⟩
  unfold L2.start;have hv:i<vs.length:=(jX.mp h1).1;rw[yV<|by simpa using hv,bG,h1]
  rfl
 .obtain⟨d',e,_⟩:=a69 h;cases e
 .obtain⟨d',e,_⟩:=a69 h;cases e
 .obtain⟨d',e,_⟩:=a69 h;cases e
theorem bV5 {K:Frag}{ps:List Str}(F:Fun K x qual st f fd)(S:aW N ps (aD st))
  (len: ∀ds Q,φ ds Q->ds.length=ps.length)
  (body: ∀(cdv:Value) (A:Around) (outer:List Env) (s:Shared) (H:Hp) (E:XK),gT k (A.deeper<|envOfC qual (aD st) s.heap.objs.size f cdv)->
   ∃t,tD (t9 CX0 P w K mg base N qual (aD st) f cdv A outer s H E).nox (dF st) t/\ ∀ds Q,φ ds Q->t {Q with} (init N ds)) :
  sC P w K mg base CX0 (k+1) f fd ps (spP K φ):=by
 refine F.ok S (λvs H Q E h=> ?_) (λcdv A outer s H vs Q E hr h=> ?_)
 .obtain⟨A,ds,Q0,_,r,h,_⟩:=h;rw[<-r.length];exact len ds Q0 h
 .obtain⟨A',ds,Q0,hA,r,h,q⟩:=h;obtain⟨t,ht,hq⟩:=body cdv A outer s H E hr;refine⟨_,ht,⟨H,A'⟩,init N ds,_,b63 hA r,hq ds Q0 h,⟨λρ σ H' z I=> ?_,λb v H' z s r=>q b v H' z s r,λ_ _ _ z=>z.elim,λ_ _ _ z=>z.elim⟩⟩
  exact q _ _ H' z I.ext (show Rep _ _ _ _ _ by simp only[Rep])
end
structure Fn (P:Program)(w:World)(K:Frag)(mg:Str->Option Value)(base:Heap)(x:Str)(ps:List Str)(k:Nat)(φ:Φ):Prop where
 ex: ∃f fd,sC P w K mg base CX0 k f fd ps (spP K φ)/\Binds K fd ps []/\keepIn K (.ref f)=true/\mg x=some (.ref f)
section
variable {X:Cx}{e:Expr}{es:List Expr}{pos:Pos}
theorem aQ4 {ps:List Str}{t:UA}(F:Fn X.prog X.w X.K X.mg X.base x ps k φ)(hr:gT k' X.A)(hk:k<=k')(hg:Gl X x)(ha:PUA X (e::es) t)(hdb:⇑(x∪0))
  (he:↥(starEach (e::es) X.env=(false,eval e X.env)::starEach es X.env)) (hpl:↥((backTo pos<|starEach es X.env).any (·.1)=false)):PU X (.Call (.Name x p) (e::es) [] pos) (aR φ t):=by
 obtain⟨f,fd,G,b,kp,m⟩:=F.ex;exact dJ3 (E:=E0) G (hr.mono hk) hg m kp b (λ_ _ _ _ _ _ _ h=>h.elim) ha hdb he hpl
theorem aM5 {ps:List Str}(F:Fn X.prog X.w X.K X.mg X.base x ps k φ)(hr:gT k' X.A)(hk:k<=k')(hg:Gl X x)(hdb:⇑(x∪0)):PU X (.Call (.Name x p) [] [] pos) (aR φ aK):=by
 obtain⟨f,fd,G,b,kp,m⟩:=F.ex;exact d37 (E:=E0) G (hr.mono hk) hg m kp b (λ_ _ _ _ _ _ _ h=>h.elim) hdb
theorem il (hn:X.N.length=n)(h:i<n): ∀pins σ H s,Inv X pins σ H s->i<σ.length:=λ_ _ _ _ I=>by rw[I.len,hn];exact h
end
theorem Fn.mk' {ps:List Str}(F:Fun K x qual st f fd)(m:mg x=some (.ref f))(b:Binds K fd ps [])(S:aW N ps (aD st))
  (len: ∀ds Q,φ ds Q->ds.length=ps.length) {t:US}
  (der: ∀(cdv:Value) (A:Around) (outer:List Env) (s:Shared) (H:Hp) (E:XK),gT k (A.deeper<|envOfC qual (aD st) s.heap.objs.size f cdv)->tD (t9 CX0 P w K mg base N qual (aD st) f cdv A outer s H E).nox (dF st) t)
  (rd: ∀ds Q,φ ds Q->t {Q with} (init N ds)):Fn<$>x ps (k+1) φ:=
 ⟨f,fd,bV5 F S len λcdv A outer s H E hr=>⟨t,der cdv A outer s H E hr,rd⟩,b,F.kp,m⟩
def bO7:Φ:=λds Q=> ∃ns:List Int,ds=[.rol<|ns.map .int]/\ns.length<=63/\Q (.pu<|.bl true)
theorem bO8 {K:Frag}{A:AS}{H:Hp}: ∀ns:List Int,bY K A H (ns.map .int) (ns.map V.int)
 | []=> .nil
 | n::ns=> .cons (by simp only[Rep]) (bO8 ns)
theorem law_sp {H:Hp}{ns:List Int}(hl:ns.length<=63)(hS:SqL K H a (ns.map V.int)):spP K bO7 [.ref a] H (λv _=>v= .bl true) (λ_ _ _=>False):=by
 refine⟨λ_=>False,[.rol<|ns.map .int],λb=>b= .pu (.bl true),λ_ z=>z.elim,.cons ?_ .nil,⟨ns,rfl,hl,rfl⟩,λb v H' q s r=> ?_⟩
 .simp only[Rep];exact⟨a,_,rfl,hS.imp (λz=>⟨λz=>z,z⟩) id,bO8 ns⟩
 .subst q;have r':Rep K (λ_=>False) H' (.bl true) v:=r
  exact wA r'
theorem walkM {l:PySem.W.OpenLaw}{XP:(Str->Option Value)->Heap->Prop}{d:DefRec}{K:Params->Frag}(hn:l.most=some 63)(hdf:d.params.defaults=[])(hr:gT k callerA)
  (hY: ∀(w:World) (h:Heap),YP w h->(K w.params).In h)
  (F: ∀(w:World) (mg:Str->Option Value) (fa:Addr) (h:Heap),(K w.params).In h->h.Ns mainGlobals mg->mg d.name=some (.ref fa)->
   ∃fd:FuncData,(∀(s:Shared) (u:Value),BindsTo s fd ⟨[u],[]⟩ [(x,u)])/\ ∀base:Heap,(K w.params).In base->base.Ns mainGlobals mg->sC l.prog w (K w.params) mg base CX0 k fa fd [x] (spP (K w.params) bO7)) :
  PySem.W.WalkO q loose XP YP l.row.toRowW d [] (λf vs=>PySem.call f vs):=
 L2.walk_of (n:=63) (k:=k) (x:=x) (CX:=λ_=>CX0) (sp:=λw=>spP (K w.params) bO7) hn ac hdf hr hY F (λ_ _ a ns hl _ hS=>law_sp hl hS) λ_ _ _ _ _ z=>z
end M
section
namespace L2
nonrec def cY (X:Cx)(N:List Str)(scope:Scope)(cl:List (Str×Addr))(C:Addr)(s:Shared)(H:Hp)(fp:List Addr)(pins:List (Addr×Obj)):Cx where
 prog:=X.prog
 w:=X.w
 K:=X.K
 mg:=X.mg
 base:=X.base
 A:=X.A
 N:=N
 s₀:=s
 H₀:=H
 env:=compEnvC scope cl C X.env
 outer:=X.stack
 stack:=X.stack
 ex:=fp
 fn:=λx=>scope.names.lookup x==some .cell
 calm:=X.calm
 pn:=X.pn++pins
 xe:=λ_ _=>False
theorem a07 {env:Env}: ∀(names:List (Str×NameKind)),(∀y∈names,y.2= .free-> ∃c,env.cells.lookup y.1=some c)-> ∀cs:List (Str×Addr),(∀x c,cs.lookup x=some c->env.cells.lookup x=some c)->
  ∃cl,(forIn names cs fun(x:Str×NameKind) r=>(do if(x.2==NameKind.free)=true then do let c<-cellOf env x.1;pure (ForInStep.yield ((x.1,c)::r))else pure (ForInStep.yield r)):Sem (List<|Str×Addr))=pure cl/\
   (∀x c,cl.lookup x=some c->env.cells.lookup x=some c)/\(∀x c,cs.lookup x=some c-> ∃c',cl.lookup x=some c')/\ ∀y∈names,y.2= .free-> ∃c,cl.lookup y.1=some c
 | [],_,cs,hcs=>⟨cs,rfl,hcs,λx c h=>⟨c,h⟩,λy hy=>by simp at hy⟩
 | (n,k)::r,h,cs,hcs=>by
  have hr: ∀y∈r,y.2= .free-> ∃c,env.cells.lookup y.1=some c:=λy hy=>h y (fB _ hy)
  by_cases hk:k= .free
  .subst hk;obtain⟨c,hc⟩:=h (n,.free) lD rfl;have e1:cellOf env n=pure c:=by unfold cellOf;rw[hc]
   have hcs': ∀x c',List.lookup x ((n,c)::cs)=some c'->env.cells.lookup x=some c':=λx c' q=>by
    rw[cU]at q;split at q
    .rename_i e
     have:x=n:=by exists e
     subst this;cases q;exact hc
    .exact hcs x c' q
   obtain⟨cl,h1,h2,h3,h4⟩:=a07 r hr ((n,c)::cs) hcs';have hn: ∃c',cl.lookup n=some c':=h3 n c (by rw[cU];simp)
   refine⟨cl,?_,h2,λx c' q=> ?_,λy hy hf=> ?_⟩
   .rw[zP];show(do let c<-cellOf env n;pure (ForInStep.yield ((n,c)::cs))) >>= _=_;rw[e1];exact h1
   .by_cases z:x=n
    .subst z;exact hn
    .refine h3 x c' ?_
     rw[cU];have:(x==n)=false:=by exists z
     rw[this];exact q
   .rcases aY.mp hy with rfl|hy
    .exact hn
    .exact h4 y hy hf
  .obtain⟨cl,h1,h2,h3,h4⟩:=a07 r hr cs hcs;refine⟨cl,?_,h2,h3,λy hy hf=> ?_⟩
   .rw[zP];have:(k==NameKind.free)=false:=by exists hk
    show(if(k==NameKind.free)=true then _ else _) >>= _=_
    rw[this];exact h1
   .rcases aY.mp hy with rfl|hy
    .exact absurd hf hk
    .exact h4 y hy hf
structure jD (env:Env)(XN N:List Str)(cap:List (Option Nat))(scope:Scope):Prop where
 kind:scope.kind= .function
 owns: ∀y∈scope.names,y.2= .cell->scope.names.lookup y.1=some .cell
 freeK: ∀y∈scope.names,y.2= .free->scope.names.lookup y.1=some .free
 names: ∀y∈scope.names,y.2= .local->scope.names.lookup y.1=some .local
 frees: ∀y∈scope.names,y.2= .free->env.kindOf y.1=some .cell\/env.kindOf y.1=some .free
 caps: ∀(i j:Nat) (x:Str),N[i]? =some x->cap[i]? =some (some j)->XN[j]? =some x/\(x,NameKind.free)∈scope.names/\scope.names.lookup x=some .free
 len:cap.length=N.length
nonrec def wC (σ:L2.St)(cap:List (Option Nat))(last:Nat)(D:Addr):L2.St:=(cap.map λc=>c.bind λj=>(σ[j]?).join).set last (some<|.ref D)
theorem a70 {env:Env}{x:Str}{k:NameKind}: ∀{names:List (Str×NameKind)},names.lookup x=some k->
  (names.map fun(n,k)=>if(k==NameKind.free&&env.scope.kind== .function&&env.kindOf n==some .cell)then(n,NameKind.cell)else(n,k)).lookup x=
   some (if(k==NameKind.free&&env.scope.kind== .function&&env.kindOf x==some .cell)then NameKind.cell else k)
 | [],h=>by simp at h
 | (n,k')::r,h=>by
  rw[cN];rw[cU]at h;right
  by_cases e:(x==n)=true
  .have e':x=n:=by exists e
   subst e';rw[e]at h;cases h;split<;>simp
  .have e2:(x==n)=false:=by exists e
   rw[e2]at h;have ih:=a70 (env:=env) h;split
   .rw[cU,e2];exact ih
   .rw[cU,e2];exact ih
theorem oW {env:Env}{x:Str}{k:NameKind}: ∀{names:List (Str×NameKind)},(names.map fun(n,k)=>if(k==NameKind.free&&env.scope.kind== .function&&env.kindOf n==some .cell)then(n,NameKind.cell)else(n,k)).lookup x=some k->
  ∃k',names.lookup x=some k'/\(x,k')∈names/\(k=k'\/k'= .free)
 | [],h=>by simp at h
 | (n,k')::r,h=>by
  rw[cN]at h;dsimp only at h
  by_cases e:(x==n)=true
  .have e':x=n:=by exists e
   subst e';refine⟨k',by rw[cU,e],lD,?_⟩
   split at h
   .rename_i c
    refine .inr ?_
    simp only[dZ,eH]at c;exact c.1.1
   .rw[cU,e]at h;cases h;exact .inl rfl
  .have e2:(x==n)=false:=by exists e
   have h':(r.map fun(n,k)=>if(k==NameKind.free&&env.scope.kind== .function&&env.kindOf n==some .cell)then(n,NameKind.cell)else(n,k)).lookup x=some k:=by
    split at h
    .rw[cU,e2]at h;exact h
    .rw[cU,e2]at h;exact h
   obtain⟨k2,h1,h2,h3⟩:=oW h';exact⟨k2,by rw[cU,e2];exact h1,fB _ h2,h3⟩
theorem aV9 {x:Str}{c:Addr}: ∀(names:List (Str×NameKind)) (h:Heap) (acc:List (Str×Addr)),(cellsFrom h.objs.size names acc).lookup x=some c->
  acc.lookup x=some c\/(h.objs.size<=c/\(x,NameKind.cell)∈names/\(pushCells h names).IsCell c none)
 | [],_,_,e=> .inl e
 | (y,k)::r,h,acc,e=>by
  unfold cellsFrom at e;unfold pushCells
  by_cases hk:(k==NameKind.cell)=true
  .rw[a8 hk]at e⊢;have hk':k= .cell:=by exists hk
   have sz:(h.push {cls:= .type "cell",data:= .cell none}).objs.size=h.objs.size+1:=jA ..;rw[<-sz]at e;rcases aV9 r _ _ e with q| ⟨q1,q2,q3⟩
   .rw[cU]at q;split at q
    .rename_i e1
     have:x=y:=by exists e1
     subst this;cases q;exact .inr ⟨aF _,by rw[hk'];exact lD,⟨_,aL9 _ _ _ _<|cA _ rfl,rfl⟩⟩
    .exact .inl q
   .exact .inr ⟨ae,fB _ q2,q3⟩
  .rw[a6 hk]at e⊢;rcases aV9 r h acc e with q| ⟨q1,q2,q3⟩
   .exact .inl q
   .exact .inr ⟨q1,fB _ q2,q3⟩
theorem aW0: ∀(names:List (Str×NameKind)) (n:Nat) (acc:List (Str×Addr)),(∀x c,acc.lookup x=some c->c<n)->(∀x y c,acc.lookup x=some c->acc.lookup y=some c->x=y)->
  ∀x y c,(cellsFrom n names acc).lookup x=some c->(cellsFrom n names acc).lookup y=some c->x=y
 | [],_,_,_,hi=>hi
 | (z,k)::r,n,acc,hl,hi=>by
  unfold cellsFrom
  by_cases hk:(k==NameKind.cell)=true
  .rw[a8 hk];refine aW0 r (n+1) _ (λx c e=> ?_) (λx y c e1 e2=> ?_)
   .rw[cU]at e;split at e
    .cases e;exact qG n
    .exact lF (hl x c e)
   .rw[cU]at e1 e2;split at e1
    .rename_i q1
     cases e1;split at e2
     .rename_i q2
      exact(by simpa using q1:x=z).trans (by simpa using q2:y=z).symm
     .exact absurd (hl y _ e2) (d7 _)
    .split at e2
     .cases e2;exact absurd (hl x _ e1) (d7 _)
     .exact hi x y c e1 e2
  .rw[a6 hk];exact aW0 r n acc hl hi
theorem tL {x:Str}{c:Addr}: ∀(names:List (Str×NameKind)) (n:Nat) (acc:List (Str×Addr)),((x,NameKind.cell)∈names\/ ∀c,acc.lookup x=some c->n<=c)->(cellsFrom n names acc).lookup x=some c->n<=c
 | [],_,_,h,e=>by
  rcases h with h|h
  .simp at h
  .exact h c e
 | (z,k)::r,n,acc,h,e=>by
  unfold cellsFrom at e
  by_cases hk:(k==NameKind.cell)=true
  .rw[a8 hk]at e;have hk':k= .cell:=by exists hk
   rcases h with h|h
   .rcases aY.mp h with h|h
    .cases h;have:n<=c:=by
      by_cases q: ∃c',(cellsFrom (n+1) r ((x,n)::acc)).lookup x=some c'/\(x,NameKind.cell)∈r
      .obtain⟨c',e',m⟩:=q;have:=tL (c:=c) r (n+1) _ (.inl m) e
       lia
      .have nm:(x,NameKind.cell) ∉ r:=λm=>q ⟨c,e,m⟩
       have:=cells_keep r (n+1) ((x,n)::acc) nm;rw[this,cU]at e;simp at e;exact le_of_eq e
     exact this
    .have:=tL (c:=c) r (n+1) _ (.inl h) e
     lia
   .by_cases q:(x,NameKind.cell)∈r
    .have:=tL (c:=c) r (n+1) _ (.inl q) e
     lia
    .have:=cells_keep r (n+1) ((z,n)::acc) q;rw[this,cU]at e;split at e
     .cases e;exact aF _
     .exact h c e
  .rw[a6 hk]at e;refine tL (c:=c) r n acc (h.imp (λm=> ?_) id) e
   rcases aY.mp m with m|m
   .cases m;exact absurd ac hk
   .exact m
where
 cells_keep {x:Str}: ∀(names:List (Str×NameKind)) (n:Nat) (acc:List (Str×Addr)),(x,NameKind.cell) ∉ names->(cellsFrom n names acc).lookup x=acc.lookup x
 | [],_,_,_=>rfl
 | (z,k)::r,n,acc,h=>by
  unfold cellsFrom
  by_cases hk:(k==NameKind.cell)=true
  .rw[a8 hk];have hk':k= .cell:=by exists hk
   rw[cells_keep r (n+1) _ λm=>h (fB _ m),cU]
   split
   .rename_i e
    have:x=z:=by exists e
    subst this;exact absurd (by rw[hk'];exact lD) h
   .rfl
  .rw[a6 hk];exact cells_keep r n acc λm=>h (fB _ m)
theorem cells_keep (names:List (Str×NameKind))(n:Nat)(acc:List (Str×Addr))(h:(x,NameKind.cell) ∉ names):(cellsFrom n names acc).lookup x=acc.lookup x:=tL.cells_keep names n acc h
theorem bV6 {M:Model}{globals:Addr}{env0:Env}{Q:Env->Shared->Prop}
  (hQ:Q {scope:=scope,locals:=s.heap.objs.size,globals:=globals,cells:=cellsFrom (s.heap.objs.size+1) scope.names cl,qual:=qual,func:=none,code:=env0.code,frame:=env0.frame,builtins:=env0.builtins} {s with heap:=pushCells (s.heap.push {cls:= .type "dict",data:= .dict #[]}) scope.names}) :
  wpAny M A (newFunctionEnv scope globals cl [] qual none .none<|some env0) Q E s:=by
 simp only[newFunctionEnv,Option.isSome_some,dR];refine a9 (wpAny_alloc ?_);refine a9 (wpAny_layCells _ (λname kind cells=>by cases hkc:kind==NameKind.cell<;>simp[hkc]) _ _ _ _ ?_)
 rw[show({s with heap:=s.heap.push {cls:= .type "dict",data:= .dict #[]}}:Shared).heap.objs.size=s.heap.objs.size+1 from jA ..]
 rw[forIn_nil];exact a9 (aL<|aL hQ)
section
variable {X:Cx}{pins:List (Addr×Obj)}{σ:L2.St}{H:Hp}{s:Shared}{N:List Str}{cap:List (Option Nat)}{scope:Scope}
theorem c44 {D:Addr}{cl0:List (Str×Addr)}{h1:Heap}{m0:Str->Option Value}(S:jD X.env X.N N cap scope)(I:Inv X pins σ H s)(hf: ∀b∈fp,aV4 X pins H b)(hfs: ∀b∈fp,b<s.heap.objs.size)
  (hcl: ∀x c,cl0.lookup x=some c->X.env.cells.lookup x=some c) (hcl2: ∀y∈scope.names,y.2= .free-> ∃c,cl0.lookup y.1=some c) (hN: ∀x,N[last]? =some x->scope.names.lookup x=none)
  (hns:h1.Ns s.heap.objs.size m0) (hk: ∀b o,s.heap.get? b=some o->h1.get? b=some o)
  (c1: ∀x c,cl.lookup x=some c->cl0.lookup x=some c\/(s.heap.objs.size<c/\h1.IsCell c none)) (c2: ∀x y c,cl.lookup x=some c->cl.lookup y=some c->x=y)
  (c3: ∀x,(x,NameKind.free)∈scope.names->cl.lookup x=cl0.lookup x) (c4: ∀x,scope.names.lookup x=some .cell-> ∃c,cl.lookup x=some c) (c5: ∀x c,scope.names.lookup x=some .cell->cl.lookup x=some c->s.heap.objs.size<=c) :
  Inv (cY X N scope cl s.heap.objs.size s H fp pins) [] (wC σ cap last D) H {s with heap:=h1,toks:=tk}:=by
 have sz:X.base.objs.size<=s.heap.objs.size:=aG I.ok.bsz I.sz;have kindF: ∀x,(cY X N scope cl s.heap.objs.size s H fp pins).env.kindOf x=some .cell\/(cY X N scope cl s.heap.objs.size s H fp pins).env.kindOf x=some .free->(x,NameKind.free)∈scope.names\/scope.names.lookup x=some .cell:=λx h=>by
  have: ∃k,(k= .cell\/k= .free)/\(relabel scope X.env).names.lookup x=some k:=by
   rcases h with h|h
   .exact⟨_,.inl rfl,h⟩
   .exact⟨_,.inr rfl,h⟩
  obtain⟨k,hk,h⟩:=this;obtain⟨k',h1,h2,h3⟩:=oW h;rcases h3 with rfl|rfl
  .rcases hk with rfl|rfl
   .exact .inr (S.owns _ h2 rfl)
   .exact .inl h2
  .exact .inl h2
 have cne: ∀x c,cl.lookup x=some c-> ∀b∈fp,c≠b:=λx c h b hb=>by
  rcases c1 x c h with q| ⟨q,_⟩
  .exact(hf b hb).2.2.2.2.1 x c (hcl x c q)
  .exact λz=>by subst z;exact absurd (Nat.lt_trans q<|hfs c hb) (d7 _)
 refine⟨⟨I.ok.mod,S.kind,I.ok.glob,I.ok.blt,aF _,c2,λx h=> ?_,λx c h e=> ?_,I.ok.hd,I.ok.frames,.inl rfl,λb hb=> ?_,I.bs,sz,λb o e hb=> ?_,λb hb=> ?_,I.stack,I.stkFree⟩,
  rfl,I.bare,Un.kept hk,⟨m0,hns,λi x v e1 e2 e3=> ?_⟩,λx c h=> ?_,I.hok.fresh<|aF _,λx c h=> ?_,λp hp=> ?_,I.hok.kept hk,?_⟩
 .rcases kindF x h with q|q
  .obtain⟨c,e⟩:=hcl2 _ q rfl;exact⟨c,(c3 x q).trans e⟩
  .exact c4 x q
 .exact c5 x c (by simpa using(show(scope.names.lookup x==some NameKind.cell)=true from h)) e
 .exact⟨bE<|hfs b hb,λx c h=>cne x c h b hb⟩
 .rcases(hf b hb).2.2.2.1 with z|z
  .exact I.ok.noex b o e z
  .have:=aV e;exact absurd (aZ this<|aG I.ok.bsz z) (d7 _)
 .intro z;rcases aY.mp (I.stkSub b z)with z|z
  .exact(hf b hb).2.1 z
  .exact(hf b hb).2.2.1 z
 .have e1':N[i]? =some x:=e1;unfold wC at e2
  by_cases hl:last=i
  .subst hl;have z:=hN x e1';rcases e3 with e3|e3|e3
   .obtain⟨k',h1,_⟩:=oW (show(relabel scope X.env).names.lookup x=_ from e3)
    rw[z]at h1;cases h1
   .obtain⟨k',h1,_⟩:=oW (show(relabel scope X.env).names.lookup x=_ from e3)
    rw[z]at h1;cases h1
   .obtain⟨k',h1,_⟩:=oW (show(relabel scope X.env).names.lookup x=_ from e3)
    rw[z]at h1;cases h1
  .rw[M.get_set_ne hl,bG]at e2;cases e4:cap[i]? with
   | none=>rw[e4]at e2;cases e2
   | some c=>
    rw[e4]at e2;cases c with
    | none=>cases e2
    | some j=>
     have e2':(σ[j]?).join=some v:=by exists e2
     have e5:σ[j]? =some (some v):=by
      cases q:σ[j]? with
      | none=>rw[q]at e2';cases e2'
      | some w=>rw[q]at e2';cases w with
       | none=>cases e2'
       | some w'=>cases e2';rfl
     obtain⟨a1,a2,a3⟩:=S.caps i j x e1' e4;have kx:=S.frees _ a2 rfl;obtain⟨m,hn,hl'⟩:=I.loc;have vis:Vis X.env.scope x:=by
      rcases kx with kx|kx
      .exact .inr (.inl kx)
      .exact .inr (.inr kx)
     obtain⟨u,r,l⟩:=hl' j x v a1 e5 vis;refine⟨u,r,.inr ⟨?_,?_⟩⟩
     .have q:=a70 (env:=X.env) a3;show(relabel scope X.env).names.lookup x=_\/(relabel scope X.env).names.lookup x=_;unfold relabel;right;rw[q];split
      .exact .inl rfl
      .exact .inr rfl
     .rcases l with⟨l,_⟩| ⟨_,c,hc,hcell⟩
      .rcases kx with kx|kx<;>·rw[kx]at l;cases l
      .obtain⟨c',hc'⟩:=hcl2 _ a2 rfl;have:=hcl x c' hc';rw[hc]at this;cases this;obtain⟨o,ho,hd⟩:=hcell;exact⟨c,(c3 x a2).trans hc',o,hk _ _ ho,hd⟩
 .rcases c1 x c h with q| ⟨_,q⟩
  .obtain⟨v,o,ho,hd⟩:=I.cell x c (hcl x c q);exact⟨v,o,hk _ _ ho,hd⟩
  .exact⟨_,q⟩
 .rcases c1 x c h with q| ⟨q,_⟩
  .exact I.freeC x c (hcl x c q)
  .exact I.hok.fresh (qK q)
 .have hp':p∈X.pn++pins:=by
   have:p∈(X.pn++pins)++[]:=hp
   exists this
  obtain⟨a1,a2,a3,a4,a5⟩:=I.pin p hp';refine⟨hk _ _ a1,a2,bE<|aV a1,λz=> ?_,a5⟩
  rcases aY.mp (I.stkSub p.1 z)with z|z
  .exact a3 z
  .exact a4 z
 .unfold wC;rw[dM,aH];exact S.len
theorem cV5 {σ':L2.St}{H':Hp}{h2:Heap}{pins':List (Addr×Obj)}(I:Inv X pins σ H s)(hf: ∀b∈fp,aV4 X pins H b)(hC:s.heap.objs.size<=C)
  (I':Inv (cY X N scope cl C s H fp pins) pins' σ' H' s') (hs:SameBut C s'.heap h2):Inv X pins σ H' {s' with heap:=h2}:=by
 have nC: ∀b o,s.heap.get? b=some o->b≠C:=λb o e z=>by
  subst z;exact absurd (aZ (aV e) hC) (d7 _)
 have get: ∀b,b≠C->h2.get? b=s'.heap.get? b:=λb hb=>hs.2 b hb
 have U:=I'.base;have u:Un (frs X.stack) fp H H' s.heap h2:=by
  refine⟨λb o e n h1 hx=> ?_,λb o e n h1 hx=> ?_,U.free,λb o e hx=> ?_,U.tups,U.frzs,U.tbls⟩
  .rw[get b<|nC b o e];exact U.keep b o e n h1 hx
  .rw[get b<|nC b o e];exact U.slot b o e n h1 hx
  .rw[get b<|nC b o e];exact U.there b o e hx
 have fC:H' C=none:=I'.free;have hok:HOk X.prog X.w H' h2:=λa o e=>by
  have na:a≠C:=λz=>by subst z;rw[fC]at e;cases e
  refine(I'.hok a o e).stay (λb u hb q=> ?_) (λ_ q=>q) λ_ _ q=>q
  have nb:b≠C:=by
   rcases hb with rfl|hb
   .exact na
   .exact λz=>by subst z;rw[fC]at hb;cases hb
  rw[get b nb];exact q
 obtain⟨hh,gg,dd,tt,oo⟩:=s';have eo:oo=s.os:=I'.os;subst eo;have fin:=I.call (h':=h2) (g':=gg) (d':=dd) (t':=tt) (ch:=fp) u hok I'.bare λb hb=>⟨(hf b hb).2.2.2.1,(hf b hb).2.1,(hf b hb).2.2.2.2.1,(hf b hb).2.2.2.2.2⟩
 exact fin
end
def b95 (e:Expr)(d:Nat)(target:Expr)(p0:Pos)(ifs:List Expr)(em:Sem Unit)(it acc:Value)(env:Env):Sem Fin:=do
 standAt p0
 match<-pyNext it with
 | none=>pure (.done .next)
 | some v=>
  letOwnedTupleGo target it v
  assign target env v
  let mut ok:=true
  for c in ifs do
   if ok then ok<-isTrue c env (eval c env)
  if ok then em
  again (.compLoop e d it acc env)
theorem a71 {prog:Program}{w:World}{A:Around}{R:Result->Shared->Prop}{s:Shared}{elt target:Expr}{gens:List Comprehension}{ifs:List Expr}{scope:Scope}{pos p0:Pos}{d:Nat}{it acc:Value}{env:Env}{em:Sem Unit}(I:Nat->Shared->Prop)
  (hturn:compTurn (.ListComp elt gens scope pos) d it acc env=b95 (.ListComp elt gens scope pos) d target p0 ifs em it acc env)
  (turn: ∀n s,I n s->wpAny (model prog w) A (pyNext it) (λr s₁=>match r with
   | none=>R (.ok .next) s₁
   | some v=>wpAny (model prog w) A (letOwnedTupleGo target it v) (λ_ s₂=>wpAny (model prog w) A (assign target env v) (λ_ s₂=>
     wpAny (model prog w) A (forIn ifs true λc r=>if r=true then do let ok<-isTrue c env (eval c env);pure (ForInStep.yield ok)else pure (ForInStep.yield r)) (λok s₃=>
      if ok=true then wpAny (model prog w) A em (λ_ s₅=> ∃m,m<n/\I m s₅) (notedBy (model prog w) A env λe s'=>R (.error e) s') s₃
      else ∃m,m<n/\I m s₃) (notedBy (model prog w) A env λe s'=>R (.error e) s') s₂) (notedBy (model prog w) A env λe s'=>R (.error e) s') s₂) (notedBy (model prog w) A env λe s'=>R (.error e) s') s₁) (notedBy (model prog w) A env λe s'=>R (.error e) s') s)
  (n:Nat) (h:I n s):codeAny (model prog w) A (.compLoop (.ListComp elt gens scope pos) d it acc env) R s:=by
 refine codeAny_loop rfl I (λn s hI=> ?_) n h
 show wpAny _ A ((compTurn (.ListComp elt gens scope pos) d it acc env).onRaise (λx=>do noteFrame x env;theTreesLotGoes x)) _ _ s
 refine wpAny_noted ?_
 rw[hturn];unfold b95;refine a9 (u9<|a9<|bU (turn n s hI) (λr s₁ h₁=> ?_) λ_ _ h'=>h')
 cases r with
 | none=>exact aL h₁
 | some v=>
  refine a9 (bU h₁ (λ_ s₂ h₂=>a9 (bU h₂ (λ_ s₂ h₂=>a9 (bU h₂ (λok s₃ h₃=> ?_) λ_ _ h'=>h')) λ_ _ h'=>h')) λ_ _ h'=>h')
  cases ok with
  | false=>exact aL ⟨rfl,h₃⟩
  | true=>exact a9 (bU h₃ (λ_ s₅ h₅=>aL ⟨rfl,h₅⟩) λ_ _ h'=>h')
def PTs (X:Cx)(ifs:List Expr)(t:TT):Prop:=
 ∀(pins:List (Addr×Obj)) (s:Shared) (σ:L2.St) (H:Hp) (Q:Bool->Hp->Prop),Inv X pins σ H s->t σ H Q->
  X∩(forIn ifs true λc r=>if r=true then do let ok<-isTrue c X.env (eval c X.env);pure (ForInStep.yield ok)else pure (ForInStep.yield r)) (TP X pins σ Q) X.xe s
theorem dK0 {X:Cx}:PTs X [] (λ_ H Q=>Q true H):=λpins s σ H Q I h=>wpAny_tests_nil ⟨H,I,h⟩
theorem dK1 {X:Cx}{t:TT}(h:PT X c t):PTs X [c] t:=λpins s σ H Q I q=>wpAny_tests_one (h pins s σ H Q I q)
def cG7 (cap:List (Option Nat))(last:Nat)(wi:TI)(g:TG)(tt:TT)(tem:Addr->L2.St->Hp->(L2.St->Hp->Prop)->Prop):TE:=λσ H Q=>wi σ H λJ H1=> ∀D,H1 D=none-> ∃W:Nat->Nat->L2.St->Hp->Prop,(∃m,W 0 m (wC σ cap last D)<|upd H1 D<|.lst [])/\ ∀i m σ' H',W i m σ' H'->
 (J.stop i H'/\Q (.ref D) H')\/(J.go i H'/\ ∃Nx:L2.St->Hp->Prop,(∀σ2 H2,Nx σ2 H2-> ∃m',m'<m/\W (i+1) m' σ2 H2)/\ ∀x H2,J.yld i H' x H2->g x σ' H2 λσ3 H3=>tt σ3 H3 λc H4=>
  if c=true then tem D σ3 H4 Nx else Nx σ3 H4)
def tPut (te:TE)(D:Addr)(σ:L2.St)(H:Hp)(Nx:L2.St->Hp->Prop):Prop:=te σ H λy H5=> ∃ys,H5 D=some (.lst ys)/\ys.length<sizeLine/\Nx σ (upd H5 D<|.lst<|ys++[y])
def putOf (elt:Expr)(acc:Value)(env:Env):Sem Unit:=do let _<-call (.builtin "list.append") [acc,<-eval elt env]
def PEm (X:Cx)(em:Value->Env->Sem Unit)(tem:Addr->L2.St->Hp->(L2.St->Hp->Prop)->Prop):Prop:= ∀(D:Addr) (pins:List (Addr×Obj)) (s:Shared) (σ:L2.St) (H:Hp) (Nx:L2.St->Hp->Prop),Inv X pins σ H s->tem D σ H Nx->X∩(em (.ref D) X.env) (λ_ s'=> ∃σ' H',Inv X pins σ' H' s'/\Nx σ' H') X.xe s
theorem dK2 {X:Cx}{te:TE}(he:PE X elt te):PEm X (putOf elt) (tPut te):=by
 intro D pins s σ H Nx I h;refine a9 (bU (he pins s σ H _ I h) (λv s1 h1=> ?_) λ_ _ z=>z)
 obtain⟨y,H1,I1,r1,ys,e1,z1,q1⟩:=h1;refine a9 (bU (bO3 (X:=X) _ s1 σ H1 (.ref D) [y] (.ref D) [v] (λv H=>v= .non/\Nx σ H) I1 rfl (.cons r1 .nil) ⟨_,ys,y,rfl,rfl,e1,z1,rfl,q1⟩) (λ_ s2 h2=> ?_) λ_ _ z=>z)
 obtain⟨_,H2,I2,_,_,q2⟩:=h2;exact aL ⟨σ,H2,I2,q2⟩
theorem cV6 {X:Cx}{RR:Value->Addr->Result->Shared->Prop}{kL:List Comprehension}{wi:TI}{g:TG}{tt:TT}{tem:Addr->L2.St->Hp->(L2.St->Hp->Prop)->Prop}(hem: ∀it acc env,compTurn (.ListComp elt (⟨tg,iter,ifs,0⟩::kL) scope pos) 0 it acc env=b95 (.ListComp elt (⟨tg,iter,ifs,0⟩::kL) scope pos) 0 tg iter.pos ifs (em acc env) it acc env)(hc:X.calm=true)(hi:PI X tg iter wi)(S:jD X.env X.N N cap scope)
  (hN: ∀x,N[last]? =some x->scope.names.lookup x=none)
  (hg: ∀cl C s H fp pins,PG (cY X N scope cl C s H fp pins) tg g) (ht: ∀cl C s H fp pins,PTs (cY X N scope cl C s H fp pins) ifs tt) (he: ∀cl C s H fp pins,PEm (cY X N scope cl C s H fp pins) em tem)
  {pins:List (Addr×Obj)} {s:Shared} {σ:L2.St} {H:Hp} {Q:VK} {cl:List (Str×Addr)} (I:Inv X pins σ H s) (h:cG7 cap last wi g tt tem σ H Q) (hcl: ∀x c,cl.lookup x=some c->X.env.cells.lookup x=some c) (hcl2: ∀y∈scope.names,y.2= .free-> ∃c,cl.lookup y.1=some c)
  (fin: ∀(D:Addr) (fp:List Addr) (H3:Hp) (s3:Shared) (σ':L2.St) (H':Hp) (s':Shared),Inv X pins σ H3 s3->(∀b∈fp,aV4 X pins H3 b)->Inv (cY X N scope (cellsFrom (s3.heap.objs.size+1) scope.names cl) s3.heap.objs.size s3 H3 fp pins) [] σ' H' s'->Q (.ref D) H'->RR (.ref D) s3.heap.objs.size (.ok .next) s') :
  X∩(eval iter X.env) (λx s₁=>X∩(pyIter x) (λit s₂=>X∩(newList []) (λacc s₃=>
   X∩(newFunctionEnv scope X.env.globals cl [] X.env.qual none .none<|some X.env) (λcenv s₄=>
    codeAny (model X.prog X.w) X.A (.compStart (.ListComp elt (⟨tg,iter,ifs,0⟩::kL) scope pos) 0 it acc {cenv with scope:=relabel scope X.env}) (RR acc cenv.locals) s₄) X.xe s₃) X.xe s₂) X.xe s₁) X.xe s:=by
 refine thn (hi pins s σ H _ I h) λxv s1 h1=>thn h1 λit s2 h2=> ?_
 obtain⟨ita,fp,tn,J,H2,rfl,I2,T,st2,f2,q⟩:=h2;refine k7 ?_ (by show 0<=sizeLine;decide)
 have fD:H2 s2.heap.objs.size=none:=I2.hok.fresh (aF _);obtain⟨W,⟨m0,w0⟩,turn⟩:=q s2.heap.objs.size fD;have I3:Inv X pins σ (upd H2 s2.heap.objs.size<|.lst []) {s2 with heap:=s2.heap.push {cls:= .type "list",data:= .seq ([]:List Value).toArray}}:=I2.lnew (t':=s2.toks) .nil (dO _);have fpne: ∀b∈fp,b≠s2.heap.objs.size:=λb hb=>by
  obtain⟨o,ho,_⟩:=T.obj 0 _ st2 b hb;exact bE (aV ho)
 have f3: ∀b∈fp,aV4 X pins (upd H2 s2.heap.objs.size<|.lst []) b:=λb hb=>⟨by rw[cI<|fpne b hb];exact(f2 b hb).1,(f2 b hb).2⟩
 have k23: ∀b o,s2.heap.get? b=some o->(s2.heap.push {cls:= .type "list",data:= .seq ([]:List Value).toArray}).get? b=some o:=λb o e=>aU _ e
 have st3:tn 0 (s2.heap.push {cls:= .type "list",data:= .seq ([]:List Value).toArray}):=T.keep 0 _ _ st2 λb hb o e=>k23 b o e
 have fps: ∀b∈fp,b< (s2.heap.push {cls:= .type "list",data:= .seq ([]:List Value).toArray}).objs.size:=λb hb=>by
  obtain⟨o,ho,_⟩:=T.obj 0 _ st3 b hb;exact aV ho
 generalize hS3:({s2 with heap:=s2.heap.push {cls:= .type "list",data:= .seq ([]:List Value).toArray}}:Shared)=s3 at I3;have hh3:s3.heap=s2.heap.push {cls:= .type "list",data:= .seq ([]:List Value).toArray}:=by rw[<-hS3]
 rw[<-hh3]at st3 fps;refine bV6 ?_;have sz3:(s3.heap.push {cls:= .type "dict",data:= .dict #[]}).objs.size=s3.heap.objs.size+1:=jA ..;have hns₁:(pushCells (s3.heap.push {cls:= .type "dict",data:= .dict #[]}) scope.names).Ns s3.heap.objs.size (λ_=>none):=(Heap.Ns.new s3.heap<|.type "dict").keeps (aL9 _ _)
 have k34: ∀b o,s3.heap.get? b=some o->(pushCells (s3.heap.push {cls:= .type "dict",data:= .dict #[]}) scope.names).get? b=some o:=λb o e=>aL9 _ _ _ _ (aU _ e)
 have I4:=c44 (tk:=s3.toks) (last:=last) (D:=s2.heap.objs.size) (cl:=cellsFrom (s3.heap.objs.size+1) scope.names cl) S I3 f3 fps hcl hcl2 hN hns₁ k34
  (λx c e=>by
   rw[<-sz3]at e;rcases aV9 _ _ _ e with q| ⟨q1,_,q3⟩
   .exact .inl q
   .exact .inr ⟨ae,q3⟩)
  (aW0 _ _ _ (λx c e=>by
   obtain⟨v,q⟩:=I3.cell x c (hcl x c e);exact lF q.lt) λx y c e1 e2=>I3.ok.inj x y c (hcl x c e1) (hcl y c e2))
  (λx m=>cells_keep _ _ _ λm'=>by
   have h1:=S.owns _ m' rfl;have h2:=S.freeK _ m rfl;rw[h1]at h2;cases h2)
  (λx e=>Option.isSome_iff_exists.mp (aJ1 _ _ _<|.inl e))
  (λx c e1 e2=>by
   have:=tL scope.names (s3.heap.objs.size+1) cl (.inl<|pZ e1) e2
   lia)
 have st4:tn 0 (pushCells (s3.heap.push {cls:= .type "dict",data:= .dict #[]}) scope.names):=T.keep 0 _ _ st3 λb hb o e=>k34 b o e
 generalize hcl':cellsFrom (s3.heap.objs.size+1) scope.names cl=cl' at I4;have loop:codeAny (model X.prog X.w) X.A (.compLoop (.ListComp elt (⟨tg,iter,ifs,0⟩::kL) scope pos) 0 (.ref ita) (.ref s2.heap.objs.size)<|compEnvC scope cl' s3.heap.objs.size X.env)
   (RR (.ref s2.heap.objs.size) s3.heap.objs.size) {s3 with heap:=pushCells (s3.heap.push {cls:= .type "dict",data:= .dict #[]}) scope.names,toks:=s3.toks}:=by
  have stat: ∀{H':Hp},(∀b∈fp,H' b=none)-> ∀b∈fp,aV4 (cY X N scope cl' s3.heap.objs.size s3 (upd H2 s2.heap.objs.size<|.lst []) fp pins) [] H' b:=λ{H'} hn b hb=>by
   refine⟨hn b hb,bE<|fps b hb,λz=> ?_,.inl hb,λx c e=>(I4.ok.exf b hb).2 x c e,λp hp=> ?_⟩
   .rcases aY.mp (I3.stkSub b z)with z|z
    .exact(f3 b hb).2.1 z
    .exact(f3 b hb).2.2.1 z
   .have:p∈(X.pn++pins)++[]:=hp;exact(f3 b hb).2.2.2.2.2 p (by exists this)
  have hcb:(cY X N scope cl' s3.heap.objs.size s3 (upd H2 s2.heap.objs.size<|.lst []) fp pins).calm=true:=hc;refine a71 (λn s'=> ∃i σ' H',Inv (cY X N scope cl' s3.heap.objs.size s3 (upd H2 s2.heap.objs.size<|.lst []) fp pins) [] σ' H' s'/\tn i s'.heap/\(∀b∈fp,H' b=none)/\W i n σ' H') (hem _ _ _) ?_ m0 ⟨0,_,_,I4,st4,λb hb=>(f3 b hb).1,w0⟩
  rintro n s5 ⟨i,σ5,H5,I5,st5,fr5,w5⟩;rcases turn i n σ5 H5 w5 with⟨stop,qn⟩| ⟨go,Nx,hNx,step⟩
  .refine bU (T.done (cY X N scope cl' s3.heap.objs.size s3 (upd H2 s2.heap.objs.size<|.lst []) fp pins) rfl rfl rfl hcb i [] s5 σ5 H5 (λ_ _=>False) I5 (stat fr5) st5 stop) (λr s6 hr=> ?_) (λ_ _ z=>z.elim)
   obtain⟨rfl,I6⟩:=hr;exact fin _ fp _ s3 σ5 H5 s6 I3 f3 (hcl'▸I6) qn
  .refine bU (T.item (cY X N scope cl' s3.heap.objs.size s3 (upd H2 s2.heap.objs.size<|.lst []) fp pins) rfl rfl rfl hcb i [] s5 σ5 H5 (λ_ _=>False) I5 (stat fr5) st5 go) (λr s6 hr=> ?_) (λ_ _ z=>z.elim)
   obtain⟨u,rfl,h6⟩:=hr;refine bU h6 (λ_ s7 h7=> ?_) (λ_ _ z=>z.elim)
   obtain⟨x,H7,I7,r7,y7,st7,fr7⟩:=h7;have I7':=I7.pinned (stat fr7) (T.obj _ _ st7);refine bU (hg _ _ _ _ _ _ _ s7 σ5 H7 x u _ I7' r7<|step x H7 y7) (λ_ s8 h8=> ?_) (λ_ _ z=>False.elim z)
   obtain⟨σ8,H8,I8,q8⟩:=h8;have again: ∀{σ9:L2.St} {H9:Hp} {s9:Shared},Inv (cY X N scope cl' s3.heap.objs.size s3 (upd H2 s2.heap.objs.size<|.lst []) fp pins) ([]++b83 fp s7.heap) σ9 H9 s9->Nx σ9 H9-> ∃m,m<n/\ ∃i σ' H',Inv (cY X N scope cl' s3.heap.objs.size s3 (upd H2 s2.heap.objs.size<|.lst []) fp pins) [] σ' H' s9/\tn i s9.heap/\(∀b∈fp,H' b=none)/\W i m σ' H':=λ{σ9 H9 s9} I9 n9=>by
    obtain⟨m',hm,w9⟩:=hNx σ9 H9 n9;refine⟨m',hm,i+1,σ9,H9,I9.unpinned,T.keep _ _ _ st7 λb hb o e=>(I9.pin (b,o)<|i8 _<|i8 _<|a03 hb e).1,λb hb=> ?_,w9⟩
    obtain⟨o,e,d⟩:=T.obj _ _ st7 b hb;exact(I9.pin (b,o)<|i8 _<|i8 _<|a03 hb e).2.1
   refine bU (ht _ _ _ _ _ _ _ s8 σ8 H8 _ I8 q8) (λc s9 h9=> ?_) (λ_ _ z=>False.elim z)
   obtain⟨H9,I9,q9⟩:=h9;cases c with
   | false=>exact again I9 q9
   | true=>
    rw[a8 rfl]at q9⊢;refine bU (he _ _ _ _ _ _ _ _ s9 σ8 H9 _ I9 q9) (λ_ s10 h10=> ?_) (λ_ _ z=>False.elim z)
    obtain⟨σ10,H10,I10,q10⟩:=h10;exact again I10 q10
 exact codeAny_compStart_list loop (T.self _ 0 _ _ _ st4 loop)
theorem bK1 {X:Cx}{σ:L2.St}{H:Hp}(S:jD X.env X.N N cap scope)(I:Inv X pins σ H s) :
  ∃cl,closureFor scope X.env=pure cl/\(∀x c,cl.lookup x=some c->X.env.cells.lookup x=some c)/\ ∀y∈scope.names,y.2= .free-> ∃c,cl.lookup y.1=some c:=by
 obtain⟨cl,h1,h2,_,h4⟩:=a07 (env:=X.env) scope.names (λy hy hf=>I.ok.has y.1 (S.frees y hy hf)) [] (λx c q=>by simp at q)
 refine⟨cl,?_,h2,h4⟩
 have e:closureFor scope X.env=(forIn scope.names [] fun(x:Str×NameKind) r=>(do if(x.2==NameKind.free)=true then do let c<-cellOf X.env x.1;pure (ForInStep.yield ((x.1,c)::r))else pure (ForInStep.yield r)):Sem (List<|Str×Addr)) >>= λr=>pure r:=by
  rfl
 rw[e,h1];rfl
theorem dK3 {X:Cx}{kL:List Comprehension}{wi:TI}{g:TG}{tt:TT}{tem:Addr->L2.St->Hp->(L2.St->Hp->Prop)->Prop}(hem: ∀it acc env,compTurn (.ListComp elt (⟨tg,iter,ifs,0⟩::kL) scope pos) 0 it acc env=b95 (.ListComp elt (⟨tg,iter,ifs,0⟩::kL) scope pos) 0 tg iter.pos ifs (em acc env) it acc env)(hc:X.calm=true)(hi:PI X tg iter wi)(S:jD X.env X.N N cap scope)
  (hN: ∀x,N[last]? =some x->scope.names.lookup x=none)
  (hg: ∀cl C s H fp pins,PG (cY X N scope cl C s H fp pins) tg g) (ht: ∀cl C s H fp pins,PTs (cY X N scope cl C s H fp pins) ifs tt) (he: ∀cl C s H fp pins,PEm (cY X N scope cl C s H fp pins) em tem)
  (hs: ∀x,foldedSetIterable iter X.env x=pure x:=by intro _;rfl):PE X (.ListComp elt (⟨tg,iter,ifs,0⟩::kL) scope pos) (cG7 cap last wi g tt tem):=by
 intro pins s σ H Q I h;rw[eval_ListComp];obtain⟨cl,hcl0,hcl,hcl2⟩:=bK1 S I;refine wpAny_comprehension_free (use:=none) rfl hs hcl0 S.kind S.names ?_;refine cV6 (RR:=λacc C=>compPost (model X.prog X.w) X.A X.xe none (EP X pins σ Q) acc C) hem hc hi S hN hg ht he I h hcl hcl2 λD fp H3 s3 σ' H' s' I3 f3 I' q=> ?_
 obtain⟨m6,hn6,_⟩:=I'.loc;exact⟨m6,hn6,λh' hs'=>⟨.ref D,H',cV5 I3 f3 (aF _) I' hs',rfl,q⟩⟩
end L2
namespace M
nonrec def dK4:B->B
 | .pu d=> .pu d
 | .ow l=> .bo l
 | .bo l=> .bo l
nonrec def pQ (ρ:Ev)(cap:List (Option Nat))(last:Nat):Ev:=(cap.map λc=>c.bind λj=>((ρ[j]?).join).map dK4).set last (some<|.ow [])
nonrec def dK5 (ρ:Ev)(j:Nat):Ev:=match ρ[j]? with
 | some (some<|.ow l)=>ρ.set j (some<|.pu<|.lst l)
 | _=>ρ
nonrec def yC:Ev->List Nat->Ev
 | ρ,[]=>ρ
 | ρ,j::js=>yC (dK5 ρ j) js
theorem d47 (ρ:Ev)(j:Nat):Frz ρ (dK5 ρ j):=by
 unfold dK5;split
 .rename_i l e
  exact .set e
 .exact .refl _
theorem c45: ∀(js:List Nat) (ρ:Ev),Frz ρ (yC ρ js)
 | [],ρ=> .refl _
 | j::js,ρ=>(d47 ρ j).trans (c45 js _)
def eJ (js:List Nat)(cap:List (Option Nat))(last:Nat)(ui:UI)(g:UG)(tt:UT)(te:UE):UE:=λρ Q=>ui ρ λn it ρ1=> ∃Pv:Nat->Ev->Prop,Pv 0 (pQ (yC ρ1 js) cap last)/\
 (∀i ρ',i<n->Pv i ρ'->g (.pu<|it i) ρ' λρ2=>tt ρ2 λc ρ3=>if c=true then te ρ3 λb ρ4=>mU ρ4 last λl=>l.length<sizeLine/\Pv (i+1) (ρ4.set last<|some<|.ow<|l++[b.d])else Pv (i+1) ρ3)/\
 ∀ρ',Pv n ρ'->mU ρ' last λl=>Q (.ow l) (yC ρ1 js)
def d48 (js:List Nat)(cap:List (Option Nat))(last:Nat)(ui:UI)(g:UG)(tt:UT)(uem:(Ev->Prop)->Ev->Prop):UE:=λρ Q=>ui ρ λn it ρ1=> ∃Pv:Nat->Ev->Prop,Pv 0 (pQ (yC ρ1 js) cap last)/\
 (∀i ρ',i<n->Pv i ρ'->g (.pu<|it i) ρ' λρ2=>tt ρ2 λc ρ3=>if c=true then uem (Pv<|i+1) ρ3 else Pv (i+1) ρ3)/\
 ∀ρ',Pv n ρ'->mU ρ' last λl=>Q (.ow l) (yC ρ1 js)
def uPut (last:Nat)(te:UE)(Nx:Ev->Prop)(ρ:Ev):Prop:=te ρ λb ρ4=>mU ρ4 last λl=>l.length<sizeLine/\Nx (ρ4.set last<|some<|.ow<|l++[b.d])
def EmOk (K:Frag)(last:Nat)(uem:(Ev->Prop)->Ev->Prop)(tem:Addr->L2.St->Hp->(L2.St->Hp->Prop)->Prop):Prop:= ∀(C:C0) (ρ:Ev) (σ:L2.St) (H:Hp) (Dn:Addr) (Nx:Ev->Prop) (NX:L2.St->Hp->Prop),EOk K C ρ σ H->σ[last]? =some (some<|.ref Dn)->uem Nx ρ->(∀ρ2 σ2 H2,EOk K C ρ2 σ2 H2->σ2[last]? =some (some<|.ref Dn)->Nx ρ2->NX σ2 H2)->tem Dn σ H NX
section
variable {X:Cx}{K:Frag}{C:C0}{ρ ρ':Ev}{σ σ':L2.St}{H H':Hp}
theorem cap_ok {Dn:Addr}(I:EOk K C ρ σ H)(hl:last<cap.length)(n:H Dn=none) :
  EOk K ⟨H,Av C ρ σ⟩ (pQ ρ cap last) (wC σ cap last Dn) (upd H Dn<|.lst []):=by
 have pu: ∀(i:Nat) (z:B),last≠i->(pQ ρ cap last)[i]? =some (some z)-> ∃(j:Nat) (z':B),cap[i]? =some (some j)/\z=dK4 z'/\ρ[j]? =some (some z'):=λi z ne h=>by
  unfold pQ at h;rw[get_set_ne ne,bG]at h;cases e4:cap[i]? with
  | none=>rw[e4]at h;cases h
  | some c=>
   rw[e4]at h;cases c with
   | none=>cases h
   | some j=>
    have h':((ρ[j]?).join).map dK4=some z:=by exists h
    cases q:ρ[j]? with
    | none=>rw[q]at h';cases h'
    | some w=>
     rw[q]at h';cases w with
     | none=>cases h'
     | some w'=>cases h';exact⟨j,w',rfl,rfl,q⟩
 have sgm: ∀(i j:Nat) (v:V),last≠i->cap[i]? =some (some j)->σ[j]? =some (some v)->(wC σ cap last Dn)[i]? =some (some v):=λi j v e e1 h1=>by
  unfold wC;rw[get_set_ne e,bG,e1];show some ((σ[j]?).join)=_;rw[h1];rfl
 have atl:(pQ ρ cap last)[last]? =some (some<|.ow []):=by
  unfold pQ;exact jC (by rw[aH];exact hl)
 have sal:(wC σ cap last Dn)[last]? =some (some<|.ref Dn):=by
  unfold wC;exact jC (by rw[aH];exact hl)
 have noOw: ∀(i:Nat) (l:List D),last≠i->(pQ ρ cap last)[i]? ≠some (some<|.ow l):=λi l e h=>by
  obtain⟨j,z',_,z,_⟩:=pu i _ e h;cases z'<;>cases z
 have own: ∀a,Own (pQ ρ cap last) (wC σ cap last Dn) a->a=Dn:=λa ⟨i,l,h1,h2⟩=>by
  by_cases e:last=i
  .subst e;rw[sal]at h2;cases h2;rfl
  .exact absurd h1 (noOw i l e)
 have P:nE (Av C ρ σ) H (Av ⟨H,Av C ρ σ⟩ (pQ ρ cap last)<|wC σ cap last Dn) (upd H Dn<|.lst []):=λb o nb e=>by
  have ne:b≠Dn:=λz=>by subst z;rw[n]at e;cases e
  refine⟨?_,by rw[cI ne];exact e⟩
  rintro(z|z)
  .exact nb z
  .exact ne (own b z)
 refine⟨by unfold pQ wC;rw[dM,dM,aH,aH],λi d h=> ?_,λi l h=> ?_,λi j l l' a h1 h2 h3 h4=> ?_,λi l h=> ?_,eS n _,λa z=>I.avSome z⟩
 .by_cases e:last=i
  .subst e;rw[atl]at h;cases h
  .obtain⟨j,z',e1,z,e2⟩:=pu i _ e h;cases z' with
   | pu d'=>
    cases z;obtain⟨v,h1,h2⟩:=I.pu j d e2;exact⟨v,sgm i j v e e1 h1,h2.mono P⟩
   | ow l=>cases z
   | bo l=>cases z
 .by_cases e:last=i
  .subst e;rw[atl]at h;cases h;exact⟨Dn,[],sal,iU,n,.nil⟩
  .exact absurd h (noOw i l e)
 .have e1:last=i:=yW λe=>absurd h1 (noOw i l e)
  have e2:last=j:=yW λe=>absurd h2 (noOw j l' e)
  exact e1.symm.trans e2
 .by_cases e:last=i
  .subst e;rw[atl]at h;cases h
  .obtain⟨j,z',e1,z,e2⟩:=pu i _ e h;cases z' with
   | pu d'=>cases z
   | ow l'=>
    cases z;obtain⟨a,vs,h1,h2,h3,h4⟩:=I.ow j l e2;exact⟨a,vs,sgm i j _ e e1 h1,.inr ⟨j,l,e2,h1⟩,h2,h4.mono P⟩
   | bo l'=>
    cases z;obtain⟨a,vs,h1,h2,h3,h4⟩:=I.bo j l e2;exact⟨a,vs,sgm i j _ e e1 h1,.inl h2,I.ext _ _ h3,h4.mono P⟩
theorem em_put {te:UE}:EmOk K last (uPut last te) (tPut<|lE K te):=λC ρ σ H Dn Nx NX J l3 q nx=>⟨C,ρ,_,J,q,λb ρ5 v H5 q5 f5 s5 r5=>by
 have J5:=(J.frz f5).same s5;obtain⟨l,hl5,hz,q5⟩:=mG q5;obtain⟨a,vs,g1,g2,g3,g4⟩:=J5.ow last l hl5;rw[l3]at g1;cases g1;exact⟨vs,g2,by rw[<-g4.length];exact hz,nx _ _ _ (J5.write hl5 l3<|g4.append<|.cons (r5.rep λa z=>J.avF f5 z) .nil) l3 q5⟩⟩
theorem lComp {ui:UI}{g:UG}{T:List Nat}{tt:UT}{uem:(Ev->Prop)->Ev->Prop}{tem:Addr->L2.St->Hp->(L2.St->Hp->Prop)->Prop}(em:EmOk K last uem tem)(hl:last<cap.length)(hT:last ∉ T)(σ:L2.St)(H:Hp)(Q:VK)(h:lE K (d48 js cap last ui g tt uem) σ H Q) :
  cG7 cap last (lI K ui) (lG K T g) (lT K tt) tem σ H Q:=by
 obtain⟨C,ρ,Q0,I,h,k⟩:=h;refine⟨C,ρ,_,I,h,λn it ρ1 J H1 q f s ok Dn nD=> ?_⟩
 obtain⟨Pv,p0,turn,fin⟩:=q;have fz:=c45 js ρ1;have I1:EOk K C (yC ρ1 js) σ H1:=((I.frz f).same s).frz fz;generalize yC ρ1 js=ρ2 at fz I1 p0 fin;have P12: ∀{A':AS} {H':Hp},nE (Av C ρ2 σ) H1 A' H'->nE (Av C ρ1 σ) H1 A' H':=λp b o nb e=>p b o (λz=>nb (fz.av z)) e
 have I2:=cap_ok I1 hl nD;have own0: ∀{ρ':Ev} {σ':L2.St} {H':Hp},EOk K ⟨H1,Av C ρ2 σ⟩ ρ' σ' H'->nE (Av C ρ2 σ) H1 (Av ⟨H1,Av C ρ2 σ⟩ ρ' σ') H':=λ{ρ' σ' H'} J' b o nb e=>by
  refine⟨?_,J'.ext b o e⟩
  rintro(z| ⟨i,l,h1,h2⟩)
  .exact nb z
  .obtain⟨a,vs,h3,h4,h5,_⟩:=J'.ow i l h1;rw[h2]at h3;cases h3;have e':(⟨H1,Av C ρ2 σ⟩:C0).H0 b=some o:=e;rw[h5]at e';cases e'
 have sal:(wC σ cap last Dn)[last]? =some (some<|.ref Dn):=by
  unfold wC;exact jC (by rw[aH];exact hl)
 refine⟨λi m σ' H'=>m=n-i/\i<=n/\σ'[last]? =some (some<|.ref Dn)/\ ∃ρ',EOk K ⟨H1,Av C ρ2 σ⟩ ρ' σ' H'/\Pv i ρ',⟨n,rfl,dO _,sal,_,I2,p0⟩,?_⟩
 rintro i m σ' H' ⟨rfl,hi,hlast,ρ',J',p'⟩;have P:=P12 (own0 J')
 by_cases hlt:i<n
 .refine .inr ⟨ok.go _ _ i P hlt,λσ2 H2=>σ2[last]? =some (some<|.ref Dn)/\ ∃ρ3,EOk K ⟨H1,Av C ρ2 σ⟩ ρ3 σ2 H2/\Pv (i+1) ρ3,λσ2 H2 z=>⟨n-(i+1),aa,rfl,hlt,z⟩,λx H2 y=> ?_⟩
  obtain⟨s2,r2⟩:=ok.yld _ _ i x H2 P (λa z=>J'.avSome z) hlt y
  refine⟨_,ρ',.pu<|it i,H',_,J',s2,r2,turn i ρ' hlt p',λρ3 σ3 H3 q3 J3 same3=> ?_⟩
  have l3:σ3[last]? =some (some<|.ref Dn):=(same3 last hT).trans hlast;refine⟨_,ρ3,_,J3,q3,λc ρ4 H4 q4 f4 s4=> ?_⟩
  have J4:=(J3.frz f4).same s4;cases c with
  | false=>
   dsimp only at q4⊢;rw[a6 bF]at q4⊢;exact⟨l3,ρ4,J4,q4⟩
  | true=>
   dsimp only at q4⊢;rw[a8 rfl]at q4⊢;exact em _ ρ4 _ _ Dn _ _ J4 l3 q4 λρ5 σ5 H5 J5 l5 q5=>⟨l5,ρ5,J5,q5⟩
 .have e:i=n:=aa
  subst e;obtain⟨l,hl5,q5⟩:=mG (fin ρ' p');obtain⟨a,vs,g1,g2,g3,g4⟩:=J'.ow last l hl5;rw[hlast]at g1;cases g1;refine .inl ⟨ok.stop _ _ P,k _ _ _ _ q5 (f.trans fz) (s.trans J'.ext) ⟨Dn,vs,rfl,s.free nD,g2,?_⟩⟩;refine g4.mono λb o nb e=>⟨?_,e⟩
  rintro(z|z)
  .exact nb (.inl z)
  .subst z;exact nb (.inr ⟨last,l,hl5,hlast⟩)
theorem dX: ∀{X:Cx},PTs X [] (lT X.K λρ Q=>Q true ρ):=λ{X} pins s σ H Q I ⟨C,ρ,Q0,J,h,k⟩=>dK0 pins s σ H Q I (k _ ρ H h (.refl _)<|.refl _)
theorem cO3 {t:UT}(h:PUT X c t):PTs X [c] (lT X.K t):=dK1 h
theorem d49 {kL:List Comprehension}{ui:UI}{g:UG}{T:List Nat}{tt:UT}{uem:(Ev->Prop)->Ev->Prop}{tem:Addr->L2.St->Hp->(L2.St->Hp->Prop)->Prop}(ek:EmOk X.K last uem tem)(hem: ∀it acc env,compTurn (.ListComp elt (⟨tg,iter,ifs,0⟩::kL) scope pos) 0 it acc env=b95 (.ListComp elt (⟨tg,iter,ifs,0⟩::kL) scope pos) 0 tg iter.pos ifs (em acc env) it acc env)(hc:X.calm=true)(hi:PUI X tg iter ui)(S:jD X.env X.N N cap scope)
  (hN: ∀x,N[last]? =some x->scope.names.lookup x=none) (hl:last<cap.length) (hT:last ∉ T)
  (hg: ∀cl C s H fp pins,PUG (cY X N scope cl C s H fp pins) tg T g) (ht: ∀cl C s H fp pins,PTs (cY X N scope cl C s H fp pins) ifs<|lT X.K tt) (he: ∀cl C s H fp pins,PEm (cY X N scope cl C s H fp pins) em tem)
  (hs: ∀x,foldedSetIterable iter X.env x=pure x:=by intro _;rfl):PU X (.ListComp elt (⟨tg,iter,ifs,0⟩::kL) scope pos) (d48 js cap last ui g tt uem):=
 iJ (dK3 (g:=lG X.K T g) (tt:=lT X.K tt) hem hc hi S hN hg ht he hs) (lComp ek hl hT)
theorem dK6 {ui:UI}{g:UG}{T:List Nat}{tt:UT}{te:UE}(hc:X.calm=true)(hi:PUI X tg iter ui)(S:jD X.env X.N N cap scope)
  (hN: ∀x,N[last]? =some x->scope.names.lookup x=none) (hl:last<cap.length) (hT:last ∉ T)
  (hg: ∀cl C s H fp pins,PUG (cY X N scope cl C s H fp pins) tg T g) (ht: ∀cl C s H fp pins,PTs (cY X N scope cl C s H fp pins) ifs<|lT X.K tt) (he: ∀cl C s H fp pins,PU (cY X N scope cl C s H fp pins) elt te)
  (hs: ∀x,foldedSetIterable iter X.env x=pure x:=by intro _;rfl):PU X (.ListComp elt [⟨tg,iter,ifs,0⟩] scope pos) (eJ js cap last ui g tt te):=
 d49 (js:=js) (em_put (te:=te)) (λ_ _ _=>rfl) hc hi S hN hl hT hg ht (λcl C s H fp pins=>dK2 (he cl C s H fp pins)) hs
end
end M
end
section
namespace L2
section
variable {X:Cx}
theorem cO4 {bs:List Bool}: ∀{its:List Value},Vals (bs.map V.bl) its->LSm.BoolsAre its bs:=by
 induction bs with
 | nil=>intro its r;cases r;exact .nil
 | cons b bs ih=>
  intro its r;cases r with
  | cons r1 r2=>
   cases r1;exact .cons b (ih r2)
theorem cG8 (hc:X.calm=true):oV X (.builtin "all") (λxs H Q=> ∃(p:Addr) (bs:List Bool),xs=[.ref p]/\SqL X.K H p (bs.map V.bl)/\Q (.bl<|bs.all id) H):=by
 intro pins s σ H xs us Q I r h;obtain⟨p,bs,rfl,hq,q⟩:=h;obtain⟨u,rfl,rx⟩:=vals1 r;cases rx;obtain⟨its,rv,pl,hz⟩:=I.list hq;have ba:=cO4 rv;refine call_all_walk (zJ pl.isList ?_);have hne:p≠s.heap.objs.size:=by
  obtain⟨o,n,e,_⟩:=pl;exact bE (aV e)
 refine⟨s.heap.objs.size,_,_,_,_,_,λi=>(bs[i]?).getD true,rfl,Walks.list (A:=X.A.in1) (I.ok.hd hc) s.heap.objs.size p (λz=>hne z) its.toArray,⟨⟨_,cA _ rfl,rfl,rfl⟩,pl.isList.push _⟩,?_,λh' tk hk=> ?_⟩
 .intro i v s' Q' E' hP hQ;obtain⟨b,hb,rfl⟩:=ba.get i v (by exists hP)
  refine nS ?_
  have e:(λi=>(bs[i]?).getD true) i=b:=by simp[hb]
  dsimp only at hQ;rw[hb]at hQ;exact hQ
 .have e:=LSm.range_all bs;have hl:=ba.length;have e2:its.toArray.size=bs.length:=by rw[bB,hl]
  rw[e2,e];exact⟨.bl<|bs.all id,H,I.kept λb o e=>hk b o (by simpa using bE (aV e)) (aU _ e),rfl,q⟩
theorem cG9 (hc:X.calm=true):oV X (.builtin "sum") (λxs H Q=> ∃(p:Addr) (ns:List Int),xs=[.ref p]/\SqL X.K H p (ns.map V.int)/\Q (.int ns.sum) H):=by
 intro pins s σ H xs us Q I r h;obtain⟨p,ns,rfl,hq,q⟩:=h;obtain⟨u,rfl,rx⟩:=vals1 r;cases rx;obtain⟨its,rv,pl,hz⟩:=I.list hq;have hi:IntsAre its ns:=by simpa using intsAre_of rv
 obtain⟨xs,hx⟩:=hi.allInts.items;have hl':s.heap.IsList p (intItems xs):=hx▸pl.isList;refine sum_intListG (I.ok.hd hc) hl' λh' tk t' hk=> ?_
 have e1:ns=xs.toList.map (·.1):=by
  rw[<-nums_intItems,<-hx];exact(show numsOf its.toArray.toList=ns from hi.numsOf).symm
 have e2:preSum (numAt xs) xs.size=ns.sum:=by
  rw[preSum_eq,List.take_of_length_le af,e1]
 rw[e2];exact⟨.int ns.sum,H,I.kept hk,⟨_,rfl⟩,q⟩
nonrec def aD9 (esc:List (Str×NameKind))(XN N:List Str)(cap:List (Option Nat))(scope:Scope)(last:Nat):Bool:=
 (scope.kind== .function)&&scope.names.all (λy=>y.2 != .cell||scope.names.lookup y.1==some .cell)&&scope.names.all (λy=>y.2 != .free||scope.names.lookup y.1==some .free)&&scope.names.all (λy=>y.2 != .local||scope.names.lookup y.1==some .local)&&
 scope.names.all (λy=>y.2 != .free||esc.lookup y.1==some .cell||esc.lookup y.1==some .free)&&
 (N.zip cap).all (λz=>match z.2 with|none=>true|some j=>XN[j]? ==some z.1&&scope.names.contains (z.1,.free)&&scope.names.lookup z.1==some .free)&&
 (cap.length==N.length)&&(match N[last]? with|some x=>(scope.names.lookup x).isNone|none=>true)
theorem jD.of {env:Env}{esc:List (Str×NameKind)}{XN:List Str}(he:env.scope.names=esc)(h:aD9 esc XN N cap scope last=true) :
  jD env XN N cap scope/\ ∀x,N[last]? =some x->scope.names.lookup x=none:=by
 unfold aD9 at h;simp only[dZ,dJ,eH]at h;obtain⟨⟨⟨⟨⟨⟨⟨h1,h2⟩,h2'⟩,h3⟩,h4⟩,h5⟩,h6⟩,h7⟩:=h;have hk: ∀x,env.kindOf x=esc.lookup x:=λx=>by unfold Env.kindOf;rw[he]
 refine⟨⟨h1,λy hy hl=>by have:=h2 y hy;rw[hl]at this;simpa using this,λy hy hl=>by have:=h2' y hy;rw[hl]at this;simpa using this,λy hy hl=> ?_,λy hy hf=> ?_,λi j x e1 e2=> ?_,h6⟩,λx e=> ?_⟩
 .have:=h3 y hy;rw[hl]at this
  exists this
 .have:=h4 y hy;rw[hf]at this;rw[hk]
  exists this
 .have hm:(x,some j)∈N.zip cap:=by
   refine aJ8 (i:=i) ?_
   rw[List.getElem?_zip_eq_some];exact⟨e1,e2⟩
  have:=h5 _ hm;simp only[dZ,eH]at this;obtain⟨⟨a,b⟩,c⟩:=this;exact⟨a,by simpa using b,c⟩
 .rw[e]at h7
  exists h7
end
end L2
namespace M
section
variable {X:Cx}{K:Frag}{A:AS}{H:Hp}
nonrec def wU:List D->Option (List Bool)
 | []=>some []
 | .bl b::r=>(wU r).map (b::·)
 | _=>none
nonrec def aF6:List D->Option (List Int)
 | []=>some []
 | .int b::r=>(aF6 r).map (b::·)
 | _=>none
theorem qQ (bs:List Bool):wU (bs.map .bl)=some bs:=by
 induction bs with
 | nil=>rfl
 | cons b bs ih=>rw[cN];show(wU<|bs.map .bl).map _=_;rw[ih];rfl
theorem qR (bs:List Int):aF6 (bs.map .int)=some bs:=by
 induction bs with
 | nil=>rfl
 | cons b bs ih=>rw[cN];show(aF6<|bs.map .int).map _=_;rw[ih];rfl
theorem aM6: ∀{l:List D} {bs:List Bool} {vs:List V},wU l=some bs->bY K A H l vs->vs=bs.map V.bl
 | [],bs,vs,h,r=>by cases h;exact r.unnil
 | d::r,bs,vs,h,q=>by
  obtain⟨v,vr,rfl,rv,rr⟩:=q.uncons;cases d with
  | bl b=>
   have h':(wU r).map (b::·)=some bs:=h;cases e:wU r with
   | none=>rw[e]at h';cases h'
   | some bs'=>
    rw[e]at h';cases h';rw[wA rv,aM6 e rr];rfl
  | _=>cases h
theorem aW1: ∀{l:List D} {bs:List Int} {vs:List V},aF6 l=some bs->bY K A H l vs->vs=bs.map V.int
 | [],bs,vs,h,r=>by cases h;exact r.unnil
 | d::r,bs,vs,h,q=>by
  obtain⟨v,vr,rfl,rv,rr⟩:=q.uncons;cases d with
  | int b=>
   have h':(aF6 r).map (b::·)=some bs:=h;cases e:aF6 r with
   | none=>rw[e]at h';cases h'
   | some bs'=>
    rw[e]at h';cases h';rw[bL rv,aW1 e rr];rfl
  | _=>cases h
nonrec def cH0:List D->(B->Prop)->Prop:=g1 λd Q=>match d with
 | .lst l=>(match wU l with
  | some bs=>Q (.pu<|.bl<|bs.all id)
  | none=>False)
 | _=>False
theorem b96 (hc:X.calm=true):uN X (.builtin "all") cH0:=by
 intro A H ds vs Q0 Q hA r g k;obtain⟨d,v,rfl,rfl,rv,g⟩:=a06 g r;cases d with
 | lst l=>
  dsimp only at g;cases e:wU l with
  | none=>rw[e]at g;exact g.elim
  | some bs=>
   rw[e]at g;simp only[Rep]at rv;obtain⟨a,vs,rfl,n,c,rs⟩:=rv;rw[aM6 e rs]at c;exact⟨_,cG8 hc,a,bs,rfl,SqL.of c,k _ _ H g (.refl _) mW⟩
 | _=>exact(show False from g).elim
nonrec def c46:List D->(B->Prop)->Prop:=g1 λd Q=>match d with
 | .lst l=>(match aF6 l with
  | some ns=>Q (.pu<|.int ns.sum)
  | none=>False)
 | _=>False
theorem aW2 (hc:X.calm=true):uN X (.builtin "sum") c46:=by
 intro A H ds vs Q0 Q hA r g k;obtain⟨d,v,rfl,rfl,rv,g⟩:=a06 g r;cases d with
 | lst l=>
  dsimp only at g;cases e:aF6 l with
  | none=>rw[e]at g;exact g.elim
  | some bs=>
   rw[e]at g;simp only[Rep]at rv;obtain⟨a,vs,rfl,n,c,rs⟩:=rv;rw[aW1 e rs]at c;exact⟨_,cG9 hc,a,bs,rfl,SqL.of c,k _ _ H g (.refl _) a68⟩
 | _=>exact(show False from g).elim
theorem cO5 {i:Int}{t:Tok}(hg:Gl X x)(hm:X.mg x=some (.int i t))(hd:⇑(x∪0)):PU X (.Name x p) (uC<|.int i):=
 bU8 (cM9 (v:= .int i) hg hm ⟨t,rfl⟩ hd) λA H=>by simp only[Rep]
theorem b97:bootBuiltins "all"=some (.builtin "all"):=ag
theorem aW3:bootBuiltins "sum"=some (.builtin "sum"):=ag
theorem aQ5 {esc:List (Str×NameKind)}{ui:UI}{g:UG}{T:List Nat}{tt:UT}{te:UE}{XN:List Str}(he0:X.env.scope.names=esc)(hx0:X.N=XN)(lk:aD9 esc XN N cap scope last=true)(hl:last<cap.length)(hT:last ∉ T)(hc:X.calm=true)(hi:PUI X tg iter ui)
  (hg: ∀cl C s H fp pins,PUG (cY X N scope cl C s H fp pins) tg T g) (ht: ∀cl C s H fp pins,PTs (cY X N scope cl C s H fp pins) ifs<|lT X.K tt) (he: ∀cl C s H fp pins,PU (cY X N scope cl C s H fp pins) elt te)
  (hs: ∀x,foldedSetIterable iter X.env x=pure x:=by intro _;rfl):PU X (.ListComp elt [⟨tg,iter,ifs,0⟩] scope pos) (eJ js cap last ui g tt te):=
 dK6 hc hi (jD.of he0<|hx0▸lk).1 (jD.of he0<|hx0▸lk).2 hl hT hg ht he hs
def aQ6 (te:UE):US:=λD ρ=>te ρ λ_ ρ1=>D.nx ρ1
theorem bV7 {te:UE}(he:PU X e te)(hs:↥(swapsWith e none pos.line X.env=pure false)):PUS X (.Expr e pos) (aQ6 te):=
 sU (bT7 he hs) λD σ H ⟨C,ρ,D0,I,h,k⟩=>⟨C,ρ,_,I,h,λb ρ1 v H1 q f s r=>k.nx _ _ _ q ((I.frz f).same s)⟩
theorem oX: ∀ds ρ Q,uO ds ρ Q->ds.length=0:=λds ρ Q h=>by rw[h.1];rfl
theorem eM {u:UGs}(h: ∀ds ρ Q,u ds ρ Q->ds.length=n): ∀ds ρ Q,fY i u ds ρ Q->ds.length=n+1:=λds ρ Q q=>by
 cases ds with
 | nil=>exact(show False from q).elim
 | cons d r=>rw[dI,h r _ Q q.2]
end
theorem Fn.void {ps:List Str}(F:Fun K x qual st f fd)(m:mg x=some (.ref f))(b:Binds K fd ps [])(h: ∀ds Q,¬φ ds Q):Fn<$>x ps 1 φ:=
 ⟨f,fd,⟨λvs H Q E ⟨_,ds,Q0,_,_,z,_⟩=>absurd z (h ds Q0),λA outer s H args us vs Q E _ _ _ _ ⟨_,ds,Q0,_,_,z,_⟩=>absurd z (h ds Q0)⟩,b,F.kp,m⟩
end M
end
section
namespace HT
open PySem PyProof.Rows
end HT
namespace L2
end L2
namespace M
section
variable {X:Cx}{K:Frag}{A:AS}{H:Hp}{e e3:Expr}{t3:UE}{pos p2:Pos}
def gIn (neg:Bool)(d e:D)(Q:B->Prop):Prop:= ∃(i:Int) (js:List Int),d= .int i/\(e= .tup (js.map D.int)\/e= .lst (js.map D.int)\/e= .rol (js.map D.int))/\Q (.pu<|.bl<|neg ^^ decide (i∈js))
theorem bY.unints: ∀{js:List Int} {vs:List V},bY K A H (js.map D.int) vs->vs=js.map V.int
 | [],_,h=>by simp only[kF,bY]at h;exact h
 | j::js,vs,h=>by
  simp only[cN,bY]at h;obtain⟨v,vr,rfl,r,rs⟩:=h;rw[bL r,bY.unints rs];rfl
theorem d50 (i:Int)(js:List Int):inV (.int i) (js.map V.int)=decide (i∈js):=by
 unfold inV
 induction js with
 | nil=>rfl
 | cons j js ih=>
  rw[cN,any_cons,ih];show((j==i)||decide (i∈js))=decide (i∈j::js)
  by_cases h:j=i
  .subst h;simp
  .have h': ¬i=j:=λz=>h z.symm
   simp[h,h']
theorem aW4 (js:List Int):(js.map V.int).all aP8=true:=by
 induction js with
 | nil=>rfl
 | cons j js ih=>rw[cN,all_cons,ih];rfl
theorem ou_inG {neg:Bool}{op:Value->Value->Sem Value}(ho:OpR X op (rIn X.K neg)):OpU X op (gIn neg):=by
 intro A H d e v w Q0 Q hA r1 r2 g k;obtain⟨i,js,rfl,he,g⟩:=g;have e1:=bL r1;subst e1;have fin:Q (.bl<|if neg=true then !inV (.int i) (js.map V.int)else inV (.int i) (js.map V.int)) H:=by
  rw[d50];refine k _ _ H g (.refl _) ?_;cases neg
  .rw[a6 ac,lK];exact mW
  .rw[a8 rfl,qJ];exact mW
 rcases he with rfl|rfl|rfl
 .simp only[Rep]at r2;obtain⟨a,vs,rfl,c,rs⟩:=r2;have:=rs.unints;subst this;exact⟨_,ho,a,_,rfl,.inr<|c.imp cO id,rfl,aW4 js,fin⟩
 .simp only[Rep]at r2;obtain⟨a,vs,rfl,n,c,rs⟩:=r2;have:=rs.unints;subst this;exact⟨_,ho,a,_,rfl,.inl<|SqL.of c,rfl,aW4 js,fin⟩
 .simp only[Rep]at r2;obtain⟨a,vs,rfl,c,rs⟩:=r2;have:=rs.unints;subst this;exact⟨_,ho,a,_,rfl,.inl<|c.imp cO id,rfl,aW4 js,fin⟩
theorem b98:OpU X (compareOp .NotIn) (gIn true):=ou_inG bU4
end
end M
end
section
namespace L2
nonrec def Itd (lo:Int)(n:Nat):It:={go:=λi _=>i<n,yld:=λi H x H'=>H'=H/\x=V.int (lo-(i:Int)),stop:=λi _=>n<=i}
theorem bO9 (it:Addr)(lo:Int)(n:Nat):c29 P w K tg (Itd lo n) [it] it (λi h=>IsRangeIter h it (lo+(i:Nat)*(-1)) ((n:Int)-(i:Nat)) (-1)) where
 mem:=af
 obj:=λi h st b hb=>by
  have e:b=it:=by exists hb
  subst e;exact⟨_,st,λv z=>by
   have z':Data.fields _=Data.cell v:=z;cases z'⟩
 keep:=λi h h' st k=>k it af _ st
 item:=by
  intro X hP hw hK hc i pins s σ H E I hf st hg;subst hP hw hK;obtain⟨f0,f1,f2,f3,f4,f5⟩:=hf it af
  have W:=Walks.range (prog:=X.prog) (w:=X.w) (I.ok.hd hc) it lo (-1) n;refine W.item i s _ _ hg st λv h' tk hv st' kk=> ?_
  obtain⟨t,rfl⟩:=hv;have I1:Inv X pins σ H {s with heap:=h',toks:=tk}:=I.turned (λb o hb e=>kk b o (by exists hb) e) f0 f1 f3 f4 f5
  refine⟨_,rfl,c30 (s:={s with heap:=h',toks:=tk}) (n:="range_iterator") st' rfl rfl ac ⟨.int<|lo-i,H,I1,⟨t,?_⟩,⟨rfl,rfl⟩,st',λb hb=>(hf b hb).1⟩⟩
  rw[show lo+((i:Nat):Int)*(-1)=lo-(i:Int)by lia]
 done:=by
  intro X hP hw hK hc i pins s σ H E I hf st hg;subst hP hw hK;obtain⟨f0,f1,f2,f3,f4,f5⟩:=hf it af
  exact wpAny_pyNext_range_end (I.ok.hd hc) st (by have:n<=i:=hg;lia) λh' eb=>⟨rfl,I.turned (t':=s.toks) (λb o hb e=>eb b o hb e) f0 f1 f3 f4 f5⟩
 self:=λ_ _ _ _ _ st h=>aJ0 st h
section
variable {X:Cx}{tg:Expr}
theorem bP0 (a b:Int):Builtin.Range.rangeSize a b (-1)=(((a-b).toNat:Nat):Int):=by
 unfold Builtin.Range.rangeSize;rw[a6 ac]
 split<;>simp<;>lia
theorem small_down {a b:Int}(h1: -(2^31)<=a)(h2:a<2^31)(h3: -(2^31)<=b)(h4:b<2^31):Builtin.Range.small a b (-1)=true:=by
 unfold Builtin.Range.small;rw[bP0];simp[Builtin.Range.rangeFitsLong];omega
theorem cH1 {σ:St}{H:Hp}{R:It->Hp->Prop}{hi:Int}{t u v:Tok}(I:Inv X pins σ H s)(h1: -(2^31)<=lo)(h2:lo<2^31)(h3: -(2^31)<=hi)(h4:hi<2^31)
  (q:R (Itd lo (lo-hi).toNat) H):X∩(pyIter<|.ref s.heap.objs.size) (PIE X pins σ tg R) E {s with heap:=s.heap.push {cls:= .type "range",data:= .fields #[.int lo t,.int hi u,.int (-1) v]},toks:=tk}:=by
 refine wpAny_pyIter_range (IsRange.new ..) (small_down h1 h2 h3 h4) ?_
 have I1:Inv X pins σ H {s with heap:=s.heap.push {cls:= .type "range",data:= .fields #[.int lo t,.int hi u,.int (-1) v]},toks:=tk}:=I.kept λb o e=>aU _ e
 refine⟨(s.heap.push {cls:= .type "range",data:= .fields #[.int lo t,.int hi u,.int (-1) v]}).objs.size,[(s.heap.push {cls:= .type "range",data:= .fields #[.int lo t,.int hi u,.int (-1) v]}).objs.size],_,_,H,rfl,
  I1.kept (t':=tk) λb o e=>aU _ e,bO9 _ lo (lo-hi).toNat,?_,λb hb=> ?_,q⟩
 .have e1:lo+((0:Nat):Int)*(-1)=lo:=af
  have e2:(((lo-hi).toNat:Nat):Int)-((0:Nat):Int)=Builtin.Range.rangeSize lo hi (-1):=by rw[bP0];simp
  show IsRangeIter _ _ (lo+((0:Nat):Int)*(-1)) ((((lo-hi).toNat:Nat):Int)-((0:Nat):Int)) (-1)
  rw[e1,e2];exact cA _ rfl
 .have e:b=(s.heap.push {cls:= .type "range",data:= .fields #[.int lo t,.int hi u,.int (-1) v]}).objs.size:=by exists hb
  subst e;exact I1.fpOk (aF _) (I1.hok.fresh<|aF _)
def iRngD (ta:TA):TI:=λσ H R=>ta σ H λvs H1=> ∃i j:Int,vs=[.int i,.int j,.int<|-1]/\(-(2^31)<=i/\i<2^31/\ -(2^31)<=j/\j<2^31)/\R (Itd i (i-j).toNat) H1
theorem cV7 {a b:Expr}{ta:TA}(hg:Gl X "range")(hm:X.mg "range"=none)(ha:PA X [a,b,c] ta)(hs:↥(starEach [a,b,c] X.env=[(false,eval a X.env),(false,eval b X.env),(false,eval c X.env)]))(hs2:↥(starEach [b,c] X.env=[(false,eval b X.env),(false,eval c X.env)])) :
  PI X tg (.Call (.Name "range" p) [a,b,c] [] pos) (iRngD ta):=by
 intro pins s σ H R I h;refine Call_ (uI I hg hm boot_range<|jW (thn (ha pos pins s σ H _ I h) λus s1 ⟨vs,H1,I1,r1,q1⟩=> ?_) (by rw[hs,hs2]) (by rw[hs2];rfl))
 obtain⟨i,j,e,⟨q1,q2,q3,q4⟩,q⟩:=q1;subst e;cases r1 with
 | cons r rr=>
  cases rr with
  | cons r' rr=>
   cases rr with
   | cons r'' rr=>
    cases rr;obtain⟨t,rfl⟩:=r;obtain⟨t',rfl⟩:=r';obtain⟨t'',rfl⟩:=r'';exact call_range_3 ac (cH1 I1 q1 q2 q3 q4 q) (.inl (by
     unfold Builtin.divisionGoesByPylong;simp;intro hz;have:Nat.log2 1=0:=ac
     lia))
end
end L2
namespace M
section
variable {X:Cx}{K:Frag}{H:Hp}{pos:Pos}
theorem bP1 {A:AS}:c43 K A H (Itd lo n) n (λi=> .int (lo-i)):=
 ⟨λ_ _ _ _ h=>h,λ_ _ i x H'' _ _ _ ⟨e,y⟩=>by subst e;subst y;exact⟨.refl _,by simp only[Rep]⟩,λ_ _ _=>aF n⟩
def c47 (ta:UA):UI:=λρ Q=>ta ρ λds ρ1=>match ds with
 | [.int i,.int j,.int m]=>m= -1/\(-(2^31)<=i/\i<2^31/\ -(2^31)<=j/\j<2^31)/\Q (i-j).toNat (λk=> .int (i-k)) ρ1
 | _=>False
theorem bP2 {a b:Expr}{ta:UA}(hg:Gl X "range")(hm:X.mg "range"=none)(ha:PUA X [a,b,c] ta)(hs:↥(starEach [a,b,c] X.env=[(false,eval a X.env),(false,eval b X.env),(false,eval c X.env)]))(hs2:↥(starEach [b,c] X.env=[(false,eval b X.env),(false,eval c X.env)])) :
  PUI X tg (.Call (.Name "range" p) [a,b,c] [] pos) (c47 ta):=
 b11 (cV7 hg hm ha hs hs2) λσ H R ⟨C,ρ,Q0,I,h,k⟩=>⟨C,ρ,_,I,h,λds ρ1 vs H1 q f s r=>by
  split at q
  .rename_i i j m
   obtain⟨v,vr,rfl,rv,rr⟩:=r.uncons;obtain⟨w,wr,rfl,rw',rr'⟩:=rr.uncons;obtain⟨z,zr,rfl,rz,rr''⟩:=rr'.uncons;have:=rr''.unnil;subst this;have:=bL rv;subst this;have:=bL rw';subst this;have:=bL rz;subst this;obtain⟨hm,hb,q⟩:=q;subst hm;exact⟨i,j,rfl,hb,k _ _ ρ1 _ H1 q f s bP1⟩
  .exact q.elim⟩
end
end M
end
section
namespace L2
section
variable {X:Cx}{pins:List (Addr×Obj)}{σ:St}{H:Hp}{s:Shared}{h':Heap}
theorem Inv.turnedNew {o:HO}(I:Inv X pins σ H s)(k: ∀b u,b ∉ ch->s.heap.get? b=some u->h'.get? b=some u)(hf: ∀b∈ch,aV4 X pins H b)
  (hp:s.heap.objs.size<=a) (new:rO X.prog X.w (upd H a o) h' a o):Inv X pins σ (upd H a o) {s with heap:=h',toks:=t'}:=by
 have hn:H a=none:=I.hok.fresh hp;have nch: ∀b u,H b=some u->b ∉ ch:=λb u e z=>by have:=(hf b z).1;rw[e]at this;cases this
 refine I.step (g':=s.gens) (d':=s.drawn) (ch:=ch) (λb hb=>⟨(hf b hb).2.2.2.1,(hf b hb).2.1,(hf b hb).2.2.2.2.1,(hf b hb).2.2.2.2.2⟩) (λb u _ _ hc e _=>k b u hc e) (λb u _ _ hc e _=>⟨u.slots,k b u hc e⟩)
  (λb u _ e n=>by rw[cI<|bE<|aZ (aV e) hp];exact n) (λb u hc e=>⟨u,k b u hc e⟩)
  (λb xs e=>by rw[cI<|cX e hn];exact e) (λb ob u e=>by rw[cI<|cX e hn];exact e) (λb ps e=>⟨#[],by rw[cI<|cX e hn,e];simp⟩) (λm hm=> ?_) (λb u e=> ?_) I.bare
 .obtain⟨ob,es,ep,ho,r⟩:=hm;exact⟨ob,es,ep,k _ ob (λz=>(hf _ z).2.1 rfl) ho,r⟩
 .by_cases hb:b=a
  .subst hb;rw[iU]at e;cases e;exact new
  .rw[cI hb]at e;refine(I.hok b u e).stay (λc v hc q=>k c v ?_ q) (λc q=>by rw[cI<|cX q hn];exact q) λc xs q=>by rw[cI<|cX q hn];exact q
   rcases hc with z|z
   .rw[z];exact nch b u e
   .exact nch c _ z
theorem Inv.turnedL (I:Inv X pins σ H s)(k: ∀b u,b ∉ ch->s.heap.get? b=some u->h'.get? b=some u)(hf: ∀b∈ch,aV4 X pins H b):Inv X pins σ H {s with heap:=h',toks:=t'}:=by
 have nch: ∀b u,H b=some u->b ∉ ch:=λb u e z=>by have:=(hf b z).1;rw[e]at this;cases this
 refine I.step (g':=s.gens) (d':=s.drawn) (ch:=ch) (λb hb=>⟨(hf b hb).2.2.2.1,(hf b hb).2.1,(hf b hb).2.2.2.2.1,(hf b hb).2.2.2.2.2⟩) (λb u _ _ hc e _=>k b u hc e) (λb u _ _ hc e _=>⟨u.slots,k b u hc e⟩)
  (λb u _ e n=>n) (λb u hc e=>⟨u,k b u hc e⟩) (λb xs e=>e) (λb ob u e=>e) (λb ps e=>⟨#[],by rw[e];simp⟩) (λm hm=> ?_) (λb u e=> ?_) I.bare
 .obtain⟨ob,es,ep,ho,r⟩:=hm;exact⟨ob,es,ep,k _ ob (λz=>(hf _ z).2.1 rfl) ho,r⟩
 .refine(I.hok b u e).stay (λc v hc q=>k c v ?_ q) (λc q=>q) λc xs q=>q
  rcases hc with z|z
  .rw[z];exact nch b u e
  .exact nch c _ z
end
def vX (T:Bool)(h:Heap)(a:Addr)(xs:Array Value):Prop:=match T with
 | false=>h.IsList a xs
 | true=>h.IsTuple a xs
def vY (T:Bool)(h:Heap)(it a:Addr)(i:Nat):Prop:=match T with
 | false=>h.IsListIter it a i
 | true=>h.IsTupleIter it a i
nonrec def a72 (T:Bool)(a:Addr):Obj:=match T with
 | false=>{cls:= .type "list_iterator",data:= .fields #[.ref a,.int 0 0]}
 | true=>{cls:= .type "tuple_iterator",data:= .fields #[.ref a,.int 0 0]}
def SqV (K:Frag)(T:Bool)(H:Hp)(a:Addr)(xs:List V):Prop:=match T with
 | false=>SqL K H a xs
 | true=>SqT K H a xs
theorem vX.at (x:vX T h a xs)(e: ∀o,h.get? a=some o->h'.get? a=some o):vX T h' a xs:=by
 cases T<;>(obtain⟨o,ho,r⟩:=x;exact⟨o,e o ho,r⟩)
theorem vY.at {it:Addr}(x:vY T h it a i)(e: ∀o,h.get? it=some o->h'.get? it=some o):vY T h' it a i:=by
 cases T<;>(obtain⟨o,ho,r⟩:=x;exact⟨o,e o ho,r⟩)
theorem vX.lt (x:vX T h a xs):a<h.objs.size:=by
 cases T<;>(obtain⟨o,ho,r⟩:=x;exact aV ho)
theorem vY.rec' {it:Addr}(x:vY T h it a i): ∃o,h.get? it=some o/\ ∀v,o.data≠ .cell v:=by
 cases T<;>(obtain⟨o,ho,hc,hd⟩:=x;exact⟨o,ho,λv z=>by rw[hd]at z;cases z⟩)
theorem vY.new (h:Heap)(a:Addr):vY T (h.push<|a72 T a) h.objs.size a 0:=by
 cases T<;>exact⟨_,cA _ rfl,rfl,rfl⟩
section
variable {X:Cx}{pins:List (Addr×Obj)}{σ:St}{H:Hp}{s:Shared}
theorem Inv.sq {xs:List V}(I:Inv X pins σ H s)(h:SqV X.K T H a xs): ∃its:List Value,Vals xs its/\vX T s.heap a its.toArray/\xs.length<=sizeLine:=by
 cases T with
 | false=>obtain⟨its,rv,p,hz⟩:=I.list h;exact⟨its,rv,p.isList,hz⟩
 | true=>obtain⟨its,rv,p,hz⟩:=I.tuple h;exact⟨its,rv,p,hz⟩
theorem Inv.sq_inj {xs ys:List V}(I:Inv X pins σ H s)(h:SqV X.K T H a xs)(h':SqV X.K T H a ys):xs=ys:=by
 cases T with
 | false=>exact I.list_inj h h'
 | true=>exact I.tuple_inj h h'
end
section
variable {prog:Program}{w:World}{A:Around}{E:Value->Shared->Prop}{s:Shared}
theorem aE0 (hl:vX T s.heap a xs)(hQ:Q (.ref s.heap.objs.size) {s with heap:=s.heap.push (a72 T a)}) :
  wpAny (model prog w) A (pyIter<|.ref a) Q E s:=by
 cases T with
 | false=>exact zJ hl hQ
 | true=>exact aK8 hl hQ
theorem d51 {it:Addr}{x:Value}(hit:s.heap.IsTupleIter it t i)(ht:s.heap.IsTuple t items)(hx:items[i]? =some x)
  (hQ: ∀h',h'.IsTupleIter it t (i+1)->SameBut it s.heap h'->Q x {s with heap:=h'}):wpAny (model prog w) A (Builtin.SmallTypes.nextOf<|.ref it) Q E s:=by
 obtain⟨oi,hoi,hci,hdi⟩:=id hit;obtain⟨ot,hot,_,nt,hdt⟩:=ht;unfold Builtin.SmallTypes.nextOf;refine a9 (kZ (name:=Str.ofString "__next__") hit.typeIs yS<|j8 yS hit.typeIs PySem.F.entry_tuple_iterator_next ?_<|PySem.F.args_tuple_iterator_next_1 _);show wpAny _ _ (field (.ref it) 0 >>= _) _ _ s;refine a9 (cW hoi hdi (x:= .ref t) rfl ?_)
 show wpAny _ _ (if(Value.ref t==Value.none)=true then _ else _) _ _ s;rw[a6<|show ¬((Value.ref t==Value.none)=true)from bF]
 show wpAny _ _ (field (.ref it) 1 >>= _) _ _ s;refine a9 (cW hoi hdi (x:= .int i 0) rfl ?_)
 show wpAny _ _ (seqItems? (.ref t) >>= _) _ _ s;refine a9 (lL hot hdt ?_)
 simp only[bV,hx];refine a9 (u8 hoi hdi af<|aL ⟨x,rfl,aL<|hQ _ ⟨_,pV _ hoi<|aJ6<|qB hdi _,(Obj.cls_mapFields ..).trans hci,?_⟩<|tX ..⟩)
 rw[qB hdi];simp[rawInt]
theorem cV8 {it:Addr}(hh:A.handled=none)(hit:s.heap.IsTupleIter it t i)(ht:s.heap.IsTuple t items)(hx:items[i]? =none)
  (hE: ∀h' e,ExtBut it s.heap h'->(∃o,h'.get? e=some o/\o.cls= .type "StopIteration")->E (.ref e) {s with heap:=h'}):wpAny (model prog w) A (Builtin.SmallTypes.nextOf<|.ref it) Q E s:=by
 obtain⟨oi,hoi,hci,hdi⟩:=id hit;obtain⟨ot,hot,_,nt,hdt⟩:=ht;unfold Builtin.SmallTypes.nextOf;refine a9 (kZ (name:=Str.ofString "__next__") hit.typeIs yS<|j8 yS hit.typeIs PySem.F.entry_tuple_iterator_next ?_<|PySem.F.args_tuple_iterator_next_1 _);show wpAny _ _ (field (.ref it) 0 >>= _) _ _ s;refine a9 (cW hoi hdi (x:= .ref t) rfl ?_)
 show wpAny _ _ (if(Value.ref t==Value.none)=true then _ else _) _ _ s;rw[a6<|show ¬((Value.ref t==Value.none)=true)from bF]
 show wpAny _ _ (field (.ref it) 1 >>= _) _ _ s;refine a9 (cW hoi hdi (x:= .int i 0) rfl ?_)
 show wpAny _ _ (seqItems? (.ref t) >>= _) _ _ s;refine a9 (lL hot hdt ?_)
 simp only[bV,hx];refine a9 (qO<|a9<|u8 hoi hdi af ?_)
 show wpAny _ _ (newExc (.type "StopIteration") [] >>= _) _ _ _;refine a9 ?_;simp only[newExc,newTuple];refine a9 (k7 ?_<|by size_fits)
 refine a9 (m:=firstArgMember _ _) (kH (a:=Value.none) (by first|rfl| (simp only[firstArgMember];rfl)) ?_);refine k7 ?_ (by size_fits)
 simp only[raiseNew];refine a9 (wpAny_handled ?_);first|rw[show A.in1.handled=none from hh]|rw[hh]
 exact a9 (aL<|wpAny_throw<|hE _ _ (((tX ..).extBut.push _).push _) ⟨_,cA _ rfl,rfl⟩)
theorem b64 {T:Bool}{it a:Addr}{i:Nat}{xs:Array Value}{x:Value}{Q:Value->Shared->Prop}(hit:vY T s.heap it a i)(hl:vX T s.heap a xs)(hx:xs[i]? =some x)
  (hQ: ∀h',vY T h' it a (i+1)->SameBut it s.heap h'->Q x {s with heap:=h'}):wpAny (model prog w) A (Builtin.SmallTypes.nextOf<|.ref it) Q E s:=by
 cases T with
 | false=>exact wpAny_nextOf_list_item hit hl hx hQ
 | true=>exact d51 hit hl hx hQ
theorem b99 {T:Bool}{it a:Addr}{i:Nat}{xs:Array Value}{Q:Value->Shared->Prop}(hh:A.handled=none)(hit:vY T s.heap it a i)(hl:vX T s.heap a xs)(hx:xs[i]? =none)
  (hE: ∀h' e,ExtBut it s.heap h'->(∃o,h'.get? e=some o/\o.cls= .type "StopIteration")->E (.ref e) {s with heap:=h'}):wpAny (model prog w) A (Builtin.SmallTypes.nextOf<|.ref it) Q E s:=by
 cases T with
 | false=>exact wpAny_nextOf_list_end hh hit hl hx hE
 | true=>exact cV8 hh hit hl hx hE
end
structure ZSt (T1 T2:Bool)(z TI TO i1 i2 l1 l2:Addr)(f0:Value)(i:Nat)(h:Heap):Prop where
 hz:IsZip h z TI TO f0
 hI:IsPair h TI (.ref i1) (.ref i2)
 hO: ∃a b,IsPair h TO a b
 h1:vY T1 h i1 l1 i
 h2:vY T2 h i2 l2 i
structure ZAp (z TI TO i1 i2:Addr):Prop where
 a:TI≠z
 b:TO≠z
 c:i1≠z
 d:i2≠z
 e:TI≠TO
 f:TI≠i1
 g:TI≠i2
 h:TO≠i1
 i:TO≠i2
 j:i1≠i2
section
variable {prog:Program}{w:World}{A:Around}{E:Value->Shared->Prop}{s:Shared}{T1 T2:Bool}{z TI TO i1 i2 l1 l2:Addr}{k:Nat}{xs ys:Array Value}
theorem d52 {x y:Value}(D:ZAp z TI TO i1 i2)(n1:l1 ∉ [z,TI,TO,i1,i2])(n2:l2 ∉ [z,TI,TO,i1,i2])(st:ZSt T1 T2 z TI TO i1 i2 l1 l2 .none k s.heap)
  (hl1:vX T1 s.heap l1 xs) (hl2:vX T2 s.heap l2 ys) (hx:xs[k]? =some x) (hy:ys[k]? =some y)
  (hQ: ∀h',ZSt T1 T2 z TI TO i1 i2 l1 l2 (rawInt s.heap.objs.size) (k+1) h'->IsPair h' s.heap.objs.size x y->(∀c o,c ∉ [z,TI,TO,i1,i2]->s.heap.get? c=some o->h'.get? c=some o)->Q (.ref s.heap.objs.size) {s with heap:=h'}) :
  wpAny (model prog w) A (Builtin.«zip.__next__» ⟨[.ref z],[]⟩) (λfin s'=> ∃v,fin= .done (.ret v)/\Q v s') E s:=by
 obtain⟨hz,hI,⟨a0,b0,hO⟩,h1,h2⟩:=st;simp only[aY,dL,dQ,not_or]at n1 n2;show wpAny _ _ (field (.ref z) 2 >>= _) _ _ _;refine a9 (cW hz rfl (x:= .bool false) rfl ?_);show wpAny _ _ (field (.ref z) 3 >>= _) _ _ _;refine a9 (cW hz rfl (x:= .ref TI) rfl ?_);refine a9 (lL hI rfl ?_);show wpAny _ _ (Builtin.SmallTypes.ownedTupleIsFree (.ref z) >>= _) _ _ _
 refine a9 ?_;unfold Builtin.SmallTypes.ownedTupleIsFree;refine a9 (cW hz rfl (x:= .none) rfl (aL ?_))
 simp only[dR];refine a9 (qO ?_);refine a9 (cW hz rfl (x:= .ref TO) rfl ?_);refine a9 (qC hz af λg1 z1 m1=> ?_);replace z1:IsZip g1 z TI TO .ellipsis:=z1
 refine a9 ?_;simp only[List.zipIdx_cons,List.zipIdx_nil,zP,forIn_nil]
 refine a9 (a9<|zT ?_);show wpAny _ _ (Builtin.SmallTypes.nextOf (.ref i1) >>= _) _ _ _
 refine a9 (b64 (s:={s with heap:=g1}) (h1.at λo e=>m1.extBut _ _ D.c e) (hl1.at λo e=>m1.extBut _ _ n1.1 e) hx λg2 p2 m2=>aL ?_)
 have o2:IsPair g2 TO a0 b0:=m2.extBut _ _ D.h (m1.extBut _ _ D.b hO);refine a9 (lL o2 rfl ?_);refine a9 (aK1 o2 λg3 o3 m3=> ?_);replace o3:IsPair g3 TO x b0:=o3
 refine a9 (wpAny_letGo<|aL ?_)
 refine a9 (a9<|zT ?_);show wpAny _ _ (Builtin.SmallTypes.nextOf (.ref i2) >>= _) _ _ _
 refine a9 (b64 (s:={s with heap:=g3}) (h2.at λo e=>m3.extBut _ _ D.i.symm (m2.extBut _ _ D.j.symm<|m1.extBut _ _ D.d e)) (hl2.at λo e=>m3.extBut _ _ n2.2.2.1 (m2.extBut _ _ n2.2.2.2.1<|m1.extBut _ _ n2.1 e)) hy λg4 p4 m4=>aL ?_)
 have o4:IsPair g4 TO x b0:=m4.extBut _ _ D.i o3;refine a9 (lL o4 rfl ?_);refine a9 (aK1 o4 λg5 o5 m5=> ?_);replace o5:IsPair g5 TO x y:=o5
 refine a9 (wpAny_letGo<|aL<|aL ?_)
 refine a9 (lL o5 rfl ?_);refine a9 (wpAny_newTuple ?_)
 have sz:g5.objs.size=s.heap.objs.size:=by rw[m5.1,m4.1,m3.1,m2.1,m1.1]
 have z5:IsZip g5 z TI TO .ellipsis:=m5.extBut _ _ D.b.symm (m4.extBut _ _ D.d.symm<|m3.extBut _ _ D.b.symm<|m2.extBut _ _ D.c.symm z1);have keep5: ∀c o,c≠z->c≠TO->c≠i1->c≠i2->s.heap.get? c=some o->g5.get? c=some o:=λc o c1 c2 c3 c4 e=>m5.extBut _ _ c2 (m4.extBut _ _ c4<|m3.extBut _ _ c2<|m2.extBut _ _ c3<|m1.extBut _ _ c1 e)
 have q1:vY T1 g5 i1 l1 (k+1):=p2.at λo e=>m5.extBut _ _ D.h.symm (m4.extBut _ _ D.j<|m3.extBut _ _ D.h.symm e)
 have q2:vY T2 g5 i2 l2 (k+1):=p4.at λo e=>m5.extBut _ _ D.i.symm e
 have zl:z<g5.objs.size:=aV z5;show wpAny _ _ (Builtin.SmallTypes.ownedTupleHandOut (.ref z) (.ref g5.objs.size) >>= _) _ _ _;refine a9 ?_;unfold Builtin.SmallTypes.ownedTupleHandOut;have z6:IsZip (g5.push {cls:= .type "tuple",data:= .seq #[x,y]}) z TI TO .ellipsis:=aU _ z5;refine a9 (qC z6 af λg7 z7 m7=> ?_);replace z7:IsZip g7 z TI TO (rawInt g5.objs.size):=z7
 refine qC z7 af λg8 z8 m8=> ?_;replace z8:IsZip g8 z TI TO (rawInt g5.objs.size):=z8
 have up: ∀c o,c≠z->g5.get? c=some o->g8.get? c=some o:=λc o c1 e=>m8.extBut _ _ c1 (m7.extBut _ _ c1<|aU _ e)
 have t8:IsPair g8 g5.objs.size x y:=m8.extBut _ _ (uD zl) (m7.extBut _ _ (uD zl)<|cA _ rfl);rw[sz]at z8 t8;refine aL ⟨_,rfl,?_⟩;show Q (.ref g5.objs.size) _;rw[sz];refine hQ g8 ⟨z8,up _ _ D.a<|keep5 _ _ D.a D.e D.f D.g hI,⟨x,y,up _ _ D.b o5⟩,q1.at λo e=>up _ _ D.c e,q2.at λo e=>up _ _ D.d e⟩ t8 λc o nc e=> ?_
 simp only[aY,dL,dQ,not_or]at nc;exact up c o nc.1 (keep5 c o nc.1 nc.2.2.1 nc.2.2.2.1 nc.2.2.2.2 e)
theorem cV9 {Q:Fin->Shared->Prop}(hh:A.handled=none)(D:ZAp z TI TO i1 i2)(n1:l1 ∉ [z,TI,TO,i1,i2])(n2:l2 ∉ [z,TI,TO,i1,i2])(st:ZSt T1 T2 z TI TO i1 i2 l1 l2 .none k s.heap)
  (hl1:vX T1 s.heap l1 xs) (hl2:vX T2 s.heap l2 ys) (hend:xs[k]? =none\/ys[k]? =none)
  (hE: ∀h' e,(∀c o,c ∉ [z,TI,TO,i1,i2]->s.heap.get? c=some o->h'.get? c=some o)->(∃o,h'.get? e=some o/\o.cls= .type "StopIteration")->E (.ref e) {s with heap:=h'}) :
  wpAny (model prog w) A (Builtin.«zip.__next__» ⟨[.ref z],[]⟩) Q E s:=by
 obtain⟨hz,hI,⟨a0,b0,hO⟩,h1,h2⟩:=st;simp only[aY,dL,dQ,not_or]at n1 n2;have nin: ∀c,c ∉ [z,TI,TO,i1,i2]->c≠z/\c≠TI/\c≠TO/\c≠i1/\c≠i2:=λc h=>by simpa only[aY,dL,dQ,not_or]using h
 show wpAny _ _ (field (.ref z) 2 >>= _) _ _ _;refine a9 (cW hz rfl (x:= .bool false) rfl ?_)
 show wpAny _ _ (field (.ref z) 3 >>= _) _ _ _;refine a9 (cW hz rfl (x:= .ref TI) rfl ?_)
 refine a9 (lL hI rfl ?_);show wpAny _ _ (Builtin.SmallTypes.ownedTupleIsFree (.ref z) >>= _) _ _ _
 refine a9 ?_;unfold Builtin.SmallTypes.ownedTupleIsFree;refine a9 (cW hz rfl (x:= .none) rfl (aL ?_))
 simp only[dR];refine a9 (qO ?_);refine a9 (cW hz rfl (x:= .ref TO) rfl ?_);refine a9 (qC hz af λg1 z1 m1=> ?_);replace z1:IsZip g1 z TI TO .ellipsis:=z1
 refine a9 ?_;simp only[List.zipIdx_cons,List.zipIdx_nil,zP,forIn_nil]
 refine a9 (a9<|zT ?_);show wpAny _ _ (Builtin.SmallTypes.nextOf (.ref i1) >>= _) _ _ _
 cases hx:xs[k]? with
 | none=>
  refine a9 (b99 (s:={s with heap:=g1}) hh (h1.at λo e=>m1.extBut _ _ D.c e) (hl1.at λo e=>m1.extBut _ _ n1.1 e) hx λg2 e m2 he=> ?_)
  obtain⟨oe,hoe,hce⟩:=he;have z2:IsZip g2 z TI TO .ellipsis:=m2 _ _ D.c.symm z1;have ez:e≠z:=λq=>by subst q;rw[z2]at hoe;cases hoe;simp at hce
  refine qC z2 af λg3 _ m3=>hE g3 e (λc o nc q=> ?_) ⟨oe,m3.extBut _ _ ez hoe,hce⟩
  obtain⟨c1,c2,c3,c4,c5⟩:=nin c nc;exact m3.extBut _ _ c1 (m2 _ _ c4<|m1.extBut _ _ c1 q)
 | some x=>
  have hy:ys[k]? =none:=by rcases hend with q|q;(rw[hx]at q;cases q);exact q
  refine a9 (b64 (s:={s with heap:=g1}) (h1.at λo e=>m1.extBut _ _ D.c e) (hl1.at λo e=>m1.extBut _ _ n1.1 e) hx λg2 p2 m2=>aL ?_)
  have o2:IsPair g2 TO a0 b0:=m2.extBut _ _ D.h (m1.extBut _ _ D.b hO);refine a9 (lL o2 rfl ?_);refine a9 (aK1 o2 λg3 o3 m3=> ?_)
  refine a9 (wpAny_letGo<|aL ?_);refine a9 (a9<|zT ?_);show wpAny _ _ (Builtin.SmallTypes.nextOf (.ref i2) >>= _) _ _ _
  refine a9 (b99 (s:={s with heap:=g3}) hh (h2.at λo e=>m3.extBut _ _ D.i.symm (m2.extBut _ _ D.j.symm<|m1.extBut _ _ D.d e)) (hl2.at λo e=>m3.extBut _ _ n2.2.2.1 (m2.extBut _ _ n2.2.2.2.1<|m1.extBut _ _ n2.1 e)) hy λg4 e m4 he=> ?_)
  obtain⟨oe,hoe,hce⟩:=he;have z4:IsZip g4 z TI TO .ellipsis:=m4 _ _ D.d.symm (m3.extBut _ _ D.b.symm<|m2.extBut _ _ D.c.symm z1);have ez:e≠z:=λq=>by subst q;rw[z4]at hoe;cases hoe;simp at hce
  refine qC z4 af λg5 _ m5=>hE g5 e (λc o nc q=> ?_) ⟨oe,m5.extBut _ _ ez hoe,hce⟩
  obtain⟨c1,c2,c3,c4,c5⟩:=nin c nc;exact m5.extBut _ _ c1 (m4 _ _ c5<|m3.extBut _ _ c3<|m2.extBut _ _ c4<|m1.extBut _ _ c1 q)
end
nonrec def Itz (K:Frag)(T1 T2:Bool)(l1 l2:Addr):It where
 go:=λi H=> ∃xs ys x y,SqV K T1 H l1 xs/\SqV K T2 H l2 ys/\xs[i]? =some x/\ys[i]? =some y
 yld:=λi H v H'=> ∃T x y,v= .ref T/\H T=none/\H'=upd H T (.tup [x,y])/\(∀xs,SqV K T1 H l1 xs->xs[i]? =some x)/\ ∀ys,SqV K T2 H l2 ys->ys[i]? =some y
 stop:=λi H=> ∃xs ys,SqV K T1 H l1 xs/\SqV K T2 H l2 ys/\(xs.length<=i\/ys.length<=i)
theorem ZSt.objs {z TI TO i1 i2:Addr}{f0:Value}(st:ZSt T1 T2 z TI TO i1 i2 l1 l2 f0 i h): ∀b∈[z,TI,TO,i1,i2],∃o,h.get? b=some o/\ ∀v,o.data≠ .cell v:=λb hb=>by
 obtain⟨hz,hI,⟨a,c,hO⟩,h1,h2⟩:=st;simp only[aY,dL,dQ]at hb;rcases hb with rfl|rfl|rfl|rfl|rfl
 .exact⟨_,hz,λv q=>by cases q⟩
 .exact⟨_,hI,λv q=>by cases q⟩
 .exact⟨_,hO,λv q=>by cases q⟩
 .exact h1.rec'
 .exact h2.rec'
theorem c48:2<=sizeLine:=ac
theorem d53 {z TI TO i1 i2:Addr}(D:ZAp z TI TO i1 i2)(n1:l1 ∉ [z,TI,TO,i1,i2])(n2:l2 ∉ [z,TI,TO,i1,i2]) :
  c29 P w K (.Tuple elts kt tp) (Itz K T1 T2 l1 l2) [z,TI,TO,i1,i2] z (ZSt T1 T2 z TI TO i1 i2 l1 l2 .none) where
 mem:=af
 obj:=λi h st b hb=>st.objs b hb
 keep:=λi h h' st k=>by
  obtain⟨hz,hI,⟨a,c,hO⟩,h1,h2⟩:=st;exact⟨k z af _ hz,k TI af _ hI,⟨a,c,k TO af _ hO⟩,h1.at λo e=>k i1 af o e,h2.at λo e=>k i2 af o e⟩
 item:=by
  intro X hP hw hK hc i pins s σ H E I hf st hg;subst hP hw hK;obtain⟨xs,ys,x,y,q1,q2,e1,e2⟩:=hg;obtain⟨is1,r1,p1,_⟩:=I.sq q1;obtain⟨is2,r2,p2,_⟩:=I.sq q2;obtain⟨u1,hu1,ru1⟩:=r1.get e1;obtain⟨u2,hu2,ru2⟩:=r2.get e2;have hT:s.TypeIs (.ref z) "zip":=⟨_,st.hz,rfl⟩;unfold pyNext
  refine a9 (uA<|kZ (name:=Str.ofString "__next__") hT zA<|j8 zA hT PySem.F.entry_zip_next (d52 D n1 n2 st p1 p2 (by exists hu1) (by exists hu2) λh' st' ht k=>aL ?_)<|PySem.F.args_zip_next_1 _)
  refine⟨_,rfl,wpAny_letOwnedTupleGo_zip st'.hz λh2 hz2 m=> ?_⟩
  have kk: ∀b u,b ∉ [z,TI,TO,i1,i2]->s.heap.get? b=some u->h2.get? b=some u:=λb u nb e=>m.extBut _ _ (λq=>nb (by simp[q])) (k b u nb e)
  have hne:s.heap.objs.size≠z:=uD (aV st.hz);have ht2:IsPair h2 s.heap.objs.size u1 u2:=m.extBut _ _ hne ht;obtain⟨a',c',hO'⟩:=st'.hO;refine⟨.ref s.heap.objs.size,upd H s.heap.objs.size<|.tup [x,y],I.turnedNew (t':=s.toks) kk hf (aF _) ⟨c48,[u1,u2],.cons ru1<|.cons ru2 .nil,⟨_,ht2,rfl,_,rfl⟩⟩,rfl,
   ⟨_,x,y,rfl,I.hok.fresh<|aF _,rfl,λxs' q=>by rw[I.sq_inj q q1];exact e1,λys' q=>by rw[I.sq_inj q q2];exact e2⟩,⟨hz2,m.extBut _ _ D.a st'.hI,⟨a',c',m.extBut _ _ D.b hO'⟩,st'.h1.at λo e=>m.extBut _ _ D.c e,st'.h2.at λo e=>m.extBut _ _ D.d e⟩,λb hb=> ?_⟩
  obtain⟨o,ho,_⟩:=st.objs b hb;rw[cI<|bE<|aV ho];exact(hf b hb).1
 done:=by
  intro X hP hw hK hc i pins s σ H E I hf st hg;subst hP hw hK;obtain⟨xs,ys,q1,q2,hs⟩:=hg;obtain⟨is1,r1,p1,_⟩:=I.sq q1;obtain⟨is2,r2,p2,_⟩:=I.sq q2;have l1':=r1.length;have l2':=r2.length;have hT:s.TypeIs (.ref z) "zip":=⟨_,st.hz,rfl⟩;unfold pyNext
  refine a9 (uA<|kZ (name:=Str.ofString "__next__") hT zA<|j8 zA hT PySem.F.entry_zip_next (cV9 (I.ok.hd hc) D n1 n2 st p1 p2 (by simp;omega) λh' e k he=> ?_)<|PySem.F.args_zip_next_1 _)
  obtain⟨o,ho,hc'⟩:=he;exact a9 (wpAny_isInstance (T:="StopIteration") (b:=true) ⟨o,ho,hc'⟩ isSubtype_stop<|aL ⟨rfl,I.turnedL (t':=s.toks) k hf⟩)
 self:=λ_ _ _ _ _ st h=>wpAny_pyIter_zip st.hz h
noncomputable abbrev zg1 (T1:Bool)(h:Heap)(l1:Addr):Heap:=h.push (a72 T1 l1)
noncomputable abbrev zg2 (T1 T2:Bool)(h:Heap)(l1 l2:Addr):Heap:=(zg1 T1 h l1).push (a72 T2 l2)
noncomputable abbrev zg3 (T1 T2:Bool)(h:Heap)(l1 l2:Addr):Heap:=(zg2 T1 T2 h l1 l2).push {cls:= .type "tuple",data:= .seq #[.ref h.objs.size,.ref (zg1 T1 h l1).objs.size]}
noncomputable abbrev zg4 (T1 T2:Bool)(h:Heap)(l1 l2:Addr):Heap:=(zg3 T1 T2 h l1 l2).push {cls:= .type "tuple",data:= .seq #[.none,.none]}
noncomputable abbrev zg5 (T1 T2:Bool)(h:Heap)(l1 l2:Addr):Heap:=(zg4 T1 T2 h l1 l2).push {cls:= .type "zip",data:= .fields #[.none,.bool false,.bool false,.ref (zg2 T1 T2 h l1 l2).objs.size,.ref (zg3 T1 T2 h l1 l2).objs.size]}
theorem dK7 (T1 T2:Bool)(l1 l2:Addr)(xs ys:Array Value):Meets (Builtin.«zip.__new__» ⟨[.type "zip",.ref l1,.ref l2],[]⟩) (λ_ R s=>vX T1 s.heap l1 xs/\vX T2 s.heap l2 ys/\
  R (.ok<|.ret<|.ref (zg4 T1 T2 s.heap l1 l2).objs.size) {s with heap:=zg5 T1 T2 s.heap l1 l2}):= .of_wp λprog w A R s h=>by
 obtain⟨hp,g,d,tk,os⟩:=s;obtain⟨hl1,hl2,h⟩:=h;have hsub:=sub_zip;have e1:vX T1 (Shared.heap ⟨hp,g,d,tk,os⟩) l1 xs:=hl1;have e2:vX T2 (Shared.heap ⟨hp.push<|a72 T1 l1,g,d,tk,os⟩) l2 ys:=hl2.at λo e=>aU _ e
 wp_walk using aE0 e1,aE0 e2
 exact⟨_,rfl,h⟩
section
variable {prog:Program}{w:World}{A:Around}{E:Value->Shared->Prop}{s:Shared}
theorem d54 {ys:Array Value}(hl1:vX T1 s.heap l1 xs)(hl2:vX T2 s.heap l2 ys)
  (h: ∀h' z TI TO i1 i2,ZAp z TI TO i1 i2->(∀b∈[z,TI,TO,i1,i2],s.heap.objs.size<=b)->ZSt T1 T2 z TI TO i1 i2 l1 l2 .none 0 h'->(∀c o,s.heap.get? c=some o->h'.get? c=some o)->Q (.ref z) {s with heap:=h'}) :
  wpAny (model prog w) A (call (.type "zip") [.ref l1,.ref l2]) Q E s:=by
 refine callType_new PySem.F.called_zip ac (PySem.F.typeCall_zip_2 _ _) (PySem.F.newCall_zip_2 _ _) (λobj=>PySem.F.args_object_init_3 obj _ _) PySem.F.entry_zip_new (dK7 T1 T2 l1 l2 xs ys) ⟨hl1,hl2,?_⟩
 have z1:(zg1 T1 s.heap l1).objs.size=s.heap.objs.size+1:=jA ..;have z2:(zg2 T1 T2 s.heap l1 l2).objs.size=s.heap.objs.size+2:=by rw[jA,z1]
 have z3:(zg3 T1 T2 s.heap l1 l2).objs.size=s.heap.objs.size+3:=by rw[jA,z2]
 have z4:(zg4 T1 T2 s.heap l1 l2).objs.size=s.heap.objs.size+4:=by rw[jA,z3]
 have g5:(zg5 T1 T2 s.heap l1 l2).get? (zg4 T1 T2 s.heap l1 l2).objs.size=some _:=cA _ rfl;have g4:(zg5 T1 T2 s.heap l1 l2).get? (zg3 T1 T2 s.heap l1 l2).objs.size=some _:=aU _ (cA _ rfl);have g3:(zg5 T1 T2 s.heap l1 l2).get? (zg2 T1 T2 s.heap l1 l2).objs.size=some _:=aU _ (aU _<|cA _ rfl)
 have s2:vY T2 (zg5 T1 T2 s.heap l1 l2) (zg1 T1 s.heap l1).objs.size l2 0:=(vY.new (zg1 T1 s.heap l1) l2).at λo e=>aU _ (aU _<|aU _ e)
 have s1:vY T1 (zg5 T1 T2 s.heap l1 l2) s.heap.objs.size l1 0:=(vY.new s.heap l1).at λo e=>aU _ (aU _<|aU _<|aU _ e)
 have ap:ZAp (zg4 T1 T2 s.heap l1 l2).objs.size (zg2 T1 T2 s.heap l1 l2).objs.size (zg3 T1 T2 s.heap l1 l2).objs.size s.heap.objs.size (zg1 T1 s.heap l1).objs.size:=by
  rw[z1,z2,z3,z4];have k: ∀n a b:Nat,a≠b->n+a≠n+b:=λn a b h=>aa
  exact⟨k _ 2 4 ac,k _ 3 4 ac,k _ 0 4 ac,k _ 1 4 ac,k _ 2 3 ac,k _ 2 0 ac,k _ 2 1 ac,k _ 3 0 ac,k _ 3 1 ac,k _ 0 1 ac⟩
 refine⟨⟨_,g5,rfl⟩,h _ _ _ _ _ _ ap (λb hb=> ?_) ⟨g5,g3,⟨_,_,g4⟩,s1,s2⟩ λc o e=>aU _ (aU _<|aU _<|aU _<|aU _ e)⟩
 rw[z1,z2,z3,z4]at hb;simp only[aY,dL,dQ]at hb;rcases hb with rfl|rfl|rfl|rfl|rfl<;>omega
end
section
variable {X:Cx}
def iZip (K:Frag)(ta:TA):TI:=λσ H R=>ta σ H λvs H1=> ∃l1 l2 T1 T2 xs ys,vs=[.ref l1,.ref l2]/\SqV K T1 H1 l1 xs/\SqV K T2 H1 l2 ys/\R (Itz K T1 T2 l1 l2) H1
theorem pi_zip {a b:Expr}{ta:TA}(hg:Gl X "zip")(hm:X.mg "zip"=none)(ha:PA X [a,b] ta)(hs:↥(starEach [a,b] X.env=[(false,eval a X.env),(false,eval b X.env)]))(hs2:↥(starEach [b] X.env=[(false,eval b X.env)])) :
  PI X (.Tuple elts kt tp) (.Call (.Name "zip" p) [a,b] [] pos) (iZip X.K ta):=by
 intro pins s σ H R I h;refine Call_ (uI I hg hm PyProof.Rows.boot_zip<|jW (thn (ha pos pins s σ H _ I h) λus s1 ⟨vs,H1,I1,r1,q1⟩=> ?_) (by rw[hs,hs2]) (by rw[hs2];rfl))
 obtain⟨l1,l2,T1,T2,xs,ys,e,q1,q2,q⟩:=q1;subst e;obtain⟨u,v,rfl,r,r'⟩:=Vals.two r1;cases r;cases r';obtain⟨is1,_,p1,_⟩:=I1.sq q1;obtain⟨is2,_,p2,_⟩:=I1.sq q2;refine d54 p1 p2 λh' z TI TO i1 i2 ap fr st k=>wpAny_pyIter_zip st.hz ?_
 have nl: ∀l,l<s1.heap.objs.size->l ∉ [z,TI,TO,i1,i2]:=λl hl hb=>absurd (aZ hl<|fr l hb) (d7 _)
 exact⟨z,[z,TI,TO,i1,i2],_,_,H1,rfl,I1.kept (t':=s1.toks) k,d53 ap (nl l1 p1.lt)<|nl l2 p2.lt,st,λb hb=>I1.fpOk (fr b hb) (I1.hok.fresh<|fr b hb),q⟩
end
theorem c49 (hh:A.handled=none)(it a:Addr)(hne:a≠it)(xs:Array Value):Draws prog w A it [it,a] xs.size (λi v=>xs[i]? =some v) (λi h=>vY T h it a i/\vX T h a xs) where
 live:=λ_ _ st=>let ⟨o,ho,_⟩:=st.1.rec';⟨o,ho⟩
 frame:=λ_ _ _ st k=>⟨st.1.at λo e=>k it af o e,st.2.at λo e=>k a af o e⟩
 item:=λi s Q E hi st hQ=>b64 st.1 st.2 (x:=xs[i]) (by simp[hi]) λh' hit' m=>hQ _ h' s.toks (by simp[hi]) ⟨hit',st.2.at λo e=>m.extBut _ _ hne e⟩ m
 done:=λs Q E st hE=>b99 hh st.1 st.2 af hE
nonrec def Ite (K:Frag)(T:Bool)(l:Addr):It where
 go:=λi H=> ∃xs x,SqV K T H l xs/\xs[i]? =some x
 yld:=λi H v H'=> ∃Tn x,v= .ref Tn/\H Tn=none/\H'=upd H Tn (.tup [.int (i:Int),x])/\ ∀xs,SqV K T H l xs->xs[i]? =some x
 stop:=λi H=> ∃xs,SqV K T H l xs/\xs.length=i
def ESt (T:Bool)(e it l:Addr)(i:Nat)(h:Heap):Prop:=(∃old,IsEnum h e it i old)/\vY T h it l i
theorem ESt.objs {e it:Addr}(st:ESt T e it l i h): ∀b∈[e,it],∃o,h.get? b=some o/\ ∀v,o.data≠ .cell v:=λb hb=>by
 obtain⟨⟨old,he⟩,h1⟩:=st;simp only[aY,dL,dQ]at hb;rcases hb with rfl|rfl
 .exact⟨_,he,λv q=>by cases q⟩
 .exact h1.rec'
theorem cW0 {e it:Addr}(hei:e≠it)(nl:l ∉ [e,it]):c29 P w K (.Tuple elts kt tp) (Ite K T l) [e,it] e (ESt T e it l) where
 mem:=af
 obj:=λi h st b hb=>st.objs b hb
 keep:=λi h h' st k=>by
  obtain⟨⟨old,he⟩,h1⟩:=st;exact⟨⟨old,k e af _ he⟩,h1.at λo q=>k it af o q⟩
 item:=by
  intro X hP hw hK hc i pins s σ H E I hf st hg;subst hP hw hK;obtain⟨xs,x,q1,e1⟩:=hg;obtain⟨is1,r1,p1,_⟩:=I.sq q1;obtain⟨u1,hu1,ru1⟩:=r1.get e1;simp only[aY,dL,dQ,not_or]at nl;obtain⟨⟨old,he⟩,h1⟩:=id st;have hi:i<is1.toArray.size:=by rw[bB];exact(jX.mp hu1).1
  have D:=c49 (prog:=X.prog) (w:=X.w) (A:=X.A.in1) (T:=T) (I.ok.hd hc) it l nl.2 is1.toArray;refine wpAny_pyNext_enum_itemD D he ⟨h1,p1⟩ hi hei (by simp[hei,Ne.symm nl.1]) λv h' tk hv ho hs' ht hsz k=>⟨_,rfl,wpAny_letOwnedTupleGo_enum ho λh2 he2 m=> ?_⟩
  have ev:v=u1:=by
   have:is1.toArray[i]? =some u1:=by exists hu1
   rw[this]at hv;cases hv;rfl
  subst ev;have hne:s.heap.objs.size≠e:=uD (aV he);have kk: ∀b u,b ∉ [e,it]->s.heap.get? b=some u->h2.get? b=some u:=λb u nb q=>by
   simp only[aY,dL,dQ,not_or]at nb;exact m.extBut _ _ nb.1 (k b u nb.1 nb.2 q)
  have ht2:h2.get? s.heap.objs.size=some {cls:= .type "tuple",data:= .seq #[.int i tk,v]}:=m.extBut _ _ hne ht;refine⟨.ref s.heap.objs.size,upd H s.heap.objs.size<|.tup [.int (i:Int),x],I.turnedNew (t':=tk+1) kk hf (aF _) ⟨c48,[.int i tk,v],.cons ⟨tk,rfl⟩<|.cons ru1 .nil,⟨_,ht2,rfl,_,rfl⟩⟩,rfl,
   ⟨_,x,rfl,I.hok.fresh<|aF _,rfl,λxs' q=>by rw[I.sq_inj q q1];exact e1⟩,⟨⟨_,by exists he2⟩,hs'.1.at λo q=>m.extBut _ _ (Ne.symm hei) q⟩,λb hb=> ?_⟩
  obtain⟨o,ho',_⟩:=st.objs b hb;rw[cI<|bE<|aV ho'];exact(hf b hb).1
 done:=by
  intro X hP hw hK hc i pins s σ H E I hf st hg;subst hP hw hK;obtain⟨xs,q1,hl⟩:=hg;obtain⟨is1,r1,p1,_⟩:=I.sq q1;have l1':=r1.length;simp only[aY,dL,dQ,not_or]at nl;obtain⟨⟨old,he⟩,h1⟩:=id st;have D:=c49 (prog:=X.prog) (w:=X.w) (A:=X.A.in1) (T:=T) (I.ok.hd hc) it l nl.2 is1.toArray
  refine wpAny_pyNext_enum_endD D he ⟨by rw[bB,<-l1',hl];exact h1,p1⟩ λh' ex=>⟨rfl,I.turnedL (t':=s.toks) (λb u nb q=>ex b u (λz=>nb (by simp[z])) q) hf⟩
 self:=λ_ _ _ _ _ st h=>by
  obtain⟨⟨old,he⟩,_⟩:=st;exact wpAny_pyIter_enum he h
theorem cW1 (l:Addr)(xs:Array Value):Meets (Builtin.«enumerate.__new__» ⟨[.type "enumerate",.ref l],[]⟩) (λ_ R s=>s.heap.IsTuple l xs/\
  R (.ok<|.ret<|.ref (s.heap.push<|a72 true l).objs.size) {s with heap:=(s.heap.push<|a72 true l).push {cls:= .type "enumerate",data:= .fields #[.none,.bool false,.ref s.heap.objs.size,rawInt 0,.none,.none]}}):= .of_wp λprog w A R s h=>by
 obtain⟨hp,g,d,tk,os⟩:=s;obtain⟨hl,h⟩:=h;obtain⟨⟨c,dct,dt,sl⟩,hg,hc,n,hd⟩:=id hl
 replace hc:c= .type "tuple":=hc
 replace hd:dt= .seq xs n:=hd
 subst hc hd;have hsub:=sub_enumerate;have e1:vX true (Shared.heap ⟨hp,g,d,tk,os⟩) l xs:=hl
 wp_walk using aI4 hg
 refine wpAny_stack_any λst=>aL ?_
 split
 .rename_i c _ _ _ _ _
  cases (c==Value.type "enumerate")<;>(wp_walk using aI4 hg,aE0 e1;exact⟨_,rfl,h⟩)
 .wp_walk using aI4 hg,aE0 e1
  exact⟨_,rfl,h⟩
section
variable {prog:Program}{w:World}{A:Around}{E:Value->Shared->Prop}{s:Shared}
theorem cW2 {T:Bool}{l:Addr}{xs:Array Value}{Q:Value->Shared->Prop}(hl:vX T s.heap l xs)
  (h: ∀h' e it,e≠it->s.heap.objs.size<=e->s.heap.objs.size<=it->ESt T e it l 0 h'->(∀c o,s.heap.get? c=some o->h'.get? c=some o)->Q (.ref e) {s with heap:=h'}) :
  wpAny (model prog w) A (call (.type "enumerate") [.ref l]) Q E s:=by
 cases T with
 | false=>exact call_enumerate_list hl λh' he hit hsz k=>h h' _ _ aa aa aa ⟨⟨_,he⟩,hit⟩ k
 | true=>
  refine callType_new PySem.F.called_enumerate ac (PySem.F.typeCall_enumerate_1 _) (PySem.F.newCall_enumerate_1 _) (λobj=>PySem.F.args_object_init_2 obj _) PySem.F.entry_enumerate_new (cW1 l xs) ⟨hl,?_⟩
  have z1:(s.heap.push<|a72 true l).objs.size=s.heap.objs.size+1:=jA ..;have he:IsEnum ((s.heap.push<|a72 true l).push {cls:= .type "enumerate",data:= .fields #[.none,.bool false,.ref s.heap.objs.size,rawInt 0,.none,.none]}) (s.heap.push<|a72 true l).objs.size s.heap.objs.size 0 .none:=cA _ rfl
  have hi:vY true ((s.heap.push<|a72 true l).push {cls:= .type "enumerate",data:= .fields #[.none,.bool false,.ref s.heap.objs.size,rawInt 0,.none,.none]}) s.heap.objs.size l 0:=(vY.new (T:=true) s.heap l).at λo e=>aU _ e
  exact⟨⟨_,he,rfl⟩,h _ _ _ (by rw[z1];omega) (by rw[z1];omega) (aF _) ⟨⟨_,he⟩,hi⟩ λc o e=>aU _ (aU _ e)⟩
end
section
variable {X:Cx}
def iEnum (K:Frag)(ta:TA):TI:=λσ H R=>ta σ H λvs H1=> ∃l T xs,vs=[.ref l]/\SqV K T H1 l xs/\R (Ite K T l) H1
theorem dK8 {a:Expr}{ta:TA}(hg:Gl X "enumerate")(hm:X.mg "enumerate"=none)(ha:PA X [a] ta)(hs:↥(starEach [a] X.env=[(false,eval a X.env)])) :
  PI X (.Tuple elts kt tp) (.Call (.Name "enumerate" p) [a] [] pos) (iEnum X.K ta):=by
 intro pins s σ H R I h;refine Call_ (uI I hg hm PyProof.Rows.boot_enumerate<|jW (thn (ha pos pins s σ H _ I h) λus s1 ⟨vs,H1,I1,r1,q1⟩=> ?_) hs rfl)
 obtain⟨l,T,xs,e,q1,q⟩:=q1;subst e;obtain⟨u,rfl,r⟩:=vals1 r1;cases r;obtain⟨is1,_,p1,_⟩:=I1.sq q1;refine cW2 p1 λh' e it ne f1 f2 st k=> ?_
 obtain⟨⟨old,he⟩,_⟩:=id st;refine wpAny_pyIter_enum he ?_;have lt:=p1.lt;have fr: ∀b∈[e,it],s1.heap.objs.size<=b:=λb hb=>by
  simp only[aY,dL,dQ]at hb;rcases hb with rfl|rfl
  .exact f1
  .exact f2
 exact⟨e,[e,it],_,_,H1,rfl,I1.kept (t':=s1.toks) k,cW0 ne λhb=>absurd (aZ lt<|fr l hb) (d7 _),st,λb hb=>I1.fpOk (fr b hb) (I1.hok.fresh<|fr b hb),q⟩
end
theorem b40:isSubtype (.type "range_iterator") (.type "reversed")=pure false:=by rw[qI];kernel_rfl
theorem aW5 {n:Int}(h1: -(2^31)<=n)(h2:n<2^31):Builtin.Range.rangeFitsLong n=true:=by
 simp[Builtin.Range.rangeFitsLong]
 lia
nonrec def aQ7 (n:Int):Obj:={cls:= .type "range_iterator",data:= .fields #[rawInt<|(n.toNat:Int)-1,rawInt (n.toNat:Int),rawInt<|-1]}
theorem bK2 (r:Addr)(a b c:Int)(t u v:Tok)(hc0: ¬(!(Builtin.Range.rangeFitsLong a&&Builtin.Range.rangeFitsLong b&&Builtin.Range.rangeFitsLong c&&Builtin.Range.rangeFitsLong (-c)&&Builtin.Range.rangeFitsLong (a-c)&&Builtin.Range.rangeFitsLong (Builtin.Range.rangeSize a b c)))=true) :
  Meets (Builtin.«range.__reversed__» ⟨[.ref r],[]⟩) (λ_ R s=>s.heap.get? r=some {cls:= .type "range",dict:=none,data:= .fields #[.int a t,.int b u,.int c v],slots:= #[]}/\
  R (.ok<|.ret<|Value.ref s.heap.objs.size) {s with heap:=s.heap.push {cls:=Value.type (if(Builtin.Range.rangeFitsLong a&&Builtin.Range.rangeFitsLong b&&Builtin.Range.rangeFitsLong c&&Builtin.Range.rangeFitsLong (-c)&&Builtin.Range.rangeFitsLong (a-c)&&Builtin.Range.rangeFitsLong (Builtin.Range.rangeSize a b c))=true then "range_iterator" else "longrange_iterator"),data:=Data.fields #[rawInt<|a+(Builtin.Range.rangeSize a b c-1)*c,rawInt<|Builtin.Range.rangeSize a b c,rawInt<|-c]},toks:=s.toks}):= .of_wp λprog w A R s h=>by
 obtain⟨hp,g,d,tk,os⟩:=s;obtain⟨hl,h⟩:=h
 wp_walk
 exact⟨_,rfl,h⟩
theorem b41 (r:Addr)(n:Int)(t u v:Tok)(h1: -(2^31)<=n)(h2:n<2^31):Meets (Builtin.«range.__reversed__» ⟨[.ref r],[]⟩) (λ_ R s=>IsRange s.heap r 0 n 1 t u v/\
  R (.ok<|.ret<|.ref s.heap.objs.size) {s with heap:=s.heap.push (aQ7 n)}):=by
 have e0:Builtin.Range.rangeSize 0 n 1=(n.toNat:Int):=by rw[rangeSize_one];split<;>lia
 have sm:(Builtin.Range.rangeFitsLong 0&&Builtin.Range.rangeFitsLong n&&Builtin.Range.rangeFitsLong 1&&Builtin.Range.rangeFitsLong (-1)&&Builtin.Range.rangeFitsLong (0-1)&&Builtin.Range.rangeFitsLong (Builtin.Range.rangeSize 0 n 1))=true:=by
  rw[e0,aW5 h1 h2,aW5 (n:=0) ac ac,aW5 (n:=1) ac ac,aW5 (n:= -1) ac ac,aW5 (n:=0-1) ac ac,aW5 (n:=(n.toNat:Int)) ae ae]
  rfl
 have G:=bK2 r 0 n 1 t u v (by rw[sm];decide)
 intro prog w A R s h;refine G prog w A R s ⟨h.1,?_⟩;rw[sm,a8 rfl,e0];have e1:(0:Int)+((n.toNat:Int)-1)*1=(n.toNat:Int)-1:=ae
 rw[e1];exact h.2
section
variable {prog:Program}{w:World}{A:Around}{E:Value->Shared->Prop}{s:Shared}
theorem c50 {r:Addr}{n:Int}{t u v:Tok}{Q₁:Value->Shared->Prop}(hr:IsRange s.heap r 0 n 1 t u v)(h1: -(2^31)<=n)(h2:n<2^31)
  (h:Q₁ (.ref s.heap.objs.size) {s with heap:=s.heap.push (aQ7 n)}) :
  codeAny (model prog w) A (.call (.builtin "reversed.__new__") ⟨[.type "reversed",.ref r],[]⟩) (wants Q₁ E) s:=by
 have hT:s.TypeIs (.ref r) "range":=⟨_,hr,rfl⟩;refine codeAny_of_tree ?_;show wpAny _ A.in1 (do checkBuiltinCall "reversed.__new__" ⟨[.type "reversed",.ref r],[]⟩;again (.builtin "reversed.__new__" ⟨[.type "reversed",.ref r],[]⟩)) _ _ s;refine a9 (kH (PySem.F.newCall_reversed_1 _)<|aL ⟨plainId_quiet PySem.F.plain_reversed_new _,codeAny_builtin PySem.F.entry_reversed_new ?_⟩)
 rw[Around.under_plainId PySem.F.plain_reversed_new _];unfold Builtin.«reversed.__new__»;refine a9 (kH (newClass_reversed _) ?_);try right
 refine a9 (kH (a:=()) (by first|rfl|kernel_rfl) ?_);refine a9 (kH (a:=()) (by first|rfl|kernel_rfl) ?_);try right
 refine a9 (wpAny_specialOf hT PySem.F.slot_range_reversed.lookup ?_);try right
 refine a9 (kH (PySem.F.slot_range_reversed.bind _) ?_);try right
 first
 | rw[a6<|show ¬((Value.builtin "range.__reversed__"==Value.none)=true)from bF]
 | (show wpAny _ _ (if(Value.builtin "range.__reversed__"==Value.none)=true then _ else _) _ _ _;rw[a6<|show ¬((Value.builtin "range.__reversed__"==Value.none)=true)from bF])
 refine a9 (qO ?_)
 refine a9 (m:=runValue (.call (.builtin "range.__reversed__") ⟨[.ref r],[]⟩)) (show wpAny _ _ (call (.builtin "range.__reversed__") [.ref r]) _ _ _ from lP PySem.F.slot_range_reversed hT PySem.F.entry_range_reversed (PySem.F.args_range_reversed_1 _) (b41 r n t u v h1 h2) ⟨hr,?_⟩)
 first
 | exact aL h
 | exact a9 (aL<|aL h)
theorem dK9 {r:Addr}{n:Int}{t u v:Tok}(hr:IsRange s.heap r 0 n 1 t u v)(h1: -(2^31)<=n)(h2:n<2^31)(h:Q (.ref s.heap.objs.size) {s with heap:=s.heap.push (aQ7 n)}) :
  wpAny (model prog w) A (call (.type "reversed") [.ref r]) Q E s:=by
 refine callType_other (U:="range_iterator") (Q₁:=λobj s₁=>obj= .ref s.heap.objs.size/\s₁={s with heap:=s.heap.push (aQ7 n)}) ag PySem.F.create_reversed ⟨_,_,PySem.F.mro_reversed⟩ PySem.F.made_reversed b40 (PySem.F.typeCall_reversed_1 _) (c50 hr h1 h2 ⟨rfl,rfl⟩) ?_
 rintro obj s₁ ⟨rfl,rfl⟩;exact⟨⟨_,cA _ rfl,rfl⟩,h⟩
end
section
variable {X:Cx}{tg:Expr}
def iRevR (ta:TA):TI:=λσ H R=>ta σ H λvs H1=> ∃j:Int,vs=[.int j]/\ -(2^31)<=j/\j<2^31/\R (Itd ((j.toNat:Int)-1) j.toNat) H1
theorem c51 {a:Expr}{ta:TA}{pos2:Pos}(hg:Gl X "reversed")(hm:X.mg "reversed"=none)(hg2:Gl X "range")(hm2:X.mg "range"=none)(ha:PA X [a] ta)(hs:↥(starEach [a] X.env=[(false,eval a X.env)]))
  (hs2:↥(starEach [.Call (.Name "range" p2) [a] [] pos2] X.env=[(false,eval (.Call (.Name "range" p2) [a] [] pos2) X.env)])) :
  PI X tg (.Call (.Name "reversed" p) [.Call (.Name "range" p2) [a] [] pos2] [] pos) (iRevR ta):=by
 intro pins s σ H R I h;refine Call_ (uI I hg hm PyProof.Rows.boot_reversed<|jW ?_ hs2 rfl);rw[hs2];show wpAny _ _ (spliced ((false,eval (.Call (.Name "range" p2) [a] [] pos2) X.env)::[])) _ _ s;refine Calls.spliced_cons (Call_<|uI I hg2 hm2 boot_range<|jW (thn (ha pos2 pins s σ H _ I h) λus s1 ⟨vs,H1,I1,r1,q1⟩=> ?_) hs rfl)
 obtain⟨j,e,q1,q2,q⟩:=q1;subst e;obtain⟨u,rfl,t,rfl⟩:=vals1 r1;refine call_range_1 (Calls.spliced_nil ?_);have I2:Inv X pins σ H1 {s1 with heap:=s1.heap.push {cls:= .type "range",data:= .fields #[.int 0 s1.toks,.int j t,.int 1<|s1.toks+1]},toks:=s1.toks+1+1}:=I1.kept λb o e=>aU _ e
 refine dK9 (IsRange.new ..) q1 q2 ?_
 have hi:IsRangeIter (((s1.heap.push {cls:= .type "range",data:= .fields #[.int 0 s1.toks,.int j t,.int 1<|s1.toks+1]})).push<|aQ7 j) (s1.heap.push {cls:= .type "range",data:= .fields #[.int 0 s1.toks,.int j t,.int 1<|s1.toks+1]}).objs.size ((j.toNat:Int)-1) (j.toNat:Int) (-1):=cA _ rfl;refine aJ0 hi ?_
 refine⟨_,[(s1.heap.push {cls:= .type "range",data:= .fields #[.int 0 s1.toks,.int j t,.int 1<|s1.toks+1]}).objs.size],_,_,H1,rfl,I2.kept (t':=s1.toks+1+1) λb o e=>aU _ e,bO9 _ ((j.toNat:Int)-1) j.toNat,?_,λb hb=> ?_,q⟩
 .show IsRangeIter _ _ (((j.toNat:Int)-1)+((0:Nat):Int)*(-1)) ((j.toNat:Int)-((0:Nat):Int)) (-1)
  have e1:((j.toNat:Int)-1)+((0:Nat):Int)*(-1)=(j.toNat:Int)-1:=af
  have e2:(j.toNat:Int)-((0:Nat):Int)=(j.toNat:Int):=af
  rw[e1,e2];exact hi
 .have e:b=(s1.heap.push {cls:= .type "range",data:= .fields #[.int 0 s1.toks,.int j t,.int 1<|s1.toks+1]}).objs.size:=by exists hb
  subst e;exact I2.fpOk (aF _) (I2.hok.fresh<|aF _)
theorem d55:PGet X (rIxL X.K):=by
 intro pins s σ H o i ov iv Q I ro ri h;obtain⟨p,xs,k,z,rfl,rfl,hq,he,q⟩:=h;cases ro;obtain⟨t,rfl⟩:=ri;obtain⟨its,r,pl,hz⟩:=I.list hq;obtain⟨j,h1,h2,h3,h4,h5⟩:=b60 he;obtain⟨w,ew,rw'⟩:=r.get h2;have hl:=r.length;have hn:=aV5;have fin:EP X pins σ Q w s:=⟨z,H,I,rw',q⟩
 by_cases h0:0<=k
 .have hj:k.toNat=j:=by
   rw[a01 h0 h5]at h1;exact gQ h1
  exact wpAny_getItem_list pl.isList h0 ae (by rw[hj];exists ew) fin
 .have hj:(k+(its.toArray.size:Int)).toNat=j:=by
   rw[zV ae h4]at h1
   rw[bB,<-hl];exact gQ h1
  exact wpAny_getItem_list_neg pl.isList ae (by rw[bB]<;>lia) ae (by rw[hj];exists ew) fin
end
end L2
namespace HT
open PySem PyProof.Rows
section
variable {prog:Program}{w:World}{A:Around}{E:Value->Shared->Prop}{s:Shared}
theorem getItem_tuple_whole {lo:Option Int}(ht:IsTup s.heap t items)(hs:s.heap.IsSliceOf sl vl vu .none)(pl:IsPart vl lo)(pu:IsPart vu hi)
  (hw:sIx items.size 0 lo=0/\sIx items.size items.size hi=items.size) (h:Q (.ref t) s):wpAny (model prog w) A (getItem (.ref t)<|.ref sl) Q E s:=by
 obtain⟨os,hos,hcs,hds⟩:=id hs;have hTs:s.TypeIs (.ref sl) "slice":=⟨os,hos,hcs⟩;unfold getItem;try with_reducible refine jB ?_
 first|refine a9 (aL ?_)|skip
 refine a9 (wpAny_sequenceKey ht.typeIs ac ?_)
 refine a9 (kZ (name:=Str.ofString "__getitem__") ht.typeIs yT<|j8 yT ht.typeIs entry_tuple_getitem ?_<|args_tuple_getitem _ _)
 show wpAny _ _ (Builtin.Tuple.tupleItemsOf (.ref t) >>= _) _ _ s
 refine a9 (tupleItemsOf_ ht ?_)
 refine a9 (zU hTs ?_)
 rw[a8 ac]
 refine a9 (yB hs pl pu ?_)
 have hyes:(((sIx items.size 0 lo:Nat):Int)==0&&(1:Int)==1&&(sIx items.size items.size hi-sIx items.size 0 lo)==items.size)=true:=by
  rw[hw.1,hw.2];simp
 show wpAny _ _ (if(((sIx items.size 0 lo:Nat):Int)==0&&(1:Int)==1&&(sIx items.size items.size hi-sIx items.size 0 lo)==items.size)=true then _ else _) _ _ s
 rw[a8 hyes];show wpAny _ _ (Builtin.Tuple.tupleIsExact (.ref t) >>= _) _ _ s;unfold Builtin.Tuple.tupleIsExact;refine a9 (a9<|zU ht.typeIs<|aL ?_);show wpAny _ _ (if(Value.type "tuple"==Value.type "tuple")=true then _ else _) _ _ s;rw[a8 ac]
 refine a9 (qO ?_)
 first
  | exact aL ⟨_,rfl,aL h⟩
  | exact a9 (aL<|aL ⟨_,rfl,aL h⟩)
  | exact a9 (aL ⟨_,rfl,aL h⟩)
end
end HT
namespace L2
section
variable {X:Cx}
def rSlW (K:Frag):V->Option Int->Option Int->Hp->VK->Prop:=λx lo hi H Q=> ∃a xs,x= .ref a/\SqT K H a xs/\(HT.sIx xs.length 0 lo=0/\HT.sIx xs.length xs.length hi=xs.length)/\Q (.ref a) H
theorem d56:SlR X (rSlW X.K):=by
 intro pins s σ H x v vl vu lo hi sl Q I rx hs pl pu h;obtain⟨a,xs,rfl,hx,hw,q⟩:=h;cases rx;obtain⟨its,r,ht,hz⟩:=I.tuple hx;have hlen:its.toArray.size=xs.length:=by rw[bB];exact r.length.symm
 exact⟨"tuple",_,PyProof.Rows.slot_tuple_getitem.lookup,ht.typeIs,HT.getItem_tuple_whole ht hs pl pu (by rw[hlen];exact hw) ⟨.ref a,H,I,rfl,q⟩⟩
end
end L2
namespace M
section
variable {X:Cx}{K:Frag}{A:AS}{H:Hp}{e a b:Expr}{te ti:UE}{pos p2:Pos}{C:C0}{ρ ρ':Ev}{σ:L2.St}
def gSlT (d:D)(lo hi:Option Int)(Q:B->Prop):Prop:=match d with
 | .tup l=>Q (.pu<|.tup<|cutD l lo hi)
 | .lst l=>Q (.ow<|cutD l lo hi)
 | .rol l=>Q (.ow<|cutD l lo hi)
 | _=>False
def uSlT (t:UE)(tl th:UO):UE:=λρ Q=>t ρ λb0 ρ1=>tl ρ1 λlo ρ2=>th ρ2 λhi ρ3=>gSlT b0.d lo hi λb=>Q b ρ3
theorem cW3 (l:List D)(lo hi:Option Int)(h:HT.sIx l.length 0 lo=0/\HT.sIx l.length l.length hi=l.length):cutD l lo hi=l:=by
 unfold cutD;rw[h.1,h.2];simp
theorem cW4 {tl th:UO}{lo hi:Option Expr}(he:PU X e te)(hl:PUO X lo tl)(hu:PUO X hi th):PU X (.Subscript e (.Slice lo hi none p2) pos) (uSlT te tl th):=
 iJ (c35 ((cN8.or d29).or d56) he hl hu) λσ H Q ⟨C,ρ,Q0,I,h,k⟩=>⟨C,ρ,_,I,h,λb0 ρ1 v H1 q f s r=>by
  have I1:=(I.frz f).same s;have rr:=r.rep λa z=>I.avF f z
  refine⟨C,ρ1,_,I1,q,λl2 ρ2 H2 q2 f2 s2=> ?_⟩
  have I2:=(I1.frz f2).same s2;refine⟨C,ρ2,_,I2,q2,λh3 ρ3 H3 q3 f3 s3=> ?_⟩
  have I3:=(I2.frz f3).same s3;have s13:=s2.trans s3;have sAll:=s.trans s13;have fAll:=f.trans (f2.trans f3);have r':Rep X.K (Av C ρ3 σ) H3 b0.d v:=rr.mono (.sub s13 λa z=>f2.av (f3.av z))
  generalize b0.d=d at r' q3;cases d with
  | tup l=>
   have r2:=r';simp only[Rep]at r';obtain⟨a,vs,rfl,c,rs⟩:=r';have hlen:=rs.length
   by_cases hw:HT.sIx l.length 0 l2=0/\HT.sIx l.length l.length h3=l.length
   .refine .inr ⟨a,vs,rfl,c.imp cO id,by rw[<-hlen];exact hw,k _ ρ3 _ _ q3 fAll sAll ?_⟩
    show Rep _ _ _ (.tup<|cutD l l2 h3) _
    rw[cW3 l l2 h3 hw];exact r2
   .exact .inl (.inr ⟨a,vs,rfl,c.imp cO id,by rw[<-hlen];exact hw,λp n=>k _ ρ3 _ _ q3 fAll (sAll.trans<|eS n _) (iW (λa z=>I3.avSome z) n<|rs.cut l2 h3)⟩)
  | lst l=>
   simp only[Rep]at r';obtain⟨a,vs,rfl,n0,c,rs⟩:=r';exact .inl (.inl ⟨a,vs,rfl,SqL.of c,λp n=>k _ ρ3 _ _ q3 fAll (sAll.trans<|eS n _) (gL sAll n<|rs.cut l2 h3)⟩)
  | rol l=>
   simp only[Rep]at r';obtain⟨a,vs,rfl,c,rs⟩:=r';exact .inl (.inl ⟨a,vs,rfl,c.imp cO id,λp n=>k _ ρ3 _ _ q3 fAll (sAll.trans<|eS n _) (gL sAll n<|rs.cut l2 h3)⟩)
  | _=>exact(show False from q3).elim⟩
def d57 (i:Nat)(f:Int->Int->Int)(ti te:UE):US:=λD ρ=>mU ρ i λ_=>ti ρ λj ρ1=>mU ρ1 i λl1=> ∃k n x,j.d= .int k/\ixN l1.length k=some n/\l1[n]? =some (.int x)/\
 te ρ1 λb ρ2=>mU ρ2 i λl=> ∃y,b.d= .int y/\D.nx (ρ2.set i<|some<|.ow<|l.set n<|.int<|f x y)
theorem dL0 {ix:Expr}{op:Operator}{f:Int->Int->Int}(i:Nat)(hx:PE X (.Name x p) (a63 i))(hi:PU X ix ti)(he:PU X e te)(hp:PIp X op (ipI f))
  (ha: ∀ov iv new,augStore ix ov iv new=(do holding [new,ov,iv] (setItem ov iv new);release [new,ov,iv] [];pure .next):=by intros;rfl):PUS X (.AugAssign (.Subscript (.Name x p) ix tpos) op e pos) (d57 i f ti te):=
 sU (dH7 hx hi d55 he hp c37 ha) λD σ H ⟨C,ρ,D0,I,h,k⟩=>by
  obtain⟨l,hl,h⟩:=mG h;obtain⟨a,vs,h1,h2,h3,h4⟩:=I.ow i l hl;refine⟨.ref a,h1,C,ρ,_,I,h,λj ρ1 w H1 q f1 s1 r1=> ?_⟩
  obtain⟨l1,hl1,kk,n,x0,ej,en,ex,q⟩:=mG q;have e1:=f1.ow hl1;rw[hl]at e1;cases e1;have I1:=(I.frz f1).same s1;obtain⟨a1,vs1,g1,g2,g3,g4⟩:=I1.ow i l hl1;rw[h1]at g1;cases g1;have rj:=r1.rep λa z=>I.avF f1 z
  rw[ej]at rj;have:=bL rj;subst this;obtain⟨v0,ev0,rv0⟩:=g4.get ex;have:=bL rv0;subst this;have hat:L2.atI vs1 kk=some (.int x0):=by unfold L2.atI;rw[<-g4.length,en];exact ev0
  refine⟨a,vs1,kk,_,rfl,rfl,SqL.of g2,hat,C,ρ1,_,I1,q,λb ρ2 w2 H2 q2 f2 s2 r2=> ?_⟩
  obtain⟨l2,hl2,y,eb,q2⟩:=mG q2;have e2:=f2.ow hl2;rw[hl1]at e2;cases e2;have I2:=(I1.frz f2).same s2;obtain⟨a2,vs2,k1,k2,k3,k4⟩:=I2.ow i l hl2;rw[h1]at k1;cases k1;have rb:=r2.rep λa z=>I1.avF f2 z
  rw[eb]at rb;have:=bL rb;subst this;exact⟨x0,y,rfl,rfl,a,vs2,kk,n,rfl,rfl,k2,by rw[<-k4.length];exact en,k.nx _ _ _ q2<|I2.write hl2 h1<|k4.set n<|show Rep _ _ _ _ _ by simp only[Rep]⟩
mutual
noncomputable def pd:D->Option PyData
 | .non=>some .none
 | .bl b=>some (.bool b)
 | .int i=>some (.int i)
 | .tup l=>(pdL l).map .tuple
 | .lst l=>(pdL l).map .list
 | .rol l=>(pdL l).map .list
 | .str s=>if PyData.canLay0 (.str s)=true then some (.str s)else none
 | .ty _=>none
 | .obj _ _ _=>none
 | .adr _=>none
 | .xob _ _ _ _=>none
noncomputable def pdL:List D->Option (List PyData)
 | []=>some []
 | d::r=>(pd d).bind λx=>(pdL r).map (x::·)
end
theorem c52 {d:D}{r:List D}{xs:List PyData}(h:pdL (d::r)=some xs): ∃x ys,xs=x::ys/\pd d=some x/\pdL r=some ys:=by
 simp only[pdL]at h;cases e:pd d with
 | none=>rw[e]at h;cases h
 | some x=>
  rw[e]at h;cases e2:pdL r with
  | none=>rw[e2]at h;cases h
  | some ys=>rw[e2]at h;cases h;exact⟨x,ys,rfl,rfl,rfl⟩
theorem tM {β:Type}{o:Option α}{f:α->β}{y:β}(h:o.map f=some y): ∃x,o=some x/\y=f x:=by
 cases o with
 | none=>cases h
 | some x=>cases h;exact⟨x,rfl,rfl⟩
mutual
theorem cH2: ∀(d:D) {x:PyData},pd d=some x->x.canLay0=true
 | .non,x,h=>by simp only[pd]at h;cases h;rfl
 | .bl b,x,h=>by simp only[pd]at h;cases h;rfl
 | .int i,x,h=>by simp only[pd]at h;cases h;rfl
 | .tup l,x,h=>by simp only[pd]at h;obtain⟨xs,e,rfl⟩:=tM h;simp only[PyData.canLay0];exact b65 l e
 | .lst l,x,h=>by simp only[pd]at h;obtain⟨xs,e,rfl⟩:=tM h;simp only[PyData.canLay0];exact b65 l e
 | .rol l,x,h=>by simp only[pd]at h;obtain⟨xs,e,rfl⟩:=tM h;simp only[PyData.canLay0];exact b65 l e
 | .str s,x,h=>by simp only[pd]at h;split at h;(rename_i c;cases h;exact c);cases h
 | .ty _,x,h=>by simp only[pd]at h;cases h
 | .obj _ _ _,x,h=>by simp only[pd]at h;cases h
 | .adr _,x,h=>by simp only[pd]at h;cases h
 | .xob _ _ _ _,x,h=>by simp only[pd]at h;cases h
theorem b65: ∀(l:List D) {xs:List PyData},pdL l=some xs->PyData.canLayAll0 xs=true
 | [],xs,h=>by simp only[pdL]at h;cases h;rfl
 | d::r,xs,h=>by
  obtain⟨x,ys,rfl,e1,e2⟩:=c52 h;simp only[PyData.canLayAll0,dZ];exact⟨cH2 d e1,b65 r e2⟩
end
section
variable {pins:List (Addr×Obj)}{s:Shared}
mutual
theorem aW6 (I:Inv X pins σ H s): ∀(d:D) {x:PyData} {v:V} {u:Value},pd d=some x->Rep X.K A H d v->RelV v u-> ∃as,Reads s.heap u x as
 | .non,x,v,u,h,r,q=>by simp only[pd]at h;cases h;simp only[Rep]at r;subst r;cases q;exact⟨_,.none⟩
 | .bl b,x,v,u,h,r,q=>by simp only[pd]at h;cases h;simp only[Rep]at r;subst r;cases q;exact⟨_,.bool b⟩
 | .int i,x,v,u,h,r,q=>by simp only[pd]at h;cases h;simp only[Rep]at r;subst r;obtain⟨t,rfl⟩:=q;exact⟨_,.int i t⟩
 | .tup l,x,v,u,h,r,q=>by
  simp only[pd]at h;obtain⟨xs,e,rfl⟩:=tM h;simp only[Rep]at r;obtain⟨a,vs,rfl,c,rs⟩:=r;cases q;obtain⟨its,rv,⟨o,ho,hc,n,hd⟩,hz⟩:=I.tuple (c.imp cO id);obtain⟨as,ra⟩:=a08 I l e rs rv;exact⟨_,.tuple ho hc hd<|by exists ra⟩
 | .lst l,x,v,u,h,r,q=>by
  simp only[pd]at h;obtain⟨xs,e,rfl⟩:=tM h;simp only[Rep]at r;obtain⟨a,vs,rfl,n0,c,rs⟩:=r;cases q;obtain⟨its,rv,p,hz⟩:=I.list (SqL.of c);obtain⟨o,ho,hc,n,hd⟩:=p.isList;obtain⟨as,ra⟩:=a08 I l e rs rv;exact⟨_,.list ho hc hd<|by exists ra⟩
 | .rol l,x,v,u,h,r,q=>by
  simp only[pd]at h;obtain⟨xs,e,rfl⟩:=tM h;simp only[Rep]at r;obtain⟨a,vs,rfl,c,rs⟩:=r;cases q;obtain⟨its,rv,p,hz⟩:=I.list (c.imp cO id);obtain⟨o,ho,hc,n,hd⟩:=p.isList;obtain⟨as,ra⟩:=a08 I l e rs rv;exact⟨_,.list ho hc hd<|by exists ra⟩
 | .str i,x,v,u,h,r,q=>by simp only[pd]at h;split at h<;>cases h;simp only[Rep]at r;subst r;obtain⟨t,rfl⟩:=q;exact⟨_,.str i t⟩
 | .ty _,x,v,u,h,r,q=>by simp only[pd]at h;cases h
 | .obj _ _ _,x,v,u,h,r,q=>by simp only[pd]at h;cases h
 | .adr _,x,v,u,h,r,q=>by simp only[pd]at h;cases h
 | .xob _ _ _ _,x,v,u,h,r,q=>by simp only[pd]at h;cases h
theorem a08 (I:Inv X pins σ H s): ∀(l:List D) {xs:List PyData} {vs:List V} {us:List Value},pdL l=some xs->bY X.K A H l vs->Vals vs us-> ∃as,ReadsAll s.heap us xs as
 | [],xs,vs,us,h,r,q=>by simp only[pdL]at h;cases h;have:=r.unnil;subst this;cases q;exact⟨_,.nil⟩
 | d::l,xs,vs,us,h,r,q=>by
  obtain⟨x,ys,rfl,e1,e2⟩:=c52 h;obtain⟨v,vr,rfl,r1,rs⟩:=r.uncons;cases q with
  | cons q1 q2=>
   obtain⟨as,h1⟩:=aW6 I d e1 r1 q1;obtain⟨bs,h2⟩:=a08 I l e2 rs q2;exact⟨_,.cons h1 h2⟩
end
end
def gEqD (neg:Bool)(d e:D)(Q:B->Prop):Prop:= ∃p q,pd d=some p/\pd e=some q/\p.depth<=60/\Q (.pu<|.bl<|neg ^^ p.eqv q)
theorem ou_eqD (hu:X.A.units+64<cLine):OpU X (compareOp .Eq) (gEqD false):=by
 intro A H d e v w Q0 Q hA r1 r2 g k;obtain⟨p,q,e1,e2,hd,g⟩:=g;refine⟨λx y H Q=> ∃(A:AS) (d e:D) (p q:PyData),Rep X.K A H d x/\Rep X.K A H e y/\pd d=some p/\pd e=some q/\p.depth<=60/\Q (.bl<|p.eqv q) H,?_,A,d,e,p,q,r1,r2,e1,e2,hd,k _ _ H g (.refl _) (by rw[lK];exact mW)⟩
 rintro pins s σ H x y v u Q I rx ry ⟨A,d,e,p,q,r1,r2,e1,e2,hd,h⟩;obtain⟨as,ra⟩:=aW6 I d e1 r1 rx;obtain⟨bs,rb⟩:=aW6 I e e2 r2 ry;exact SeqAt.compareEq_reads ra rb (cH2 d e1) (cH2 e e2) ae ⟨.bl _,H,I,rfl,h⟩
def SqA (K:Frag)(A:AS)(H:Hp)(T:Bool)(a:Addr)(vs:List V):Prop:=match T with
 | false=>(¬A a/\Rd H a (.lst vs))\/KL K a vs
 | true=>(¬A a/\Rd H a (.tup vs))\/KT K a vs
theorem SqA.sqv {a':Addr}{vs:List V}{A':AS}{H':Hp}(c:SqA K A H T a' vs)(P:nE A H A' H'):SqV K T H' a' vs:=by
 cases T<;>(rcases c with⟨n,c⟩|c;exact .inl (Rd.pres P n c).2;exact .inr c)
theorem nE.self:nE A H A H:=λ_ _ n e=>⟨n,e⟩
theorem Rep.sq {d:D}{v:V}{l:List D}(r:Rep K A H d v)(h:pP d=some l): ∃T a vs,v= .ref a/\SqA K A H T a vs/\bY K A H l vs:=by
 cases d with
 | tup l'=>cases h;simp only[Rep]at r;obtain⟨a,vs,e,c,r⟩:=r;exact⟨true,a,vs,e,c,r⟩
 | lst l'=>cases h;simp only[Rep]at r;obtain⟨a,vs,e,n,c,r⟩:=r;exact⟨false,a,vs,e,.inl ⟨n,.inl c⟩,r⟩
 | rol l'=>cases h;simp only[Rep]at r;obtain⟨a,vs,e,c,r⟩:=r;exact⟨false,a,vs,e,c,r⟩
 | _=>cases h
theorem bY.at {l:List D}{vs:List V}(r:bY K A H l vs)(hi:i<l.length): ∃x,vs[i]? =some x/\Rep K A H (l.getD i .non) x:=r.get (by rw[aJ,aP hi];rfl)
theorem d58 {vs ws:List V}{l m:List D}(c1:SqA K A H T1 l1 vs)(c2:SqA K A H T2 l2 ws)(r1:bY K A H l vs)(r2:bY K A H m ws) :
  c43 K A H (Itz K T1 T2 l1 l2) (min l.length m.length) (λi=> .tup [l.getD i .non,m.getD i .non]):=by
 have k1:=r1.length;have k2:=r2.length;refine⟨λA' H' i P hi=> ?_,λA' H' i x H'' P hA hi y=> ?_,λA' H' P=>⟨vs,ws,c1.sqv P,c2.sqv P,ae⟩⟩
 .obtain⟨x,e1,_⟩:=r1.at (i:=i) ae
  obtain⟨y,e2,_⟩:=r2.at (i:=i) ae
  exact⟨vs,ws,x,y,c1.sqv P,c2.sqv P,e1,e2⟩
 .obtain⟨x1,e1,q1⟩:=r1.at (i:=i) ae
  obtain⟨y1,e2,q2⟩:=r2.at (i:=i) ae
  obtain⟨T,a,b,rfl,hT,rfl,ha,hb⟩:=y;have ea:=ha vs (c1.sqv P);have eb:=hb ws (c2.sqv P);rw[e1]at ea;cases ea;rw[e2]at eb;cases eb;exact⟨eS hT _,iW hA hT<|.cons (q1.mono P)<|.cons (q2.mono P) .nil⟩
theorem cW5 {vs:List V}{l:List D}(c1:SqA K A H T l1 vs)(r1:bY K A H l vs):c43 K A H (Ite K T l1) l.length (λi=> .tup [.int (i:Int),l.getD i .non]):=by
 have k1:=r1.length;refine⟨λA' H' i P hi=> ?_,λA' H' i x H'' P hA hi y=> ?_,λA' H' P=>⟨vs,c1.sqv P,k1.symm⟩⟩
 .obtain⟨x,e1,_⟩:=r1.at hi;exact⟨vs,x,c1.sqv P,e1⟩
 .obtain⟨x1,e1,q1⟩:=r1.at hi;obtain⟨T,a,rfl,hT,rfl,ha⟩:=y;have ea:=ha vs (c1.sqv P);rw[e1]at ea;cases ea;exact⟨eS hT _,iW hA hT<|.cons (show Rep _ _ _ _ _ by simp only[Rep])<|.cons (q1.mono P) .nil⟩
def uZip (ta:UA):UI:=λρ Q=>ta ρ λds ρ1=>match ds with
 | [d,e]=>(match pP d,pP e with
  | some l,some m=>Q (min l.length m.length) (λi=> .tup [l.getD i .non,m.getD i .non]) ρ1
  | _,_=>False)
 | _=>False
theorem ui_zip {ta:UA}(hg:Gl X "zip")(hm:X.mg "zip"=none)(ha:PUA X [a,b] ta)(hs:↥(starEach [a,b] X.env=[(false,eval a X.env),(false,eval b X.env)]))(hs2:↥(starEach [b] X.env=[(false,eval b X.env)])) :
  PUI X (.Tuple elts kt tp) (.Call (.Name "zip" p) [a,b] [] pos) (uZip ta):=
 b11 (pi_zip hg hm ha hs hs2) λσ H R ⟨C,ρ,Q0,I,h,k⟩=>⟨C,ρ,_,I,h,λds ρ1 vs H1 q f s r=>by
  split at q
  .rename_i d e
   obtain⟨v,vr,rfl,rv,rr⟩:=r.uncons;obtain⟨w,wr,rfl,rw',rr'⟩:=rr.uncons;have:=rr'.unnil;subst this;split at q
   .rename_i l m e1 e2
    obtain⟨T1,a1,us,rfl,c1,s1⟩:=rv.sq e1;obtain⟨T2,a2,ws,rfl,c2,s2⟩:=rw'.sq e2;exact⟨a1,a2,T1,T2,us,ws,rfl,c1.sqv .self,c2.sqv .self,k _ _ ρ1 _ H1 q f s<|d58 c1 c2 s1 s2⟩
   .exact q.elim
  .exact q.elim⟩
def cO6 (ta:UA):UI:=λρ Q=>ta ρ λds ρ1=>match ds with
 | [d]=>(match pP d with
  | some l=>Q l.length (λi=> .tup [.int (i:Int),l.getD i .non]) ρ1
  | none=>False)
 | _=>False
theorem cO7 {ta:UA}(hg:Gl X "enumerate")(hm:X.mg "enumerate"=none)(ha:PUA X [a] ta)(hs:↥(starEach [a] X.env=[(false,eval a X.env)])) :
  PUI X (.Tuple elts kt tp) (.Call (.Name "enumerate" p) [a] [] pos) (cO6 ta):=
 b11 (dK8 hg hm ha hs) λσ H R ⟨C,ρ,Q0,I,h,k⟩=>⟨C,ρ,_,I,h,λds ρ1 vs H1 q f s r=>by
  split at q
  .rename_i d
   obtain⟨v,vr,rfl,rv,rr⟩:=r.uncons;have:=rr.unnil;subst this;split at q
   .rename_i l e1
    obtain⟨T1,a1,us,rfl,c1,s1⟩:=rv.sq e1;exact⟨a1,T1,us,rfl,c1.sqv .self,k _ _ ρ1 _ H1 q f s<|cW5 c1 s1⟩
   .exact q.elim
  .exact q.elim⟩
def d59 (ta:UA):UI:=λρ Q=>ta ρ λds ρ1=>match ds with
 | [.int j]=>(-(2^31)<=j/\j<2^31)/\Q j.toNat (λk=> .int ((j.toNat:Int)-1-k)) ρ1
 | _=>False
theorem dL1 {ta:UA}{q2 pos2:Pos}(hg:Gl X "reversed")(hm:X.mg "reversed"=none)(hg2:Gl X "range")(hm2:X.mg "range"=none)(ha:PUA X [a] ta)(hs:↥(starEach [a] X.env=[(false,eval a X.env)]))
  (hs2:↥(starEach [.Call (.Name "range" q2) [a] [] pos2] X.env=[(false,eval (.Call (.Name "range" q2) [a] [] pos2) X.env)])) :
  PUI X tg (.Call (.Name "reversed" p) [.Call (.Name "range" q2) [a] [] pos2] [] pos) (d59 ta):=
 b11 (c51 hg hm hg2 hm2 ha hs hs2) λσ H R ⟨C,ρ,Q0,I,h,k⟩=>⟨C,ρ,_,I,h,λds ρ1 vs H1 q f s r=>by
  split at q
  .rename_i j
   obtain⟨v,vr,rfl,rv,rr⟩:=r.uncons;have:=rr.unnil;subst this;have:=bL rv;subst this;obtain⟨⟨h1,h2⟩,q⟩:=q;exact⟨j,rfl,h1,h2,k _ _ ρ1 _ H1 q f s bP1⟩
  .exact q.elim⟩
end
end M
end
section
namespace L2
theorem aW7:fillsNumberSlot (.type "tuple") "mul"=pure false:=
 PySem.fillsNumberSlot_seq (id:="tuple.__mul__") (r:=some (.builtin "tuple.__rmul__")) PySem.F.slot_tuple_mul.lookup ag PySem.F.slot_tuple_rmul.lookup ag
theorem bV8:seqRepeat? (.type "tuple")=pure (some<|.builtin "tuple.__mul__"):=by
 unfold seqRepeat?;rw[PySem.seqSlot_of (T:="tuple") (name:="__mul__") (id:="tuple.__mul__") PySem.F.slot_tuple_mul.lookup ag,PySem.seqSlot_of (T:="tuple") (name:="__rmul__") (id:="tuple.__rmul__") PySem.F.slot_tuple_rmul.lookup ag]
 rfl
theorem bA0 (a:Int)(t:Tok)(l:Addr)(items:Array Value)(n:Nat)(dd:Option Addr)(sl:Array (Option Value)) :
  Meets (Builtin.«int.__rmul__» ⟨[.int a t,.ref l],[]⟩) (λ_ R s=>s.heap.get? l=some {cls:= .type "tuple",dict:=dd,data:= .seq items n,slots:=sl}/\R (.ok<|.ret Value.notImplemented) s):=
 .of_wp λprog w A R s h=>by obtain⟨hp,g,d,tk,os⟩:=s;obtain⟨hl,h⟩:=h;wp_walk using k8 hl;exact⟨_,rfl,h⟩
theorem d60 (l:Addr)(items:Array Value)(n:Nat)(dd:Option Addr)(sl:Array (Option Value))(u:Tok) :
  Meets (Builtin.«tuple.__mul__» ⟨[.ref l,.int 1 u],[]⟩) (λ_ R s=>s.heap.get? l=some {cls:= .type "tuple",dict:=dd,data:= .seq items n,slots:=sl}/\R (.ok<|.ret<|.ref l) s):=
 .of_wp λprog w A R s h=>by
  obtain⟨hp,g,d,tk,os⟩:=s;obtain⟨hl,h⟩:=h;have f1:=aL6
  wp_walk using k8 hl
  exact⟨_,rfl,h⟩
theorem d61 (l:Addr)(items:Array Value)(n:Nat)(dd:Option Addr)(sl:Array (Option Value))(k:Int)(u:Tok)(h1: ¬(k< -(2^63)||k≥2^63)=true)(hne: ¬(items.isEmpty||k==1)=true)(h0:(k<=0||items.isEmpty)=true) :
  Meets (Builtin.«tuple.__mul__» ⟨[.ref l,.int k u],[]⟩) (λ_ R s=>s.heap.get? l=some {cls:= .type "tuple",dict:=dd,data:= .seq items n,slots:=sl}/\R (.ok<|.ret<|.ref s.heap.objs.size) {s with heap:=s.heap.push {cls:= .type "tuple",data:= .seq #[]}}):=
 .of_wp λprog w A R s h=>by
  obtain⟨hp,g,d,tk,os⟩:=s;obtain⟨hl,h⟩:=h;have f1:=aL6
  wp_walk using k8 hl
  rw[a6 h1]
  wp_walk using k8 hl
  exact⟨_,rfl,h⟩
theorem d62 (l:Addr)(items:Array Value)(n:Nat)(dd:Option Addr)(sl:Array (Option Value))(k:Int)(u:Tok)(h1: ¬(k< -(2^63)||k≥2^63)=true)(hne: ¬(items.isEmpty||k==1)=true)(h0: ¬(k<=0||items.isEmpty)=true)
  (h2: ¬items.size*k>(2^63-1)/8) (h3: ¬Builtin.Tuple.tupleTooMany (items.size*k)=true) (hz:(foldl (λx1 x2=>x1++x2) #[] (replicate k.toNat items)).size<=sizeLine) :
  Meets (Builtin.«tuple.__mul__» ⟨[.ref l,.int k u],[]⟩) (λ_ R s=>s.heap.get? l=some {cls:= .type "tuple",dict:=dd,data:= .seq items n,slots:=sl}/\R (.ok<|.ret<|.ref s.heap.objs.size) {s with heap:=s.heap.push {cls:= .type "tuple",data:= .seq (foldl (λx1 x2=>x1++x2) #[] (replicate k.toNat items))}}):=
 .of_wp λprog w A R s h=>by
  obtain⟨hp,g,d,tk,os⟩:=s;obtain⟨hl,h⟩:=h;have f1:=aL6
  wp_walk using k8 hl
  rw[a6 h1]
  wp_walk using k8 hl
  rw[a6 h2]
  wp_walk using k8 hl
  all_goals first
   | exact⟨_,rfl,h⟩
   | (refine wpAny_ite_false (gC<|Nat.not_lt.mpr hz) ?_
      wp_walk using k8 hl
      exact⟨_,rfl,h⟩)
section
variable {X:Cx}
theorem dL2:OpR X (binaryOp .Mult) (λx y H Q=> ∃a k xs,x= .ref a/\y= .int k/\SqT X.K H a xs/\xs≠[]/\ -(2^63)<=k/\k<2^63/\xs.length*k.toNat<=sizeLine/\(k=1->Q (.ref a) H)/\(k≠1-> ∀p,H p=none->Q (.ref p) (upd H p<|.tup (replicate k.toNat xs).flatten))):=by
 intro pins s σ H x y v u Q I rx ry h;obtain⟨a,k,xs,rfl,rfl,ha,hn,h1,h2,hz,q1,q2⟩:=h;cases rx;obtain⟨t,rfl⟩:=ry;obtain⟨its,r,p1,_⟩:=I.tuple ha;have hl:=r.length;obtain⟨⟨cls,dd,data,sl⟩,ho,hc,n,hd⟩:=id p1;simp only at hc hd;subst hc hd;have ne:its≠[]:=λz=>hn (tU.mp (by rw[hl,z];rfl))
 have ne2:its.toArray.isEmpty=false:=by cases its with
  | nil=>exact absurd rfl ne
  | cons b r'=>rfl
 have hb: ¬(decide (k< -(2^63))||decide (k≥2^63))=true:=by simp;omega
 have f0: ∀m:Nat,foldl (λx1 x2=>x1++x2) #[] (replicate m its.toArray)=(replicate m its).flatten.toArray:=λm=>by
  have:=foldl_rep its m [];rw[zO]at this;exact this
 refine wpAny_binaryOp_repeat_ref (T:="tuple") (U:="int") ac ⟨_,ho,rfl⟩ (λs'=>qN s' k t) aW7 PySem.F.fills_int_mul PySem.F.slot_int_rmul bV8 PySem.F.slot_int_index.lookup
  (lP PySem.F.slot_int_rmul (qN s k t) PySem.F.entry_int_rmul (PySem.F.args_int_rmul_2 _ _) (bA0 k t a its.toArray n dd sl) ⟨ho,rfl,⟨_,ho,rfl⟩,?_⟩)
 by_cases k1:k=1
 .subst k1;exact lP aJ4 ⟨_,ho,rfl⟩ aI8 (aI5 _ _) (d60 a its.toArray n dd sl t) ⟨ho,.ref a,H,I,rfl,q1 rfl⟩
 have hne: ¬(its.toArray.isEmpty||k==1)=true:=by rw[ne2];exists k1
 by_cases k0:k<=0
 .have e0:k.toNat=0:=aa
  refine lP aJ4 ⟨_,ho,rfl⟩ aI8 (aI5 _ _) (d61 a its.toArray n dd sl k t hb hne<|by simp[k0]) ⟨ho,?_⟩
  have q:=q2 k1;rw[e0]at q;exact⟨.ref _,_,I.laid (t':=s.toks) (o:= .tup []) (λb ob q=>aU _ q) (aF _) ⟨dO _,_,.nil,uH _ _⟩,rfl,q _ I.fresh⟩
 .have ek:k=(k.toNat:Int):=aa
  have em:(its.toArray.size:Int)*k=((its.toArray.size*k.toNat:Nat):Int):=by rw[aM0,<-ek]
  have hs:its.toArray.size*k.toNat<=sizeLine:=by rw[bB,<-hl];exact hz
  have hcap:(sizeLine:Nat)<=(2^63-1)/8:=ac
  refine lP aJ4 ⟨_,ho,rfl⟩ aI8 (aI5 _ _) (d62 a its.toArray n dd sl k t hb hne (by rw[ne2];simp;omega) (by rw[em];omega) (by rw[em];unfold Builtin.Tuple.tupleTooMany;rw[gB];omega) (by rw[f0,bB,bU7,zW];exists hs)) ⟨ho,?_⟩
  rw[f0];exact⟨.ref _,_,I.laid (t':=s.toks) (o:= .tup (replicate k.toNat xs).flatten) (λb ob q=>aU _ q) (aF _) ⟨by rw[bU7,zW];exact hz,_,r.rep k.toNat,uH _ _⟩,rfl,q2 k1 _ I.fresh⟩
end
theorem d63:typeLookup (.type "tuple") "__reversed__"=pure none:=by rw[zQ,zB];kernel_rfl
theorem sub_tuple_dict:isSubtype (.type "tuple") (.type "dict")=pure false:=by rw[qI];kernel_rfl
theorem bP3:Manifest.owners.lookup (String.ofList ['d','e','s','r','e','v','e','r'].reverse)=some Manifest.sig_reversed:=by kernel_rfl
theorem nG:Slot "reversed" "__next__" "reversed.__next__":=
 .of (owner:="reversed") (n:="__next__") (by rw[zQ,zB];kernel_rfl) ag ag ag
  (by first|exact .inl ag|exact .inr ag) (by rw[qI];kernel_rfl)
theorem a73:entryFor table "reversed.__next__"=some Builtin.«reversed.__next__» :=entryFor_of_tree (by kernel_rfl)
theorem a47 (a:Value):argsOk "reversed.__next__" ⟨[a],[]⟩:=by
 unfold argsOk;rw[signature?_of (id:="reversed.__next__") (n:=['_','_','t','x','e','n','_','_']) (o:=['d','e','s','r','e','v','e','r']) (by kernel_rfl) bP3];kernel_rfl
theorem aF7:Slot "reversed" "__iter__" "reversed.__iter__":=
 .of (owner:="reversed") (n:="__iter__") (by rw[zQ,zB];kernel_rfl) ag ag ag
  (by first|exact .inl ag|exact .inr ag) (by rw[qI];kernel_rfl)
theorem b42 (a:Value):argsOk "reversed.__iter__" ⟨[a],[]⟩:=by
 unfold argsOk;rw[signature?_of (id:="reversed.__iter__") (n:=['_','_','r','e','t','i','_','_']) (o:=['d','e','s','r','e','v','e','r']) (by kernel_rfl) bP3];kernel_rfl
theorem bA1:entryFor table "reversed.__iter__"=some Builtin.«dict_keyiterator.__iter__» :=
 entryFor_alias (id':="dict_keyiterator.__iter__") (by kernel_rfl) (by first|rfl|decide +kernel| (unfold String.splitOn;simp +decide [String.splitOnAux])) ag (by kernel_rfl)
theorem bK3:Slot "reversed" "__init__" "object.__init__":=
 .of (owner:="object") (n:="__init__") (by rw[zQ,zB];kernel_rfl) ag ag ag
  (by first|exact .inl ag|exact .inr ag) (by rw[qI];kernel_rfl)
theorem cH3:TypeCalled "reversed" "reversed.__new__" "object.__init__":=
 ⟨ag,ag,⟨_,_,PySem.F.mro_reversed⟩,PySem.F.made_reversed,ag,by rw[qI];kernel_rfl,bK3⟩
theorem dL3 (l:Addr)(items:Array Value)(hfit:(items.size:Int)<2^63) :
  Meets (Builtin.«reversed.__new__» ⟨[.type "reversed",.ref l],[]⟩) (λ_ R s=>s.heap.IsTuple l items/\R (.ok<|.ret<|.ref s.heap.objs.size) {s with heap:=s.heap.push {cls:= .type "reversed",data:= .fields #[.ref l,rawInt<|(items.size:Int)-1]},toks:=s.toks+1+1}):=
 .of_wp λprog w A R s h=>by
  obtain⟨hp,g,d,tk,os⟩:=s;obtain⟨ht,h⟩:=h;obtain⟨⟨c,dct,dt,sl⟩,hl,hc,n,hd⟩:=id ht
  replace hc:c= .type "tuple":=hc
  replace hd:dt= .seq items n:=hd
  subst hc hd;have f1:=PySem.F.sub_reversed_self;have f2:=d63;have f4:=PySem.F.slot_tuple_getitem.lookup;have f5:=sub_tuple_dict;have e1:IsTup (Shared.heap ⟨hp,g,d,tk,os⟩) l items:=ht
  wp_walk using k8 hl,PyProof.Rows.len_tuple e1 hfit
  exact⟨_,rfl,h⟩
def uS (h:Heap)(a l:Addr)(i:Int):Prop:= ∃o,h.get? a=some o/\o.cls= .type "reversed"/\o.data= .fields #[.ref l,rawInt i]
theorem uS.at {i:Int}(x:uS h a l i)(e: ∀o,h.get? a=some o->h'.get? a=some o):uS h' a l i:=let ⟨o,ho,r⟩:=x;⟨o,e _ ho,r⟩
section
variable {prog:Program}{w:World}{A:Around}{E:Value->Shared->Prop}{s:Shared}
theorem uS.typeIs {i:Int}(x:uS s.heap a l i):s.TypeIs (.ref a) "reversed":=let ⟨o,ho,hc,_⟩:=x;⟨o,ho,hc⟩
theorem d64 (hl:s.heap.IsTuple l items)(hfit:(items.size:Int)<2^63)
  (h:Q (.ref s.heap.objs.size) {s with heap:=s.heap.push {cls:= .type "reversed",data:= .fields #[.ref l,rawInt<|(items.size:Int)-1]},toks:=s.toks+1+1}) :
  wpAny (model prog w) A (call (.type "reversed") [.ref l]) Q E s:=
 callType_new cH3 ac (PySem.F.typeCall_reversed_1 _) (PySem.F.newCall_reversed_1 _) (λobj=>PySem.F.args_object_init_2 obj _) PySem.F.entry_reversed_new (dL3 l items hfit) ⟨hl,⟨_,cA _ rfl,rfl⟩,h⟩
theorem bA2 {it:Addr}{i:Int}(hit:uS s.heap it l i)(h:Q (.ref it) s):wpAny (model prog w) A (pyIter<|.ref it) Q E s:=by
 refine wpAny_pyIter_slot hit.typeIs aF7 (j8 aF7 hit.typeIs bA1 ?_<|b42 _)
 show wpAny _ _ (ret<|.ref it) _ _ s
 exact aL ⟨_,rfl,"reversed",_,hit.typeIs,nG.lookup,h⟩
theorem d65 {it:Addr}{x:Value}{Q:Option Value->Shared->Prop}(hit:uS s.heap it l (i:Int))(hl:s.heap.IsTuple l items)(hx:items[i]? =some x)(hfit:(i:Int)<2^63)
  (hQ: ∀h' tk,uS h' it l ((i:Int)-1)->SameBut it s.heap h'->Q (some x) {s with heap:=h',toks:=tk}):wpAny (model prog w) A (pyNext<|.ref it) Q E s:=by
 obtain⟨o,ho,hc,hd⟩:=id hit;have hlt:i<items.size:=(Array.getElem?_eq_some_iff.mp hx).1;have hi:seqIndex? (i:Int) items.size=some i:=by
  unfold seqIndex?;simp
  lia
 have tl:s.TypeIs (.ref l) "tuple":=hl.typeIs;unfold pyNext;refine a9 (uA (kZ (name:=Str.ofString "__next__") hit.typeIs nG
  (j8 nG hit.typeIs a73 ?_<|a47 _)))
 unfold Builtin.«reversed.__next__»;refine a9 (kH (a:=(Value.ref it,[])) rfl ?_);try right
 refine a9 (cW ho hd (x:= .ref l) rfl ?_)
 refine a9 (cW ho hd (x:=rawInt (i:Int)) rfl ?_)
 show wpAny _ _ (if(i:Int)<0 then _ else _) _ _ s
 rw[a6 ae]
 try right
 refine a9 (wpAny_specialOf tl PySem.F.slot_tuple_getitem.lookup ?_)
 try right
 rw[a6 af]
 refine a9 (wpAny_mkInt ?_)
 have ht:IsTup s.heap l items:=hl;refine a9 (uA<|PyProof.Rows.getItem_tuple (s:={s with toks:=s.toks+1}) ht ae hfit hi hx ?_)
 try right
 refine a9 (cW ho hd (x:=rawInt (i:Int)) rfl ?_)
 show wpAny _ _ (setField (.ref it) 1 (rawInt<|(i:Int)-1) >>= _) _ _ _
 refine a9 (u8 ho hd af ?_)
 refine aL ⟨x,rfl,aL<|hQ _ _ ?_<|tX ..⟩
 exact⟨_,pV _ ho<|aJ6<|qB hd _,(Obj.cls_mapFields ..).trans hc,by
  rw[qB hd];simp⟩
theorem dL4 {it l:Addr}{Q:Option Value->Shared->Prop}(hh:A.handled=none)(hit:uS s.heap it l (-1))
  (hQ: ∀h',ExtBut it s.heap h'->Q none {s with heap:=h'}):wpAny (model prog w) A (pyNext<|.ref it) Q E s:=by
 obtain⟨o,ho,hc,hd⟩:=id hit;unfold pyNext;refine a9 (uA (kZ (name:=Str.ofString "__next__") hit.typeIs nG
  (j8 nG hit.typeIs a73 ?_<|a47 _)))
 unfold Builtin.«reversed.__next__»;refine a9 (kH (a:=(Value.ref it,[])) rfl ?_);try right
 refine a9 (cW ho hd (x:= .ref l) rfl ?_)
 refine a9 (cW ho hd (x:=rawInt (-1)) rfl ?_)
 show wpAny _ _ (if(-1:Int)<0 then _ else _) _ _ s
 rw[a8 ac]
 refine a9 (qO ?_)
 refine a9 ?_
 show wpAny _ _ (setField (.ref it) 1 (rawInt<|-1) >>= λ_=>setField (.ref it) 0 .none) _ _ s
 refine a9 (u8 ho hd af ?_)
 refine u8 (pV _ ho<|aJ6<|qB hd _) (qB hd _) af ?_
 first
 | show wpAny _ _ (newExc (.type "StopIteration") [] >>= _) _ _ _
 | (refine a9 ?_;show wpAny _ _ (newExc (.type "StopIteration") [] >>= _) _ _ _)
 refine a9 ?_
 simp only[newExc,newTuple];refine a9 (k7 ?_<|by size_fits)
 refine a9 (m:=firstArgMember _ _) (kH (a:=Value.none) (by first|rfl| (simp only[firstArgMember];rfl)) ?_)
 refine k7 ?_ (by size_fits)
 simp only[raiseNew];refine a9 (wpAny_handled ?_)
 first|rw[show A.in1.handled=none from hh]|rw[hh]
 refine a9 (aL<|wpAny_throw ?_)
 refine a9 (wpAny_isInstance (T:="StopIteration") (b:=true) ⟨_,cA _ rfl,rfl⟩ isSubtype_stop ?_)
 refine aL (hQ _ ?_)
 exact((((tX ..).trans<|tX ..).extBut.push _).push _)
end
nonrec def Itv (K:Frag)(l:Addr)(n:Nat):It where
 go:=λi H=>i<n/\ ∃xs,SqT K H l xs/\xs.length=n
 yld:=λi H v H'=>H'=H/\ ∀xs,SqT K H l xs->xs[n-1-i]? =some v
 stop:=λi H=>i=n
theorem d66 {it:Addr}(n:Nat)(hz:n<=sizeLine):c29 P w K tg (Itv K l n) [it] it (λi h=>uS h it l ((n:Int)-1-(i:Int))) where
 mem:=af
 obj:=λi h st b hb=>by
  have e:b=it:=by exists hb
  subst e;obtain⟨o,ho,_,hd⟩:=st;exact⟨o,ho,λv z=>by rw[hd]at z;cases z⟩
 keep:=λi h h' st k=>st.at λo e=>k it af _ e
 item:=by
  intro X hP hw hK hc i pins s σ H E I hf st hg;subst hP hw hK;obtain⟨f0,f1,f2,f3,f4,f5⟩:=hf it af
  obtain⟨hi,xs,hq,hl⟩:=hg;obtain⟨its,r,p,_⟩:=I.tuple hq;have hlen:=r.length;have hx:xs[n-1-i]? =some (xs[n-1-i]'ae):=aP ae
  obtain⟨u1,hu1,ru1⟩:=r.get hx;have e1:(n:Int)-1-(i:Int)=((n-1-i:Nat):Int):=ae
  have st':=st;rw[e1]at st';have big:(sizeLine:Int)<2^63:=ac
  refine d65 (items:=its.toArray) (x:=u1) st' p (by exists hu1) ae λh' tk hr m=> ?_
  have I1:Inv X pins σ H {s with heap:=h',toks:=tk}:=I.turned (λb o hb e=>m.extBut _ _ (by exists hb) e) f0 f1 f3 f4 f5
  have e2:((n-1-i:Nat):Int)-1=(n:Int)-1-((i+1:Nat):Int):=ae
  rw[e2]at hr;obtain⟨o,ho,hoc,hod⟩:=id hr;exact⟨_,rfl,c30 (s:={s with heap:=h',toks:=tk}) (n:="reversed") ho hoc hod ac ⟨xs[n-1-i]'ae,H,I1,ru1,⟨rfl,λys hy=>by rw[I.tuple_inj hy hq];exact hx⟩,hr,λb hb=>(hf b hb).1⟩⟩
 done:=by
  intro X hP hw hK hc i pins s σ H E I hf st hg;subst hP hw hK;obtain⟨f0,f1,f2,f3,f4,f5⟩:=hf it af
  have hg':i=n:=hg;have st':=st;rw[hg',show(n:Int)-1-(n:Int)= -1 by lia]at st'
  exact dL4 (I.ok.hd hc) st' λh' eb=>⟨rfl,I.turned (t':=s.toks) (λb o hb e=>eb b o hb e) f0 f1 f3 f4 f5⟩
 self:=λ_ _ _ _ _ st h=>bA2 st h
section
variable {X:Cx}{tg:Expr}
def iRevT (K:Frag)(ta:TA):TI:=λσ H R=>ta σ H λvs H1=> ∃l xs,vs=[.ref l]/\SqT K H1 l xs/\R (Itv K l xs.length) H1
theorem dL5 {a:Expr}{ta:TA}(hg:Gl X "reversed")(hm:X.mg "reversed"=none)(ha:PA X [a] ta)(hs:↥(starEach [a] X.env=[(false,eval a X.env)])) :
  PI X tg (.Call (.Name "reversed" p) [a] [] pos) (iRevT X.K ta):=by
 intro pins s σ H R I h;refine Call_ (uI I hg hm PyProof.Rows.boot_reversed<|jW (thn (ha pos pins s σ H _ I h) λus s1 ⟨vs,H1,I1,r1,q1⟩=> ?_) hs rfl)
 obtain⟨l,xs,e,q1,q⟩:=q1;subst e;obtain⟨u,rfl,r⟩:=vals1 r1;cases r;obtain⟨its,rv,p1,hz⟩:=I1.tuple q1;have hl:=rv.length;have big:(sizeLine:Int)<2^63:=ac
 refine d64 p1 (by rw[bB];lia) ?_
 have hi:uS (s1.heap.push {cls:= .type "reversed",data:= .fields #[.ref l,rawInt<|(its.toArray.size:Int)-1]}) s1.heap.objs.size l ((xs.length:Int)-1-((0:Nat):Int)):=⟨_,cA _ rfl,rfl,by
  rw[bB,hl];simp⟩
 refine bA2 (s:={s1 with heap:=s1.heap.push {cls:= .type "reversed",data:= .fields #[.ref l,rawInt<|(its.toArray.size:Int)-1]},toks:=s1.toks+1+1}) hi ?_
 refine⟨_,[s1.heap.objs.size],_,_,H1,rfl,I1.kept (t':=s1.toks+1+1) λb o e=>aU _ e,d66 xs.length hz,hi,λb hb=> ?_,q⟩
 have e:b=s1.heap.objs.size:=by exists hb
 subst e;exact I1.fpOk (aF _) (I1.hok.fresh<|aF _)
end
end L2
namespace M
section
variable {X:Cx}{A:AS}{H:Hp}{K:Frag}{pos:Pos}{a:Expr}
theorem cW6 {vs:List V}{l:List D}(c1:SqA K A H true l1 vs)(r1:bY K A H l vs):c43 K A H (Itv K l1 vs.length) l.length (λi=>l.getD (l.length-1-i) .non):=by
 have k1:=r1.length;refine⟨λA' H' i P hi=>⟨aa,vs,c1.sqv P,rfl⟩,λA' H' i x H'' P hA hi y=> ?_,λA' H' P=>k1⟩
 obtain⟨x1,e1,q1⟩:=r1.at (i:=l.length-1-i) aa
 obtain⟨e,ha⟩:=y;subst e;have ea:=ha vs (c1.sqv P);rw[<-k1,e1]at ea;cases ea;exact⟨.refl _,q1.mono P⟩
def cO8 (ta:UA):UI:=λρ Q=>ta ρ λds ρ1=>match ds with
 | [.tup l]=>Q l.length (λi=>l.getD (l.length-1-i) .non) ρ1
 | _=>False
theorem cO9 {ta:UA}(hg:Gl X "reversed")(hm:X.mg "reversed"=none)(ha:PUA X [a] ta)(hs:↥(starEach [a] X.env=[(false,eval a X.env)])) :
  PUI X tg (.Call (.Name "reversed" p) [a] [] pos) (cO8 ta):=
 b11 (dL5 hg hm ha hs) λσ H R ⟨C,ρ,Q0,I,h,k⟩=>⟨C,ρ,_,I,h,λds ρ1 vs H1 q f s r=>by
  split at q
  .rename_i l
   obtain⟨v,vr,rfl,rv,rr⟩:=r.uncons;have:=rr.unnil;subst this;simp only[Rep]at rv;obtain⟨a1,us,rfl,c1,s1⟩:=rv;have c2:SqA _ _ _ true a1 us:=c1;exact⟨a1,us,rfl,c2.sqv .self,k _ _ ρ1 _ H1 q f s<|cW6 c2 s1⟩
  .exact q.elim⟩
def c53 (d e:D)(Q:B->Prop):Prop:=match d,e with
 | .tup l,.int k=>(l≠[]/\ -(2^63)<=k/\k<2^63/\l.length*k.toNat<=sizeLine)/\Q (.pu<|.tup (replicate k.toNat l).flatten)
 | _,_=>False
theorem cP0:OpU X (binaryOp .Mult) c53:=by
 intro A H d e v w Q0 Q hA r1 r2 g k;unfold c53 at g;split at g
 .rename_i l kk
  have:=bL r2;subst this;simp only[Rep]at r1;obtain⟨a,vs,rfl,c1,rs1⟩:=r1;obtain⟨⟨h0,h1,h2,h3⟩,g⟩:=g;refine⟨_,dL2,a,kk,vs,rfl,rfl,c1.imp cO id,λz=>h0 ?_,h1,h2,by rw[<-rs1.length];exact h3,λz=> ?_,λz p n=>k _ _ _ g (eS n _) (iW hA n<|rs1.rep _)⟩
  .have:=rs1.length;rw[z]at this;exact tU.mp this
  .subst z;refine k _ _ H g (.refl _) ?_;show Rep X.K A H (.tup _) (.ref a);simp only[Rep];exact⟨a,vs,rfl,c1,by exists rs1⟩
 .exact g.elim
end
section
variable {X:Cx}
theorem bA3 {K:Frag}{A:AS}{H:Hp}: ∀r:List Int,bY K A H (r.map D.int) (r.map V.int)
 | []=> .nil
 | a::r=> .cons (by simp only[Rep]) (bA3 r)
theorem dL6 {r:List Int}(hg:Gl X x)(hm:X.mg x=some (.ref a))(hk:KT X.K a (r.map V.int))(hd:⇑(x∪0)):PU X (.Name x p) (uC<|.tup<|r.map .int):=
 bU8 (cM9 (v:= .ref a) hg hm rfl hd) λA H=>by
  simp only[Rep];exact⟨a,r.map V.int,rfl,.inr hk,bA3 r⟩
theorem kt_of {its:Array Value}{sl:Array (Option Value)}{vs:List V}(hl:K.lookup a=some ⟨.type "tuple",od,.seq its n,sl⟩)(hz:its.size<=sizeLine)(hv:Vals vs its.toList):KT K a vs:=
 ⟨_,its,n,hl,rfl,rfl,hz,hv⟩
end
end M
end
section
namespace L2
section
variable {X:Cx}
theorem cH4 (hc:X.calm=true):oV X (.builtin "any") (λxs H Q=> ∃(p:Addr) (bs:List Bool),xs=[.ref p]/\SqL X.K H p (bs.map V.bl)/\Q (.bl<|bs.any id) H):=by
 intro pins s σ H xs us Q I r h;obtain⟨p,bs,rfl,hq,q⟩:=h;obtain⟨u,rfl,rx⟩:=vals1 r;cases rx;obtain⟨its,rv,pl,hz⟩:=I.list hq;have ba:=cO4 rv;refine call_any_walk (zJ pl.isList ?_);have hne:p≠s.heap.objs.size:=by
  obtain⟨o,n,e,_⟩:=pl;exact bE (aV e)
 refine⟨s.heap.objs.size,_,_,_,_,_,λi=>(bs[i]?).getD false,rfl,Walks.list (A:=X.A.in1) (I.ok.hd hc) s.heap.objs.size p (λz=>hne z) its.toArray,⟨⟨_,cA _ rfl,rfl,rfl⟩,pl.isList.push _⟩,?_,λh' tk hk=> ?_⟩
 .intro i v s' Q' E' hP hQ;obtain⟨b,hb,rfl⟩:=ba.get i v (by exists hP)
  refine nS ?_
  dsimp only at hQ;rw[hb]at hQ;exact hQ
 .have e:=LSm.range_any bs;have hl:=ba.length;have e2:its.toArray.size=bs.length:=by rw[bB,hl]
  rw[e2,e];exact⟨.bl<|bs.any id,H,I.kept λb o e=>hk b o (by simpa using bE (aV e)) (aU _ e),rfl,q⟩
end
end L2
namespace M
section
variable {X:Cx}
nonrec def gAny:List D->(B->Prop)->Prop:=g1 λd Q=>match d with
 | .lst l=>(match wU l with
  | some bs=>Q (.pu<|.bl<|bs.any id)
  | none=>False)
 | _=>False
theorem cu_any (hc:X.calm=true):uN X (.builtin "any") gAny:=by
 intro A H ds vs Q0 Q hA r g k;obtain⟨d,v,rfl,rfl,rv,g⟩:=a06 g r;cases d with
 | lst l=>
  dsimp only at g;cases e:wU l with
  | none=>rw[e]at g;exact g.elim
  | some bs=>
   rw[e]at g;simp only[Rep]at rv;obtain⟨a,vs,rfl,n,c,rs⟩:=rv;rw[aM6 e rs]at c;exact⟨_,cH4 hc,a,bs,rfl,SqL.of c,k _ _ H g (.refl _) mW⟩
 | _=>exact(show False from g).elim
theorem d67:bootBuiltins "any"=some (.builtin "any"):=ag
end
end M
end
section
namespace L2
end L2
namespace M
section
variable {X:Cx}{a:Expr}{pos:Pos}{ta:UE}
nonrec def D.isN:D->Bool
 | .non=>true
 | _=>false
theorem cP1 {K:Frag}{A:AS}{H:Hp}: ∀{d:D} {v:V},Rep K A H d v->decide (v= .non)=d.isN
 | .non,v,h=>by simp only[Rep]at h;subst h;rfl
 | .bl _,v,h=>by simp only[Rep]at h;subst h;rfl
 | .int _,v,h=>by simp only[Rep]at h;subst h;rfl
 | .str _,v,h=>by simp only[Rep]at h;subst h;rfl
 | .ty _,v,h=>by simp only[Rep]at h;subst h;rfl
 | .tup _,v,h=>by simp only[Rep]at h;obtain⟨a,vs,rfl,_⟩:=h;rfl
 | .lst _,v,h=>by simp only[Rep]at h;obtain⟨a,vs,rfl,_⟩:=h;rfl
 | .rol _,v,h=>by simp only[Rep]at h;obtain⟨a,vs,rfl,_⟩:=h;rfl
 | .obj _ _ _,v,h=>by simp only[Rep]at h;obtain⟨a,dx,vs,rfl,_⟩:=h;rfl
 | .adr _,v,h=>by simp only[Rep]at h;subst h;rfl
 | .xob _ _ _ _,v,h=>by simp only[Rep]at h;obtain⟨vs,rfl,_⟩:=h;rfl
def aW8 (neg:Bool)(t:UE):UE:=λρ Q=>t ρ λb ρ1=>Q (.pu<|.bl<|neg ^^ b.d.isN) ρ1
theorem lIsN (σ:L2.St)(H:Hp)(Q:VK)(h:lE X.K (aW8 false ta) σ H Q):tIsN (lE X.K ta) σ H Q:=by
 obtain⟨C,ρ,Q0,I,h,k⟩:=h;refine⟨C,ρ,_,I,h,λb ρ' v H' q f s r=> ?_⟩
 have e:=cP1 (r.rep λa z=>I.avF f z)
 refine k _ ρ' _ H' q f s ?_
 show Rep _ _ _ _ _
 simp only[Rep,lK];rw[e]
theorem lNotN (σ:L2.St)(H:Hp)(Q:VK)(h:lE X.K (aW8 true ta) σ H Q):dT0 (lE X.K ta) σ H Q:=by
 obtain⟨C,ρ,Q0,I,h,k⟩:=h;refine⟨C,ρ,_,I,h,λb ρ' v H' q f s r=> ?_⟩
 have e:=cP1 (r.rep λa z=>I.avF f z)
 refine k _ ρ' _ H' q f s ?_
 show Rep _ _ _ _ _
 simp only[Rep,qJ];rw[e]
theorem pu_isN {j pos'}(ha:PU X a ta):PU X (.Compare a [.Is] [.Constant .none j pos'] pos) (aW8 false ta):=iJ (d11<|d10 ha) lIsN
theorem bV9 {j pos'}(ha:PU X a ta):PUT X (.Compare a [.Is] [.Constant .none j pos'] pos) (fG<|aW8 false ta):=c38 (d12<|d10 ha) λσ H Q h=>lIsN σ H _ (dJ2 σ H Q h)
theorem bA4 {j pos'}(ha:PU X a ta):PUT X (.Compare a [.IsNot] [.Constant .none j pos'] pos) (fG<|aW8 true ta):=c38 (d12<|dH2 ha) λσ H Q h=>lNotN σ H _ (dJ2 σ H Q h)
end
nonrec def ltL:List Int->List Int->Bool
 | [],[]=>false
 | [],_::_=>true
 | _::_,[]=>false
 | a::x,b::y=>if a=b then ltL x y else decide (a<b)
section
variable {prog:Program}{w:World}{A:Around}{E:Value->Shared->Prop}{s:Shared}
theorem d68 {lt:Bool}{P:PySem.Fin->Shared->Prop}(ho:s.heap.get? a=some (seqObj "list" [u,v].toArray n))
  (hy: ∀h':Heap,(∀b o,b≠a->s.heap.get? b=some o->h'.get? b=some o)-> ∃κ:SortKind,
   (∀Q:SortKind->Shared->Prop,Q κ {s with heap:=h'}->wpAny (model prog w) A (keyKind' [u,v].toArray) Q (λ_ _=>False) {s with heap:=h'})/\
   (∀Q:Bool->Shared->Prop,Q lt {s with heap:=h'}->wpAny (model prog w) A (keyLt' κ v u) Q (λ_ _=>False) {s with heap:=h'}))
  (fi:P (.done<|.ret .none) {s with heap:=sortedHeap s.heap a [u,v] (if lt=true then [v,u].toArray else [u,v].toArray)}) :
  wpAny (model prog w) A (Builtin.«list.sort» ⟨[.ref a],[]⟩) P E s:=by
 rw[list_sort_plain];have la:a<s.heap.objs.size:=aV ho;refine a9 (listItems_at ho rfl ?_);refine a9 (listUpdate_at ho rfl ?_ (show 2<=sizeLine by decide) (dO _))
 obtain⟨c1,h1⟩: ∃c1,(s.heap.update a<|Obj.mapSeq λ_=> #[]).get? a=some (seqObj "list" #[] c1):=⟨_,get?_update_seq ho λ_=> #[]⟩
 refine a9 (seqEpoch_at h1 rfl ?_)
 refine a9 (wpAny_newTuple ?_<|show 2<=sizeLine by decide)
 refine a9 (wpAny_newList ?_<|dO _)
 refine jB ?_
 have h6:(((s.heap.update a<|Obj.mapSeq λ_=> #[]).push<|seqObj "tuple" [u,v].toArray 0).push<|seqObj "list" #[] 0).get? a=some (seqObj "list" #[] c1):=by
  rw[qE _ _ _ (by rw[size_push',u6];exact bE (lF la))]
  rw[qE _ _ _ (by rw[u6];exact bE la)]
  exact h1
 have kp: ∀b o,b≠a->s.heap.get? b=some o->(((s.heap.update a<|Obj.mapSeq λ_=> #[]).push<|seqObj "tuple" [u,v].toArray 0).push<|seqObj "list" #[] 0).get? b=some o:=λb o ne q=>by
  have lb:b<s.heap.objs.size:=aV q;rw[qE _ _ _ (by rw[size_push',u6];exact bE (lF lb))]
  rw[qE _ _ _ (by rw[u6];exact bE lb),zD _ _ _ _ ne]
  exact q
 obtain⟨κ,y1,y2⟩:=hy _ kp;show wpAny (model prog w) A _ P E {s with heap:=((s.heap.update a<|Obj.mapSeq λ_=> #[]).push<|seqObj "tuple" [u,v].toArray 0).push (seqObj "list" #[] 0)}
 right;have n2: ¬[u,v].toArray.size<2:=show ¬2<2 by decide
 rw[a6 n2,a6 n2];refine a9 (bU (y1 (λk s'=>k=κ/\s'={s with heap:=((s.heap.update a<|Obj.mapSeq λ_=> #[]).push<|seqObj "tuple" [u,v].toArray 0).push (seqObj "list" #[] 0)}) ⟨rfl,rfl⟩) ?_ λ_ _ z=>z.elim)
 rintro k s' ⟨rfl,rfl⟩;refine a9 (bU (PySem.W.kat_run (ks:=[u,v]) (vs:=[u,v]) (Q:=λst' s'=>s'={s with heap:=((s.heap.update a<|Obj.mapSeq λ_=> #[]).push<|seqObj "tuple" [u,v].toArray 0).push (seqObj "list" #[] 0)}/\failedOf st'=none/\(arrOf st').map (·.2)=(if lt=true then [v,u].toArray else [u,v].toArray))
  (G:=λp s'=>s'={s with heap:=((s.heap.update a<|Obj.mapSeq λ_=> #[]).push<|seqObj "tuple" [u,v].toArray 0).push (seqObj "list" #[] 0)}/\p=(if lt=true then #[1,0]else #[0,1]))
  rfl (show 2<=2 by decide) (show 2<64 by decide) (λp st' s' _ e2 e3 ⟨e4,e5⟩=>⟨e4,e3,?_⟩) ?_) ?_ λ_ _ z=>z)
 .rw[PySem.W.kat_snds rfl e2,e5];cases lt<;>rfl
 .show wpAny (model prog w) A (keyLt' k v u) _ (λ_ _=>False) _
  refine y2 _ ?_
  cases lt
  .exact⟨rfl,rfl⟩
  .refine⟨rfl,?_⟩
   rw[a8 rfl];dsimp only[List.length_cons,List.length_nil]
   decide +kernel
 .rintro⟨⟨⟩,st'⟩ s' ⟨rfl,e3,e4⟩;right;rw[e4];refine a9 (seqEpoch_at h6 rfl ?_);refine a9 (listUpdate_at h6 rfl ?_ (dO _) (by cases lt<;>exact(show 2<=sizeLine+1 by decide)))
  rw[e3];simp only[bne_self_eq_false,Bool.false_eq_true,fS];exact aL fi
theorem cH5 {lt:Bool}(hl:s.heap.IsList l [u,v].toArray)
  (hy: ∀(h':Heap) (A:Around),(∀b o,s.heap.get? b=some o->h'.get? b=some o)-> ∃κ:SortKind,
   (∀Q:SortKind->Shared->Prop,Q κ {s with heap:=h'}->wpAny (model prog w) A (keyKind' [u,v].toArray) Q (λ_ _=>False) {s with heap:=h'})/\
   (∀Q:Bool->Shared->Prop,Q lt {s with heap:=h'}->wpAny (model prog w) A (keyLt' κ v u) Q (λ_ _=>False) {s with heap:=h'}))
  (fi:Q (.ref<|s.heap.objs.size+1) {s with heap:=sortedAll s.heap [u,v] (if lt=true then [v,u].toArray else [u,v].toArray)}) :
  wpAny (model prog w) A (call (.builtin "sorted") [.ref l]) Q E s:=by
 refine Calls.call_function_entry kind_sorted plain_sorted entry_sorted (args_sorted1 _) ?_
 unfold Builtin.«sorted»;refine a9 (m:=checkCount "sorted" 1 1 _) (aL ?_);refine a9 (collect_list hl ?_<|show 2<=sizeLine by decide)
 refine a9 (wpAny_newList ?_<|show 2<=sizeLine by decide)
 have hz:((s.heap.push<|seqObj "list" #[] 0).update s.heap.objs.size (Obj.mapSeq (· ++[u,v].toArray))).objs.size=s.heap.objs.size+1:=by rw[u6,size_push']
 have hL:(((s.heap.push<|seqObj "list" #[] 0).update s.heap.objs.size (Obj.mapSeq (· ++[u,v].toArray))).push<|seqObj "list" [u,v].toArray 0).get? (s.heap.objs.size+1)=some (seqObj "list" [u,v].toArray 0):=by
  rw[<-hz];exact cA _ rfl
 have kp: ∀b o,s.heap.get? b=some o->(((s.heap.push<|seqObj "list" #[] 0).update s.heap.objs.size (Obj.mapSeq (· ++[u,v].toArray))).push<|seqObj "list" [u,v].toArray 0).get? b=some o:=λb o q=>by
  have lb:b<s.heap.objs.size:=aV q;rw[qE _ _ _ (by rw[hz];exact bE (lF lb))]
  rw[zD _ _ _ _<|bE lb,qE _ _ _<|bE lb];exact q
 show wpAny _ _ _ _ _ {s with heap:=((s.heap.push<|seqObj "list" #[] 0).update s.heap.objs.size (Obj.mapSeq (· ++[u,v].toArray))).push (seqObj "list" [u,v].toArray 0)}
 rw[hz];refine a9 (jB<|j8 slot_list_sort ⟨_,hL,rfl⟩ entry_list_sort (d68 (lt:=lt) hL (λh' k=> ?_) ⟨_,rfl,?_⟩)<|args_list_sort _)
 .exact hy h' _ λb o q=>k b o (bE<|lF<|aV q) (kp b o q)
 .exact aL ⟨_,rfl,fi⟩
theorem c54 {Q:Bool->Shared->Prop}{fin:Bool}: ∀(us ws:List Int) (x y:List Value) (i:Nat),Vals (us.map V.int) x->Vals (ws.map V.int) y->fin=decide (us.length<ws.length)->Q (ltL us ws) s->PySem.W.KatLex prog w A true fin Q (x.zip y) i s
 | [],[],x,y,i,hx,hy,hf,q=>by
  cases hx;cases hy;rw[hf];exact q
 | [],b::ws,x,y,i,hx,hy,hf,q=>by
  cases hx;rw[hf];exact q
 | a::us,[],x,y,i,hx,hy,hf,q=>by
  cases hx;cases hy;rw[hf];exact q
 | a::us,b::ws,x,y,i,hx,hy,hf,q=>by
  rw[cN]at hx hy;cases hx with
  | cons r1 hx=>
   cases hy with
   | cons r2 hy=>
    obtain⟨t1,rfl⟩:=r1;obtain⟨t2,rfl⟩:=r2;rw[aK9];refine PySem.W.kat_cons (wpAny_eqBool_int ?_)
    by_cases c:a=b
    .subst c;rw[aL7];refine PySem.W.kat_yes (c54 us ws _ _ (i+1) hx hy (by rw[hf];simp) ?_)
     unfold ltL at q;rw[a8 rfl]at q;exact q
    .rw[show(a==b)=false by simpa using c]
     refine PySem.W.kat_no ?_
     unfold ltL at q;rw[a6 c]at q;cases e:(true&&i==0)
     .exact PySem.W.kat_one _ _ (lt_int q)
     .exact oneLt_int q
end
section
variable {X:Cx}
theorem cH6:oV X (.builtin "sorted") (λxs H Q=> ∃(p a1 a2:Addr) (i j:Int) (us ws:List Int),xs=[.ref p]/\SqL X.K H p [.ref a1,.ref a2]/\SqT X.K H a1 ((i::us).map V.int)/\SqT X.K H a2 ((j::ws).map V.int)/\
  ∀l,H l=none->Q (.ref l) (upd H l<|.lst<|if ltL (j::ws) (i::us)=true then [.ref a2,.ref a1]else [.ref a1,.ref a2])):=by
 intro pins s σ H xs us' Q I r h;obtain⟨p,a1,a2,i,j,us,ws,rfl,hq,t1,t2,q⟩:=h;obtain⟨u,rfl,rx⟩:=vals1 r;cases rx;obtain⟨its,rv,pl,hz⟩:=I.list hq;obtain⟨x1,r1,k1,z1⟩:=I.tuple t1;obtain⟨x2,r2,k2,z2⟩:=I.tuple t2;cases rv with
 | cons g1 rv=>
 cases rv with
 | cons g2 rv=>
 cases rv;cases g1;cases g2;refine cH5 (lt:=ltL (j::ws) (i::us)) pl.isList (λh' A kp=> ?_) ?_
 .obtain⟨o1,ho1,hc1,n1,hd1⟩:=k1;obtain⟨o2,ho2,hc2,n2,hd2⟩:=k2;rw[cN]at r1 r2;cases r1 with
  | cons f1 r1=>
  cases r2 with
  | cons f2 r2=>
  have v1:Vals ((i::us).map V.int) _:= .cons f1 r1;have v2:Vals ((j::ws).map V.int) _:= .cons f2 r2;obtain⟨t1,rfl⟩:=f1;obtain⟨t2,rfl⟩:=f2;refine⟨tuples'<|Value.type "int" != Value.type "tuple",λQ' q'=> ?_,λQ' q'=> ?_⟩
  .refine PySem.W.kat_kind (fs:=[.int i t1,.int j t2]) (T:= .type "int") (.cons (kp _ _ ho1) hc1 hd1 rfl (.cons (kp _ _ ho2) hc2 hd2 rfl .nil)) (bW _) (λv hv=> ?_) ac q'
   rcases aY.mp hv with rfl|hv
   .exact .now
   .rw[j7.mp hv];exact .now
  .have e:(Value.type "int" != Value.type "tuple")=true:=ac
   rw[e];refine PySem.W.kat_lt (kp _ _ ho2) hd2 (kp _ _ ho1) hd1 (c54 _ _ _ _ 0 (by exists v2) (by exists v1) ?_ q')
   have l1:=v1.length;have l2:=v2.length;simp only[aH]at l1 l2;simp only[bB];rw[<-l1,<-l2]
 .refine⟨.ref<|s.heap.objs.size+1,_,?_,rfl,q (s.heap.objs.size+1)<|I.hok.fresh<|uF _⟩
  obtain⟨c,hc⟩:=sortedAll_at s.heap [Value.ref a1,Value.ref a2] (if ltL (j::ws) (i::us)=true then [Value.ref a2,Value.ref a1].toArray else [Value.ref a1,Value.ref a2].toArray);refine I.laid (t':=s.toks) (λb o e=>sortedAll_old e) (uF _) ?_
  by_cases e:ltL (j::ws) (i::us)=true
  .rw[a8 e]at hc⊢;exact⟨show 2<=sizeLine by decide,[.ref a2,.ref a1],c,.cons rfl (.cons rfl .nil),by rw[a8 e];exact hc⟩
  .rw[a6 e]at hc⊢;exact⟨show 2<=sizeLine by decide,[.ref a1,.ref a2],c,.cons rfl (.cons rfl .nil),by rw[a6 e];exact hc⟩
nonrec def cH7:List D->(B->Prop)->Prop:=g1 λd Q=> ∃(i j:Int) (us ws:List Int),d= .lst [.tup<|(i::us).map D.int,.tup<|(j::ws).map D.int]/\
 Q (.ow<|if ltL (j::ws) (i::us)=true then [.tup<|(j::ws).map D.int,.tup<|(i::us).map D.int]else [.tup<|(i::us).map D.int,.tup<|(j::ws).map D.int])
theorem d69:uN X (.builtin "sorted") cH7:=by
 intro A H ds vs Q0 Q hA r g k;obtain⟨d,v,rfl,rfl,rv,i,j,us,ws,rfl,g'⟩:=a06 g r;simp only[Rep]at rv;obtain⟨p,xs,rfl,np,hp,rl⟩:=rv;obtain⟨y1,yr,rfl,s1,rl⟩:=rl.uncons;obtain⟨y2,yr,rfl,s2,rl⟩:=rl.uncons;have:=rl.unnil;subst this;have s1':=s1;have s2':=s2;simp only[Rep]at s1 s2;obtain⟨a1,w1,rfl,c1,q1⟩:=s1;obtain⟨a2,w2,rfl,c2,q2⟩:=s2;have e1:=bY.unints q1;have e2:=bY.unints q2;subst e1 e2
 refine⟨_,cH6,p,a1,a2,i,j,us,ws,rfl,.inl<|.inl hp,c1.imp cO id,c2.imp cO id,λl hl=>k _ _ _ g' (eS hl _) ?_⟩
 cases ltL (j::ws) (i::us)
 .exact gL (.refl _) hl (.cons s1'<|.cons s2' .nil)
 .exact gL (.refl _) hl (.cons s2'<|.cons s1' .nil)
end
end M
end
section
namespace L2
section
variable {X:Cx}{a:Expr}{ta:TE}
def tIsB (n c:Bool)(ta:TE):TE:=λσ H Q=>ta σ H λx H1=> ∃k,x= .bl k/\Q (.bl<|n ^^ (k==c)) H1
theorem pc_isB {c j pos'}(ha:PE X a ta):PC X .Is a (.Constant (.bool c) j pos') (tIsB false c ta):=by
 intro pins s σ H Q I h;refine thn (ha pins s σ H _ I h) λv s1 ⟨x,H1,I1,r1,k,e,q1⟩=> ?_
 subst e;cases r1;exact Constant_bool (is_bool ⟨.bl _,H1,I1,by rw[lK];rfl,q1⟩)
end
end L2
namespace M
section
variable {X:Cx}{a:Expr}{pos:Pos}{ta:UE}
def d70 (n c:Bool)(t:UE):UE:=λρ Q=>t ρ λb ρ1=>match b.d with
 | .bl k=>Q (.pu<|.bl<|n ^^ (k==c)) ρ1
 | _=>False
theorem lIsB {n c:Bool}(σ:L2.St)(H:Hp)(Q:VK)(h:lE X.K (d70 n c ta) σ H Q):tIsB n c (lE X.K ta) σ H Q:=by
 obtain⟨C,ρ,Q0,I,h,k⟩:=h;refine⟨C,ρ,_,I,h,λb ρ' v H' q f s r=> ?_⟩
 have e:=r.rep λa z=>I.avF f z
 cases hd:b.d with
 | bl i=>
  rw[hd]at q e;simp only[Rep]at e;refine⟨i,e,k _ ρ' _ H' q f s ?_⟩;show Rep _ _ _ _ _;simp only[Rep]
 | _=>rw[hd]at q;exact(show False from q).elim
theorem d71 {c j pos'}(ha:PU X a ta):PU X (.Compare a [.Is] [.Constant (.bool c) j pos'] pos) (d70 false c ta):=iJ (d11<|pc_isB ha) lIsB
end
end M
end
section
namespace L2
end L2
namespace M
end M
end
section
namespace L2
section
variable {X:Cx}{e e3:Expr}{te:TE}{t3:TO}{pos p2:Pos}
theorem bK4 (its:List Value):slicePick its.toArray none none (some<|-1)=its.reverse.toArray:=by
 unfold slicePick
 congr 1
 have hb:sliceBounds none none (some<|-1) its.toArray.size=((its.length:Int)-1,-1,-1):=by
  simp[sliceBounds]
 rw[hb];have hr:sliceRange ((its.length:Int)-1) (-1) (-1)=(List.range its.length).map λk=>its.length-1-k:=by
  unfold sliceRange;simp only[show ¬((-1:Int)>0)by decide,fS]
  by_cases c:(its.length:Int)-1> -1
  .rw[a8 c,show -(-1:Int)=1 by decide,Int.ediv_one,show((its.length:Int)-1- -1- -1-1).toNat=its.length by omega]
   apply nQ
   intro k hk;have:=d6.mp hk;omega
  .rw[a6 c,show its.length=0 by omega]
   rfl
 right;rw[hr,List.filterMap_map];apply aL2;intro i
 by_cases c:i<its.length
 .rw[List.getElem?_reverse c];have e:(List.range its.length).filterMap ((λx=>its.toArray[x]?)∘λk=>its.length-1-k)=(List.range its.length).map λk=>its.getD (its.length-1-k) .none:=by
   rw[<-List.filterMap_eq_map];have fc: ∀(l:List Nat) (f g:Nat->Option Value),(∀m∈l,f m=g m)->l.filterMap f=l.filterMap g:=by
    intro l f g h
    induction l with
    | nil=>rfl
    | cons a l ih=>rw[iA,iA,h a<|lD ..,ih λm hm=>h m (fB _ hm)]
   apply fc
   intro k hk;have:=d6.mp hk;simp only[Function.comp,List.getElem?_toArray,aJ];rw[aP aa]
   rfl
  rw[e,bG,List.getElem?_range c,aP<|show its.length-1-i<its.length by omega]
  simp only[map_some,aJ];rw[aP<|show its.length-1-i<its.length by omega]
  rfl
 .have h1:((List.range its.length).filterMap<|(λx=>its.toArray[x]?)∘λk=>its.length-1-k).length<=its.length:=by
   have:=List.length_filterMap_le ((λx=>its.toArray[x]?)∘λk=>its.length-1-k) (List.range its.length)
   exists this
  rw[i9 aa,i9 (by rw[List.length_reverse];omega)]
def tRevL (K:Frag)(te:TE)(t3:TO):TE:=λσ H Q=>te σ H λx H1=>t3 σ H1 λl H3=>l=some (-1)/\ ∃a xs,x= .ref a/\SqL K H3 a xs/\ ∀p,H3 p=none->Q (.ref p) (upd H3 p<|.lst xs.reverse)
theorem dL7 (he:PE X e te)(h3:PO X (some e3) t3):PE X (.Subscript e (.Slice none none (some e3) p2) pos) (tRevL X.K te t3):=by
 intro pins s σ H Q I h;refine Subscript_ (thn (he pins s σ H _ I h) λv s1 ⟨x,H1,I1,r1,q1⟩=> ?_)
 refine wpAny_Slice ?_
 rw[evalPart_none];refine aL ?_;refine aL ?_;refine thn (h3 pins s1 σ H1 _ I1 q1) λv3 s3 ⟨l,H3,I3,p3,q3⟩=> ?_
 obtain⟨rfl,a,xs,rfl,hx,q⟩:=q3;cases r1;have I4:Inv X pins σ H3 {s3 with heap:=s3.heap.push {cls:= .type "slice",data:= .fields #[.none,.none,v3]}}:=I3.kept (t':=s3.toks) λb ob q=>aU _ q
 obtain⟨its,r,ht,hz⟩:=I4.list hx;have hlen:its.toArray.size=xs.length:=by rw[bB];exact r.length.symm
 have hg:X∩(getItem (.ref a)<|.ref s3.heap.objs.size) (EP X pins σ Q) X.xe {s3 with heap:=s3.heap.push {cls:= .type "slice",data:= .fields #[.none,.none,v3]}}:=by
  refine wpAny_getItem_list_slice ht.isList (Heap.IsSliceOf.new ..) .none .none p3 ac ?_ (by rw[hlen];exact hz)
  rw[bK4];refine⟨.ref _,_,I4.laid (t':=s3.toks) (o:= .lst xs.reverse) (λb ob q=>aU _ q) (aF _) ?_,rfl,q _<|I4.hok.fresh<|aF _⟩
  exact⟨by rw[List.length_reverse];exact hz,_,0,r.reverse,cA _ rfl⟩
 exact tail_any (ops:=[.ref a,.ref s3.heap.objs.size]) ht.isList.typeIs slot_list_getitem.lookup hg (by with_unfolding_all rfl)
end
end L2
namespace M
section
variable {X:Cx}{K:Frag}{A:AS}{H:Hp}{e e3:Expr}{t3:UE}{pos p2:Pos}
def d72 (t:UV)(t3:UE):UE:=λρ Q=>t ρ λd ρ1=>t3 ρ1 λb ρ2=>b.d= .int (-1)/\match d with
 | .lst l=>Q (.ow l.reverse) ρ2
 | _=>False
theorem dL8 {t:UV}(he:PUV X e t)(h3:PU X e3 t3):PU X (.Subscript e (.Slice none none (some e3) p2) pos) (d72 t t3):=
 iJ (dL7 he<|cN6 h3) λσ H Q ⟨C,ρ,Q0,I,h,k⟩=>⟨C,ρ,_,I,h,λd ρ1 v H1 q f s r=>by
  have I1:=(I.frz f).same s;refine⟨C,ρ1,_,I1,q,λb ρ2 v3 H2 q2 f2 s2 r2=> ?_⟩
  obtain⟨eb,q2⟩:=q2;have ri:=r2.rep λa z=>I1.avF f2 z
  rw[eb]at ri;have:=bL ri;subst this;refine⟨-1,rfl,rfl,?_⟩;have r':=r.mono (A':=Av C ρ2 σ) s2 λa z=>f2.av z
  cases d with
  | lst l=>
   obtain⟨a,vs,rfl,c,rs⟩:=r';exact⟨a,vs,rfl,SqL.of c,λp n=>k _ ρ2 _ _ q2 (f.trans f2) ((s.trans s2).trans<|eS n _) (gL (s.trans s2) n rs.reverse)⟩
  | _=>exact q2.elim⟩
end
section
variable {X:Cx}{e:Expr}{es:List Expr}{pos:Pos}{te:UE}
theorem ilB (h:Nat.ble (i+1) X.N.length=true): ∀pins σ H s,Inv X pins σ H s->i<σ.length:=il rfl (Nat.le_of_ble_eq_true h)
theorem aQ (i:Nat){pos:Pos}(h:PE X (.Name x pos) (a63 i):=by exact pv _):PU X (.Name x pos) (aC i):=gF i h
theorem bI (i:Nat){pos:Pos}(h:PE X (.Name x pos) (a63 i):=by exact pv _):PUV X (.Name x pos) (aS i):=wT i h
theorem a74 (i:Nat)(hN:X.N.Nodup)(he:PU X e te)(hi:↥(X.N[i]? =some x))(hx:Loc X.env.scope x:=by walk_at "z")(hs:↥(swapsWith e (some<|.Name x pos') pos.line X.env=pure false))(hf:X.fn x=true\/X.env.scope.names.lookup x=some .local:=by walk_at "z")
  (hl: ∀pins σ H s,Inv X pins σ H s->i<σ.length:=by exact ilB rfl):PUS X (.Assign [.Name x pos'] e pos) (bM i te):=a65 i hN hi hx he hs hf hl
theorem us_g {op:Operator}{g:D->D->(B->Prop)->Prop}(i:Nat)(hN:X.N.Nodup)(he:PU X e te)(ho:IpU X op g)(hi:↥(X.N[i]? =some x))(hx:Loc X.env.scope x:=by walk_at "z")(hf:X.fn x=true\/X.env.scope.names.lookup x=some .local:=by walk_at "z")
  (hl: ∀pins σ H s,Inv X pins σ H s->i<σ.length:=by exact ilB rfl):PUS X (.AugAssign (.Name x pos') op e pos) (c42 i g te):=d42 i hN hi hx he ho hf hl
theorem cE {a b:Expr}{ti:UE}{t:UV}(ha:PUV X a t)(hb:PU X b ti)(hs:bU1 b:=by exact λ_ _=>rfl):PU X (.Subscript a b pos) (uIx t ti):=b92 ha hb hs
theorem dB {ps:List Str}{t:UA}(F:Fn X.prog X.w X.K X.mg X.base x ps k φ)(hr:gT k' X.A)(ha:PUA X (e::es) t)(hk:⇑(k<=k'))(hg:↥(Gl X x))(hdb:⇑(x∪0))
  (he:↥(starEach (e::es) X.env=(false,eval e X.env)::starEach es X.env)) (hpl:↥((backTo pos<|starEach es X.env).any (·.1)=false)):PU X (.Call (.Name x p) (e::es) [] pos) (aR φ t):=aQ4 F hr hk hg ha hdb he hpl
end
section
variable {X:Cx}{es:List Expr}{t:UA}
theorem aX {i:Int}{j}(h:PUA X es t):PUA X (.Constant (.int i) j p::es) (a7 (uC<|.int i) t):=aB aE h rfl
theorem oG {fs:List Expr}{j}{ta:UE}(a:PU X (.Tuple fs j p) ta)(h:PUA X es t):PUA X (.Tuple fs j p::es) (a7 ta t):=aB a h rfl
theorem aF8 {o:UnaryOp}{ta:UE}(a:PU X (.UnaryOp o e p) ta)(h:PUA X es t):PUA X (.UnaryOp o e p::es) (a7 ta t):=aB a h rfl
theorem aN (i:Nat)(h:PUA X es t)(a:PE X (.Name x p) (a63 i):=by exact pv _):PUA X (.Name x p::es) (a7 (aC i) t):=aB (gF i a) h rfl
structure WA (X:Cx)(es:List Expr)(t:UA):Prop where
 out:PUA X es t
theorem a75:WA X [] aK:=⟨aA⟩
theorem a57 {i:Int}{j}(h:WA X es t):WA X (.Constant (.int i) j p::es) (a7 (uC<|.int i) t):=⟨aX h.out⟩
theorem cW7 {i:Int}{j}{q:Pos}(h:WA X es t):WA X (.UnaryOp .USub (.Constant (.int i) j p) q::es) (a7 (nZ<|uC<|.int i) t):=⟨aF8 (iO aE) h.out⟩
theorem cH8 {fs:List Expr}{j}{tf:UA}(a:WA X fs tf)(h:WA X es t):WA X (.Tuple fs j p::es) (a7 (hJ tf) t):=⟨oG (dD a.out) h.out⟩
structure WS (X:Cx)(sts:List Stmt)(t:US):Prop where
 out:tD X sts t
theorem ws_of {sts:List Stmt}{u:US}(h:tD X sts u):WS X sts u:=⟨h⟩
theorem ws_lw {sts:List Stmt}{u:US}(h:WA X es t)(r:WS X sts u)(hN:X.N.Nodup)(hi:↥(X.N[i]? =some x))(hx:Loc X.env.scope x:=by walk_at "z")(hf:X.fn x=true\/X.env.scope.names.lookup x=some .local:=by walk_at "z")
  (hl: ∀pins σ H s,Inv X pins σ H s->i<σ.length:=by exact ilB rfl):WS X (.Assign [.Name x pos'] (.List es p) pos::sts) (aT (bM i<|eR t) u):=⟨bS (a65 i hN hi hx (bO h.out) rfl hf hl) r.out⟩
end
abbrev GL:=List (Addr×List Int)
section
variable {X:Cx}{K:Frag}{C C':C0}{ρ ρ':Ev}{σ σ':L2.St}{H H' H0:Hp}{g g':GL}{r:Nat}{st:Stmt}{sts:List Stmt}{e:Expr}{pos:Pos}{t u:US}{te ti tj:UE}{tc:UT}
theorem bW0 {m:Nat}(h:n<m):ixN m (n:Int)=some n:=by
 unfold ixN;rw[a8 aa,a8 aa]
 simp
end
end M
end
section
namespace L2
end L2
namespace M
end M
end
section
namespace L2
end L2
namespace M
section
variable {X:Cx}{e a b:Expr}{te ta tb:UE}{t u:US}{sts:List Stmt}{pos:Pos}
theorem kY {g:D->D->(B->Prop)->Prop}(ho:OpU X (compareOp op) g)(ha:PU X a ta)(hb:PU X b tb)(hm:behindInMarks op b=false:=by exact bT9 _):PUT X (.Compare a [op] [b] pos) (fG<|uOp g ta tb):=aD8 ho ha hb hm
theorem c55 {g:D->D->(B->Prop)->Prop}(ho:OpU X (compareOp op) g)(ha:PU X a ta)(hb:PU X b tb)(hm:behindInMarks op b=false:=by exact bT9 _):PU X (.Compare a [op] [b] pos) (uOp g ta tb):=pu_cmp ho ha hb hm
theorem bD (i:Nat)(hN:X.N.Nodup)(he:PU X e te)(r:tD X sts u)(hi:↥(X.N[i]? =some x))(hx:Loc X.env.scope x:=by walk_at "z")(hs:↥(swapsWith e (some<|.Name x pos') pos.line X.env=pure false))(hf:X.fn x=true\/X.env.scope.names.lookup x=some .local:=by walk_at "z")
  (hl: ∀pins σ H s,Inv X pins σ H s->i<σ.length:=by exact ilB rfl):tD X (.Assign [.Name x pos'] e pos::sts) (aT (bM i te) u):=bS (a74 i hN he hi hx hs hf hl) r
theorem fK (h:PU X e te):tD X [.Return (some e) pos] (cZ te):=bH (d38 h)
theorem bK5 {tc:UT}(hc:PUT X c tc)(ha:tD X sts t):PUS X (.If c sts [] pos) (iL tc t fJ):=d39 hc ha cG2
theorem mV {tc:UT}{r:List Stmt}(hc:PUT X c tc)(ha:tD X sts t)(hr:tD X r u):tD X (.If c sts [] pos::r) (aT (iL tc t fJ) u):=bS (bK5 hc ha) hr
theorem o6 {ui:UI}(i:Nat)(hN:X.N.Nodup)(hi:PUI X (.Name x p) iter ui)(hb:tD X sts t)(hp:PassesOwn (model X.prog X.w) X.A X.env X.xe:=by exact kB)(hc:↥(X.calm=true))(hx:↥(X.N[i]? =some x))(hl:Loc X.env.scope x:=by walk_at "z")
  (hs: ∀x,foldedSetIterable iter X.env x=pure x:=by intro _;rfl) (hf:X.fn x=true\/X.env.scope.names.lookup x=some .local:=by walk_at "z"):PUS X (.For (.Name x p) iter sts [] pos) (iM ui (cB i) t):=aV8 hp hc hi (b62 i<|fT hN hx hl hf) hb hs
theorem jL (N:List Str)(esc:List (Str×NameKind))(XN:List Str){ui:UI}{tt:UT}(hi:PUI X (.Name x p) iter ui)(ht: ∀cl C s H fp pins,PTs (cY X N scope cl C s H fp pins) ifs<|lT X.K tt)(he: ∀cl C s H fp pins,PU (cY X N scope cl C s H fp pins) elt te)
  (he0:↥(X.env.scope.names=esc)) (hx0:↥(X.N=XN)) (lk:aD9 esc XN N cap scope last=true:=by decide +kernel) (hl:⇑(last<cap.length)) (hT:⇑(last ∉ [i])) (hc:↥(X.calm=true)) (hN:N.Nodup:=by decide +kernel) (hx:↥(N[i]? =some x)) (hy: ∀cl C s H fp pins,Loc (cY X N scope cl C s H fp pins).env.scope x:=by intro _ _ _ _ _ _;first|exact Or.inl rfl|exact Or.inr rfl)
  (hs: ∀x,foldedSetIterable iter X.env x=pure x:=by intro _;rfl) (hf: ∀cl C s H fp pins,(cY X N scope cl C s H fp pins).fn x=true\/(cY X N scope cl C s H fp pins).env.scope.names.lookup x=some .local:=by intro _ _ _ _ _ _;first|exact .inl rfl|exact .inr rfl|assumption):PU X (.ListComp elt [⟨.Name x p,iter,ifs,0⟩] scope pos) (eJ js cap last ui (cB i) tt te):=
 aQ5 he0 hx0 lk hl hT hc hi (λ_ _ _ _ _ _=>b62 i (fT hN hx (hy ..)<|hf ..)) ht he hs
end
section
variable {X:Cx}{K:Frag}{ρ ρ':Ev}{σ σ':L2.St}{H H':Hp}
variable {o e e2:Expr}{te te2:UE}{x y:Str}{px py py2 apos cpos bpos fpos apos2 cpos2 epos:Pos}
end
end M
end
section
namespace L2
end L2
namespace M
section
variable {X:Cx}{K:Frag}{last:Nat}{ui ui2:UI}{g g2:UG}{T T2:List Nat}{tt tt2:UT}{te:UE}
variable {elt iter tg iter2 tg2:Expr}{ifs ifs2:List Expr}{scope:Scope}{pos spos py:Pos}{y:Str}{esc:List (Str×NameKind)}{N XN:List Str}{js:List Nat}{cap:List (Option Nat)}
end
abbrev GP:=List (Addr×List V)
end M
end
section
namespace L2
end L2
namespace M
end M
namespace L2
end L2
namespace M
end M
end
section
namespace L2
section
variable {X:Cx}
theorem cH9 (hc:X.calm=true):oV X (.builtin "any") (λxs H Q=> ∃(p:Addr) (ns:List Int),xs=[.ref p]/\SqT X.K H p (ns.map V.int)/\Q (.bl (ns.any (· != 0))) H):=by
 intro pins s σ H xs us Q I r h;obtain⟨p,ns,rfl,hq,q⟩:=h;obtain⟨u,rfl,rx⟩:=vals1 r;cases rx;obtain⟨its,rv,tp,hz⟩:=I.tuple hq;have tp':s.heap.IsTuple p its.toArray:=tp;refine call_any_walk (aK8 tp' ?_);have hne:p≠s.heap.objs.size:=by
  obtain⟨o,e,_⟩:=tp;exact bE (aV e)
 have hl:=rv.length;rw[aH]at hl;refine⟨s.heap.objs.size,_,_,_,_,_,λi=>((ns.map (· != 0))[i]?).getD false,rfl,Walks.tuple (A:=X.A.in1) (I.ok.hd hc) s.heap.objs.size p (λz=>hne z) its.toArray,⟨⟨_,cA _ rfl,rfl,rfl⟩,tp'.push _⟩,?_,λh' tk hk=> ?_⟩
 .intro i v s' Q' E' hP hQ;have hP:its[i]? =some v:=by exists hP
  have hi:i<ns.length:=by
   rw[hl];exact(jX.mp hP).1
  obtain⟨w,ew,rw'⟩:=rv.get (i:=i) (x:= .int ns[i]) (by rw[bG,aP hi];rfl)
  rw[hP]at ew;cases ew;obtain⟨t,rfl⟩:=rw';refine truthy_int ?_;dsimp only at hQ;rw[bG,aP hi]at hQ;exact hQ
 .have e:=LSm.range_any (ns.map (· != 0));rw[aH]at e;have e2:its.toArray.size=ns.length:=by rw[bB,hl]
  rw[e2,e];refine⟨.bl (ns.any (· != 0)),H,I.kept λb o e=>hk b o (by simpa using bE (aV e)) (aU _ e),?_,q⟩
  show Value.bool _=Value.bool _
  rw[any_map];rfl
end
end L2
namespace M
section
variable {X:Cx}{e a b:Expr}{pos:Pos}{te ti:UE}
nonrec def d73:List D->(B->Prop)->Prop:=g1 λd Q=>match d with
 | .tup l=>(match aF6 l with
  | some ns=>Q (.pu (.bl (ns.any (· != 0))))
  | none=>False)
 | _=>False
theorem dL9 (hc:X.calm=true):uN X (.builtin "any") d73:=by
 intro A H ds vs Q0 Q hA r g k;obtain⟨d,v,rfl,rfl,rv,g⟩:=a06 g r;cases d with
 | tup l=>
  dsimp only at g;cases e:aF6 l with
  | none=>rw[e]at g;exact g.elim
  | some ns=>
   rw[e]at g;simp only[Rep]at rv;obtain⟨a,vs,rfl,c,rs⟩:=rv;rw[aW1 e rs]at c;exact⟨_,cH9 hc,a,ns,rfl,c.imp cO id,k _ _ H g (.refl _) mW⟩
 | _=>exact(show False from g).elim
end
def Sb (i:Int):Prop:=i.natAbs<2^60000
theorem c56 {i:Int}(h:Sb i):Builtin.Int.intBits i<=2^20:=aG (PyProof.Rows.intBits_le h) ac
def bP4 (d e:D)(Q:B->Prop):Prop:=match d,e with
 | .int i,.int j=>(Sb i/\Sb j)/\Q (.pu<|.int<|i*j)
 | _,_=>False
section
variable {X:Cx}
theorem dM0:OpR X (binaryOp .Mult) (rI (λi j=>Sb i/\Sb j) λi j=> .int (i*j)):=opI λ_ _ _ _ _ _ _ hc q=>mul_int q (.of_bits (c56 hc.1)<|c56 hc.2)
theorem cP2:OpU X (binaryOp .Mult) bP4:=by
 intro A H d e v w Q0 Q hA r1 r2 g k;unfold bP4 at g;split at g
 .rename_i i j
  exact⟨_,dM0,i,j,bL r1,bL r2,g.1,k _ _ H g.2 (.refl _) a68⟩
 .exact g.elim
end
theorem Sb.pow {i:Int}(h:i.natAbs<=2^k)(hk:k<60000):Sb i:=nR h (aK2 ac hk)
end M
end
namespace L2
def Calm (f:Obj->Obj):Prop:= ∀o,(f o).dict=o.dict/\(o.isFreed=false->(f o).isFreed=false)
def pO {α:Type}:Sem α->Prop
 | .pure _=>True
 | .raise _=>True
 | .unsupported _=>True
 | .finish _=>True
 | .rule _ k=>pO (k ())
 | .at _ k=>pO (k ())
 | .load _ _ k=> ∀o,pO (k o)
 | .update _ _ f k=>Calm f/\pO (k ())
 | .alloc _ k=> ∀a,pO (k a)
 | .loadIfAlive _ k=> ∀o,pO (k o)
 | .point _ k=>pO (k ())
 | .register _ _=>True
 | .stack k=> ∀l,pO (k l)
 | _=>False
def DK (h h':Heap):Prop:= ∀b o,h.get? b=some o-> ∃o',h'.get? b=some o'/\o'.dict=o.dict
theorem DK.refl (h:Heap):DK h h:=λb o q=>⟨o,q,rfl⟩
theorem DK.trans {h'':Heap}(a:DK h h')(b:DK h' h''):DK h h'':=λc o q=>by
 obtain⟨o',q',e⟩:=a c o q;obtain⟨o'',q'',e'⟩:=b c o' q';exact⟨o'',q'',e'.trans e⟩
theorem DK.update {f:Obj->Obj}(c:Calm f):DK h (h.update a f):=λb o q=>by
 by_cases e:a=b
 .subst e;exact⟨f o,pV f q<|(c o).2 (Heap.get?_some_iff.mp q).2,(c o).1⟩
 .exact⟨o,(aJ3 _ _ e).trans q,rfl⟩
theorem dM1 {M:Model}{Γ:PySem.Ctx}: ∀{t:Sem α} {Q:α->Pos->Shared->Prop} {E:Value->Pos->Shared->Prop} {p:Pos} {s:Shared},pO t->Sem.wp M Γ t Q E p s->Sem.wp M Γ t (λa p' s'=>Q a p' s'/\DK s.heap s'.heap) (λe p' s'=>E e p' s'/\DK s.heap s'.heap) p s:=by
 intro t
 induction t with
 | pure a=>intro Q E p s _ h;exact⟨h,.refl _⟩
 | raise e=>intro Q E p s _ h;exact⟨h,.refl _⟩
 | rule _ k ih=>intro Q E p s t h;exact ih () t h
 | «at» _ k ih=>intro Q E p s t h;exact ih () t h
 | load a _ k ih=>intro Q E p s t ⟨o,q,h⟩;exact⟨o,q,ih o (t o) h⟩
 | update a _ f k ih=>
  intro Q E p s t ⟨q,h⟩;refine⟨q,?_⟩;have:=ih () t.2 h;exact Sem.wp_mono _ _ _ (λa p' s' z=>⟨z.1,(DK.update t.1).trans z.2⟩) (λa p' s' z=>⟨z.1,(DK.update t.1).trans z.2⟩) _ _ this
 | alloc o k ih=>
  intro Q E p s t h;have:=ih _ (t _) h;have pu:DK s.heap (s.heap.push o):=λb o' q=>⟨o',aU _ q,rfl⟩
  exact Sem.wp_mono _ _ _ (λa p' s' z=>⟨z.1,pu.trans z.2⟩) (λa p' s' z=>⟨z.1,pu.trans z.2⟩) _ _ this
 | loadIfAlive a k ih=>intro Q E p s t h;exact ih _ (t _) h
 | point _ k ih=>intro Q E p s t h;exact ih () t h
 | stack k ih=>intro Q E p s t h;exact ih _ (t _) h
 | unsupported _=>intro Q E p s _ h;exact h.elim
 | finish _=>intro Q E p s _ h;exact h.elim
 | register _ _=>intro Q E p s _ h;exact h.elim
 | _=>intro Q E p s t h;exact False.elim t
theorem cK {β:Type}{f:α->Sem β}: ∀{t:Sem α},pO t->(∀a,pO<|f a)->pO (t.bind f):=by
 intro t
 induction t with
 | pure a=>intro _ h;exact h a
 | raise e=>intro _ _;exact trivial
 | unsupported _=>intro _ _;exact trivial
 | finish _=>intro _ _;exact trivial
 | rule _ k ih=>intro t h;exact ih () t h
 | «at» _ k ih=>intro t h;exact ih () t h
 | load a _ k ih=>intro t h o;exact ih o (t o) h
 | update a _ f k ih=>intro t h;exact⟨t.1,ih () t.2 h⟩
 | alloc o k ih=>intro t h a;exact ih a (t a) h
 | loadIfAlive a k ih=>intro t h o;exact ih o (t o) h
 | point _ k ih=>intro t h;exact ih () t h
 | register _ _=>intro _ _;exact trivial
 | stack k ih=>intro t h l;exact ih l (t l) h
 | _=>intro t _;exact False.elim t
theorem a09 {M:Model}{t:Sem α}{Q:α->Shared->Prop}(c:pO t)(h:wpAny M A t Q E s):wpAny M A t (λa s'=>Q a s'/\DK s.heap s'.heap) (λe s'=>E e s'/\DK s.heap s'.heap) s:=λΓ p hin=>dM1 c (h Γ p hin)
theorem bP5 {part:Option Value}:pO (loadPart a part):=λ_=>trivial
theorem c57 (v:Value):pO (fieldsOf v):=by
 unfold fieldsOf;split
 .refine cK bP5 λo=> ?_
  split<;>exact trivial
 .exact trivial
theorem a10 (v:Value)(i:Nat):pO (PySem.field v i):=cK (c57 v) λvs=>by
 split<;>exact trivial
theorem c58 (f:Array Value->Array Value):Calm (Obj.mapFields f):=λo=>by
 obtain⟨c,d,dt,sl⟩:=o;cases dt<;>exact⟨rfl,λh=>h⟩
theorem wV (v:Value)(i:Nat)(x:Value):pO (setField v i x):=by
 unfold setField;split
 .unfold updateField;refine cK bP5 λo=> ?_
  split
  .split
   .exact⟨c58 _,trivial⟩
   .exact trivial
  .exact trivial
 .exact trivial
theorem a76 (e:Value)(f:Option Addr):pO (setFlight e f):=cK (a10 _ _) λtb=>by
 split
 .exact wV _ _ _
 .exact trivial
theorem aM7:pO stack:=λ_=>trivial
theorem cI0 (f:Addr)(b:Bool):pO (entryPlaceOf f b):=cK aM7 λl=>by
 split<;>exact trivial
theorem d74 (cls:Value)(data:Data)(d:Option Addr):pO (newObj cls data d):=by
 have as:pO (newObjAsIs cls data d):=by
  unfold newObjAsIs;refine cK (λ_=>trivial) λa=> ?_
  split
  .refine cK ?_ λb=> ?_
   .unfold classHasDel;refine cK (λ_=>trivial) λo=> ?_
    split<;>exact trivial
   .split<;>exact trivial
  .exact trivial
 unfold newObj;split<;>first|exact as| (split<;>first|exact as|exact trivial| (refine cK trivial λ_=>as))
theorem cI1 (a b c d e:Value)(pl:List Value):pO (EntryCells.newEntry a b c d e pl):=by
 unfold EntryCells.newEntry newFields;exact d74 _ _ _
theorem bA5: ∀l:List Env,pO (readyFrames l)
 | []=>trivial
 | env::outer=>by
  unfold readyFrames;split
  .refine cK (λ_=>trivial) λo=> ?_
   split
   .exact trivial
   .refine cK ?_ λb=> ?_
    .unfold behindIsImport;split
     .exact trivial
     .split
      .exact trivial
      .exact cK (a10 _ _) λ_=>trivial
    .refine cK ?_ λv=> ?_
     .unfold keptBack;split
      .split
       .exact trivial
       .exact cK (cK aM7 λ_=>trivial) λ_=>trivial
      .exact trivial
     .exact⟨λo=>⟨rfl,λh=>by obtain⟨c,d,dt,sl⟩:=o;cases dt<;>exact h⟩,bA5 outer⟩
  .exact trivial
theorem cI2 (env:Env):pO (PySem.frameOf env):=by
 unfold PySem.frameOf;refine cK (cK aM7 λ_=>trivial) λl=>cK ?_ λo=> ?_
 .unfold frameObject;split
  .exact trivial
  .exact cK (bA5 _) λ_=>trivial
 .split<;>exact trivial
theorem bP6 (e:Value)(env:Env):pO (noteFrame e env):=by
 have last: ∀h f,pO (do setField e 1 (<-EntryCells.newEntry h (<-PySem.frameOf env) .none (rawInt f) .none (<-entryPlaceOf f (h != .none)))):=λh f=>
  cK (cI2 env) λa=>cK (cI0 _ _) λb=>cK (cI1 _ _ _ _ _ _) λc=>wV _ _ _
 unfold noteFrame;split
 .refine cK (a10 _ _) λh=> ?_
  split
  .refine cK (a10 _ _) λx=> ?_
   split
   .exact trivial
   .exact cK (wV _ _ _) λ_=>last _ _
  .exact last _ _
 .exact trivial
theorem aQ8 (env:Env)(e:Value):pO (leaving env e):=cK (bP6 e env) λ_=>a76 e none
def Tr (h:Heap)(e T:Addr):Prop:= ∃oe vs,h.get? e=some oe/\oe.data= .fields vs/\vs[1]? =some (.ref T)
theorem Tr.one {e T T':Addr}(a:Tr h e T)(b:Tr h e T'):T=T':=by
 obtain⟨o,vs,h1,h2,h3⟩:=a;obtain⟨o',vs',g1,g2,g3⟩:=b;rw[h1]at g1;cases g1;rw[h2]at g2;cases g2;rw[h3]at g3;cases g3;rfl
structure aF9 (fs:List Addr)(e:Addr)(h h':Heap):Prop where
 keep: ∀b o,h.get? b=some o->b ∉ fs->b≠e-> ¬Tr h e b->h'.get? b=some o
 slot:h.UpToSlots h'
 tr: ∀T,Tr h' e T->T∈fs\/T=e\/Tr h e T\/h.get? T=none
 rcd: ∀T,Tr h' e T-> ∃o vs,h'.get? T=some o/\o.data= .fields vs
structure bK6 (fs:List Addr)(e:Addr)(h h':Heap):Prop extends aF9 fs e h h' where
 dk:DK h h'
theorem bW1 {e:Addr}{cls a0:Value}(t:h.TracedAtW base e cls a0 fl): ∃T,Tr h e T/\base.get? T=none/\T≠e/\ ∃o vs,h.get? T=some o/\o.data= .fields vs:=by
 obtain⟨oe,vs,T,oT,ts,he,_,hd,h1,hb,hne,hT,hdT,_⟩:=t;exact⟨T,⟨oe,vs,he,hd,h1⟩,hb,hne,oT,ts,hT,hdT⟩
theorem qS {B:Heap}{e T:Addr}{cls a0:Value}(t:h.TracedAtW base e cls a0 fl)(x:Tr h e T)(hn:B.get? T=none):h.TracedAtW B e cls a0 fl:=by
 obtain⟨oe,vs,T',oT,ts,he,hc,hd,h1,hb,hne,hT,hdT,h3⟩:=t;obtain rfl:=x.one ⟨oe,vs,he,hd,h1⟩;exact⟨oe,vs,T,oT,ts,he,hc,hd,h1,hn,hne,hT,hdT,h3⟩
section
variable {base h:Heap}{l:List Env}{e T:Addr}{cls a0 fl:Value}
nonrec def hid (h:Heap)(l:List Env)(e T:Addr):Heap:=PySem.W.hideAll h (frs l++[e,T])
theorem yD (hb:b∈frs l\/b=e\/b=T):(hid h l e T).get? b=none:=PySem.W.hideAll_none _ (by
 rcases hb with z|z|z
 .exact fF.mpr (.inl z)
 .exact fF.mpr (.inr<|by simp[z])
 .exact fF.mpr (.inr<|by simp[z]))
theorem aQ9 (q:h.get? b=some o)(h1:b ∉ frs l)(h2:b≠e)(h3:b≠T):(hid h l e T).get? b=some o:=PySem.W.hideAll_get _ q (by
 intro z;rcases fF.mp z with z|z
 .exact h1 z
 .simp at z
  exact z.elim h2 h3)
theorem a11 (f:h.FunFrames base l):h.FunFrames (hid h l e T) l:=PySem.W.funFrames_hide f λenv he b hb=>fF.mpr (.inl<|aK6.mpr ⟨env,he,hb⟩)
theorem aE1 (st:base.StaysIn h)(f:h.FunFrames base l)(he:base.get? e=none)(hT:base.get? T=none):base.StaysIn (hid h l e T):=λb o q=>aQ9 (st b o q) (λz=>by rw[(f.mem z).1]at q;cases q) (λz=>by rw[z,he]at q;cases q) λz=>by rw[z,hT]at q;cases q
theorem yE {B h':Heap}(st:base.StaysIn B): ∀{l:List Env},h'.FunFrames B l->h'.FunFrames base l
 | [],_=>trivial
 | env::_,⟨hk,⟨L,o,hf,hn,ho,hd⟩,hr⟩=>⟨hk,⟨L,o,hf,(by
   cases q:base.get? L with
   | none=>rfl
   | some u=>have:=st L u q;rw[hn]at this;cases this),ho,hd⟩,yE st hr⟩
theorem b66 {B:Heap}(st:base.StaysIn B)(q:B.get? b=none):base.get? b=none:=by
 cases z:base.get? b with
 | none=>rfl
 | some u=>have:=st b u z;rw[q]at this;cases this
theorem bW2 {l':List Env}(x:Tr h e T)(st:(hid h l e T).StaysIn h')(t:h'.TracedAtW (hid h l e T) e cls a0 fl)(up:h.UpToSlots h'):aF9 (frs l) e h h':=by
 refine⟨λb o q h1 h2 h3=>st b o (aQ9 q h1 h2 λz=>h3 (by rw[z];exact x)),up,λT' x'=> ?_,λT' x'=> ?_⟩
 .obtain⟨T2,y,hn,_,_⟩:=bW1 t;obtain rfl:=x'.one y
  by_cases c1:T'∈frs l
  .exact .inl c1
  by_cases c2:T'=e
  .exact .inr (.inl c2)
  by_cases c3:T'=T
  .exact .inr (.inr<|.inl (by rw[c3];exact x))
  refine .inr (.inr<|.inr ?_)
  cases q:h.get? T' with
  | none=>rfl
  | some o=>rw[aQ9 q c1 c2 c3]at hn;cases hn
 .obtain⟨T2,y,_,_,z⟩:=bW1 t;obtain rfl:=x'.one y;exact z
end
section
variable {M:Model}{A:Around}{E:Value->Shared->Prop}{s:Shared}{base:Heap}{env:Env}{outer:List Env}{L e:Addr}{cls a0:Value}{Q:Unit->Shared->Prop}
theorem cI3 (hfr:A.frames=some (env::outer))(hf:env.frame=some L)(F:FlyingW base (env::outer) e cls a0 s.heap)
  (hQ: ∀h',FlyingW base outer e cls a0 h'->aF9 (frs (env::outer)) e s.heap h'->Q () {s with heap:=h'}):wpAny M A (leaving env<|.ref e) Q E s:=by
 obtain⟨f1,f2,f3,f4⟩:=F;obtain⟨T,x,hT,_,_⟩:=bW1 (fl:= .none) f4;have stB:=aE1 (T:=T) f1 f3 f2 hT;refine wpAny_leaves_onW (base:=hid s.heap (env::outer) e T) hfr hf ⟨λb o q=>tZ _ q,yD<|.inr<|.inl rfl,a11 f3,qS (fl:= .none) f4 x<|yD<|.inr<|.inr rfl⟩ λh' F' up=> ?_
 obtain⟨g1,g2,g3,g4⟩:=F';obtain⟨T',x',hT',_,_⟩:=bW1 (fl:= .none) g4;exact hQ h' ⟨λb o q=>g1 b o (stB b o q),f2,yE stB g3,qS (fl:= .none) g4 x'<|b66 stB hT'⟩ (bW2 (l':=outer) x g1 g4 up)
theorem cW8 (hfr:A.frames=some (env::outer))(hf:env.frame=some L)(F:FlyingW base (env::outer) e cls a0 s.heap)
  (hQ: ∀h',HeldW base (env::outer) e cls a0 L h'->aF9 (frs (env::outer)) e s.heap h'->Q () {s with heap:=h'}):wpAny M A (noteFrame (.ref e) env) Q E s:=by
 obtain⟨f1,f2,f3,f4⟩:=F;obtain⟨T,x,hT,_,_⟩:=bW1 (fl:= .none) f4;have stB:=aE1 (T:=T) f1 f3 f2 hT;refine wpAny_looks_onW (base:=hid s.heap (env::outer) e T) hfr hf ⟨λb o q=>tZ _ q,yD<|.inr<|.inl rfl,a11 f3,qS (fl:= .none) f4 x<|yD<|.inr<|.inr rfl⟩ λh' F' up=> ?_
 obtain⟨g1,g2,g3,g4⟩:=F';obtain⟨T',x',hT',_,_⟩:=bW1 g4;exact hQ h' ⟨λb o q=>g1 b o (stB b o q),f2,yE stB g3,qS g4 x'<|b66 stB hT'⟩ (bW2 (l':=outer) x g1 g4 up)
theorem cW9 {l:List Env}(F:base.StaysIn s.heap/\base.get? e=none/\s.heap.FunFrames base l/\s.heap.TracedAtW base e cls a0 fl)
  (hQ: ∀h',FlyingW base l e cls a0 h'->aF9 (frs l) e s.heap h'->Q () {s with heap:=h'}):wpAny M A (setFlight (.ref e) none) Q E s:=by
 obtain⟨f1,f2,f3,f4⟩:=F;obtain⟨T,x,hT,_,_⟩:=bW1 f4;have stB:=aE1 (T:=T) f1 f3 f2 hT;refine wpAny_setFlight_noneW (base:=hid s.heap l e T) (λb o q=>tZ _ q) (a11 f3) (qS f4 x<|yD<|.inr<|.inr rfl) λh' g1 g3 g4 up=> ?_
 obtain⟨T',x',hT',_,_⟩:=bW1 (fl:= .none) g4;exact hQ h' ⟨λb o q=>g1 b o (stB b o q),f2,yE stB g3,qS (fl:= .none) g4 x'<|b66 stB hT'⟩ (bW2 (l':=l) (fl:= .none) x g1 g4 λb o q n=>⟨o.slots,up b o q n⟩)
theorem bW3 (hfr:A.frames=some (env::outer))(hl:s.heap.FunFrames base (env::outer))(hf:env.frame=some L)(he:s.heap.get? e=some oe)(hkb:base.StaysIn s.heap)(hen:base.get? e=none)(hd:oe.data= .fields vs)(h1:vs[1]? =some .none)(h0:vs[0]? =some a0)
  (hQ: ∀h',FlyingW base outer e oe.cls a0 h'->aF9 (frs (env::outer)) e s.heap h'->Q () {s with heap:=h'}):wpAny M A (leaving env<|.ref e) Q E s:=by
 have stB:=aE1 (e:=e) (T:=e) hkb hl hen hen;have nt: ∀T,¬Tr s.heap e T:=by
  rintro T ⟨o,ws,k1,k2,k3⟩;rw[he]at k1;cases k1;rw[hd]at k2;cases k2;rw[h1]at k3;cases k3
 refine wpAny_leaving_firstW (base:=hid s.heap (env::outer) e e) hfr (a11 hl) hf he (λb o q=>tZ _ q) (yD<|.inr<|.inl rfl) hd h1 h0 λh' F'=> ?_
 obtain⟨g1,⟨_,_,g3⟩,g4,up⟩:=F';obtain⟨T',x',hT',hne,hrec⟩:=bW1 (fl:= .none) g4;refine hQ h' ⟨λb o q=>g1 b o (stB b o q),hen,yE stB g3,qS (fl:= .none) g4 x'<|b66 stB hT'⟩ ⟨λb o q k1 k2 _=>g1 b o (aQ9 q k1 k2 k2),up,λT x2=> ?_,λT x2=> ?_⟩
 .obtain rfl:=x2.one x'
  by_cases c1:T∈frs (env::outer)
  .exact .inl c1
  refine .inr (.inr<|.inr ?_)
  cases q:s.heap.get? T with
  | none=>rfl
  | some o=>rw[aQ9 q c1 hne hne]at hT';cases hT'
 .obtain rfl:=x2.one x';exact hrec
theorem cX0 (hfr:A.frames=some (env::outer))(hf:env.frame=some L)(F:FlyingW base (env::outer) e cls a0 s.heap)
  (hQ: ∀h',FlyingW base outer e cls a0 h'->bK6 (frs (env::outer)) e s.heap h'->Q () {s with heap:=h'}):wpAny M A (leaving env<|.ref e) Q E s:=
 bU (a09 (aQ8 env<|.ref e)<|cI3 (Q:=λ_ s'=> ∃h',s'={s with heap:=h'}/\FlyingW base outer e cls a0 h'/\aF9 (frs (env::outer)) e s.heap h') hfr hf F λh' a b=>⟨h',rfl,a,b⟩) (λ_ s' ⟨⟨h',q,a,b⟩,dk⟩=>by subst q;exact hQ h' a ⟨b,dk⟩) λ_ _ z=>z.1
theorem d75 (hfr:A.frames=some (env::outer))(hf:env.frame=some L)(F:FlyingW base (env::outer) e cls a0 s.heap)
  (hQ: ∀h',HeldW base (env::outer) e cls a0 L h'->bK6 (frs (env::outer)) e s.heap h'->Q () {s with heap:=h'}):wpAny M A (noteFrame (.ref e) env) Q E s:=
 bU (a09 (bP6 (.ref e) env)<|cW8 (Q:=λ_ s'=> ∃h',s'={s with heap:=h'}/\HeldW base (env::outer) e cls a0 L h'/\aF9 (frs (env::outer)) e s.heap h') hfr hf F λh' a b=>⟨h',rfl,a,b⟩) (λ_ s' ⟨⟨h',q,a,b⟩,dk⟩=>by subst q;exact hQ h' a ⟨b,dk⟩) λ_ _ z=>z.1
theorem c59 {l:List Env}(F:base.StaysIn s.heap/\base.get? e=none/\s.heap.FunFrames base l/\s.heap.TracedAtW base e cls a0 fl)
  (hQ: ∀h',FlyingW base l e cls a0 h'->bK6 (frs l) e s.heap h'->Q () {s with heap:=h'}):wpAny M A (setFlight (.ref e) none) Q E s:=
 bU (a09 (a76 (.ref e) none)<|cW9 (Q:=λ_ s'=> ∃h',s'={s with heap:=h'}/\FlyingW base l e cls a0 h'/\aF9 (frs l) e s.heap h') F λh' a b=>⟨h',rfl,a,b⟩) (λ_ s' ⟨⟨h',q,a,b⟩,dk⟩=>by subst q;exact hQ h' a ⟨b,dk⟩) λ_ _ z=>z.1
theorem c60 (hfr:A.frames=some (env::outer))(hl:s.heap.FunFrames base (env::outer))(hf:env.frame=some L)(he:s.heap.get? e=some oe)(hkb:base.StaysIn s.heap)(hen:base.get? e=none)(hd:oe.data= .fields vs)(h1:vs[1]? =some .none)(h0:vs[0]? =some a0)
  (hQ: ∀h',FlyingW base outer e oe.cls a0 h'->bK6 (frs (env::outer)) e s.heap h'->Q () {s with heap:=h'}):wpAny M A (leaving env<|.ref e) Q E s:=
 bU (a09 (aQ8 env<|.ref e)<|bW3 (Q:=λ_ s'=> ∃h',s'={s with heap:=h'}/\FlyingW base outer e oe.cls a0 h'/\aF9 (frs (env::outer)) e s.heap h') hfr hl hf he hkb hen hd h1 h0 λh' a b=>⟨h',rfl,a,b⟩) (λ_ s' ⟨⟨h',q,a,b⟩,dk⟩=>by subst q;exact hQ h' a ⟨b,dk⟩) λ_ _ z=>z.1
end
structure Fly (base:Heap)(l:List Env)(e C:Addr)(H:Hp)(h:Heap):Prop where
 fl: ∃a0,FlyingW base l e (.ref C) a0 h
 he:H e=none
 ht: ∀T,Tr h e T->H T=none
structure bP7 (g:Heap)(e:Addr)(h:Heap):Prop where
 he:g.get? e=none
 ht: ∀T,Tr h e T->g.get? T=none
def XAt (h:Heap)(a:Addr)(o:Option Addr):Prop:= ∀d,o=some d-> ∃oe,h.get? a=some oe/\oe.dict=some d
theorem XAt.dk {o:Option Addr}(x:XAt h a o)(k:DK h h'):XAt h' a o:=λd q=>by
 obtain⟨oe,e1,e2⟩:=x d q;obtain⟨o',e3,e4⟩:=k a oe e1;exact⟨o',e3,e4.trans e2⟩
nonrec def CXr (P:Program)(w:World)(base:Heap):CXT:=λouter H s E e s'=> ∃a C o H',e= .ref a/\s'.os=s.os/\AllBare s'.gens/\Un (frs outer) [] H H' s.heap s'.heap/\HOk P w H' s'.heap/\Fly base outer a C H' s'.heap/\bP7 s.heap a s'.heap/\XAt s'.heap a o/\E (.ref C) o H'
section
variable {P:Program}{w:World}{H H0:Hp}{h h':Heap}{fs:List Addr}{e:Addr}
theorem HOk.past (x:HOk P w H h)(p:bK6 fs e h h')(hf: ∀b∈fs,H b=none)(he:H e=none)(ht: ∀T,Tr h e T->H T=none):HOk P w H h':=λa o q=>
 (x a o q).stay (λb u hb r=>by
  have tracked:H b≠none:=by
   rcases hb with rfl|hb
   .rw[q];simp
   .rw[hb];simp
  exact p.keep b u r (λz=>tracked (hf b z)) (λz=>tracked (by rw[z];exact he)) λz=>tracked (ht b z)) (λ_ q=>q) λ_ _ q=>q
theorem HOk.there (x:HOk P w H h)(n:h.get? b=none):H b=none:=by
 cases q:H b with
 | none=>rfl
 | some o=>
  exfalso
  have hh: ∃ob,h.get? b=some ob:=by
   have y:=x b o q;cases o with
   | lst xs=>obtain⟨_,_,_,_,e⟩:=y;exact⟨_,e⟩
   | tup xs=>obtain⟨_,_,_,ob,e,_⟩:=y;exact⟨_,e⟩
   | dK kvs=>obtain⟨_,_,_,_,o,_,_,e,_⟩:=y;exact⟨_,e⟩
   | dT kvs=>obtain⟨_,_,_,_,o,_,_,e,_⟩:=y;exact⟨_,e⟩
   | set S n=>obtain⟨o,_,_,_,e,_⟩:=y;exact⟨_,e⟩
   | ins C dx fs=>obtain⟨_,_,_,e,_⟩:=y;exact⟨_,e⟩
   | own y'=>exact y
   | xd fs=>obtain⟨_,⟨_,_,_,e,_⟩,_⟩:=y;exact⟨_,e⟩
   | rng lo hi=>obtain⟨_,_,_,e⟩:=y;exact⟨_,e⟩
   | frz ob u=>obtain⟨e,_⟩:=y;exact⟨_,e⟩
   | tbl ps=>exact⟨_,(show h.get? b=some _ from y)⟩
   | met f y'=>exact⟨_,(show h.get? b=some _ from y)⟩
   | ext φ=>obtain⟨_,e,_⟩:=y;exact e
  obtain⟨ob,e⟩:=hh;rw[n]at e;cases e
theorem b67 (x:HOk P w H h)(p:bK6 fs e h h')(hf: ∀b∈fs,H b=none)(he:H e=none)(ht: ∀T,Tr h e T->H T=none): ∀T,Tr h' e T->H T=none:=λT q=>by
 rcases p.tr T q with z|z|z|z
 .exact hf T z
 .rw[z];exact he
 .exact ht T z
 .exact x.there z
end
section
variable {X:Cx}{pins:List (Addr×Obj)}{σ:St}{H:Hp}{s:Shared}{h':Heap}{e:Addr}
theorem Un.past {fs fs':List Addr}{H0:Hp}{L:Addr}(u:Un fs [] H0 H g s.heap)(p:bK6 fs' e s.heap h')(hfs: ∀b∈fs',b=L\/b∈fs)(hL:g.get? L=none)(ne:g.get? e=none)(nt: ∀T,Tr s.heap e T->g.get? T=none)(hd: ∀b∈fs,∀o,s.heap.get? b=some o-> ∀vs,o.data≠ .fields vs):Un fs [] H0 H g h' where
 keep:=λb o q n hb hx=>p.keep b o (u.keep b o q n hb hx) (λz=>by
  rcases hfs b z with z|z
  .rw[z,hL]at q;cases q
  .exact hb z) (λz=>by rw[z,ne]at q;cases q) λz=>by rw[nt b z]at q;cases q
 slot:=λb o q n hb hx=>by
  obtain⟨sl,e1⟩:=u.slot b o q n hb hx;obtain⟨sl',e2⟩:=p.slot b _ e1 (hd b hb _ e1);exact⟨sl',e2⟩
 free:=u.free
 there:=λb o q hx=>by
  obtain⟨o',e1⟩:=u.there b o q hx
  by_cases c:b∈fs
  .obtain⟨sl,e2⟩:=p.slot b _ e1 (hd b c _ e1);exact⟨_,e2⟩
  .exact⟨o',p.keep b o' e1 (λz=>by
    rcases hfs b z with z|z
    .rw[z,hL]at q;cases q
    .exact c z) (λz=>by rw[z,ne]at q;cases q) λz=>by rw[nt b z]at q;cases q⟩
 tups:=u.tups
 frzs:=u.frzs
 tbls:=u.tbls
end
section
variable {P:Program}{w:World}{K:Frag}{mg:Str->Option Value}{base:Heap}{N:List Str}{qual:Str}{scope:Scope}{f:Addr}{cd:Value}{A:Around}{outer:List Env}{s0:Shared}{H0:Hp}{E:XK}{CX:CXT}
theorem d76 {σ:St}{H:Hp}{o:Option Addr}(I:Inv (t9 (CXr P w base) P w K mg base N qual scope f cd A outer s0 H0 E) pins σ H s')(F:Fly base (envOfC qual scope s0.heap.objs.size f cd::outer) a C H s'.heap)(nw:bP7 s0.heap a s'.heap)(xa:XAt s'.heap a o)(hE:E (.ref C) o H) :
  (t9 (CXr P w base) P w K mg base N qual scope f cd A outer s0 H0 E).xe (.ref a) s':=by
 obtain⟨⟨a0,fl⟩,he,ht⟩:=F;have fr:(A.deeper<|envOfC qual scope s0.heap.objs.size f cd).frames=some (envOfC qual scope s0.heap.objs.size f cd::outer):=I.ok.frames;have sf: ∀b∈frs (envOfC qual scope s0.heap.objs.size f cd::outer),H b=none:=I.stkFree;have fm: ∀b∈frs (envOfC qual scope s0.heap.objs.size f cd::outer),b=s0.heap.objs.size\/b∈frs outer:=λb hb=>by
  unfold frs at hb⊢;rw[iA]at hb;have e:(envOfC qual scope s0.heap.objs.size f cd).frame=some s0.heap.objs.size:=rfl;rw[e]at hb;exact aY.mp hb
 show wpAny _ _ (leaving _<|.ref a) _ _ s'
 refine cX0 fr (L:=s0.heap.objs.size) rfl fl λh' fl' p=> ?_
 have hd: ∀b∈frs outer,∀o,s'.heap.get? b=some o-> ∀vs,o.data≠ .fields vs:=λb hb o q=>by
  obtain⟨_,o',q',n⟩:=fl.2.2.1.mem (b:=b) (by
   unfold frs at hb;rw[iA];have e:(envOfC qual scope s0.heap.objs.size f cd).frame=some s0.heap.objs.size:=rfl;rw[e];exact aY.mpr (.inr hb))
  rw[q]at q';cases q';exact n
 have un:Un (frs outer) [] H0 H s0.heap h':=I.base.past p fm (l8<|aF _) nw.he nw.ht hd;refine⟨a,C,o,H,rfl,I.os,I.bare,un,I.hok.past p sf he ht,⟨⟨a0,fl'⟩,he,b67 I.hok p sf he ht⟩,⟨nw.he,λT q=> ?_⟩,xa.dk p.dk,hE⟩
 rcases p.tr T q with z|z|z|z
 .rcases fm T z with z|z
  .rw[z];exact l8 (aF _)
  .exfalso
   obtain⟨o,vs,q1,q2⟩:=p.rcd T q;obtain⟨_,o',q',n⟩:=fl'.2.2.1.mem (b:=T) z;rw[q1]at q';cases q';exact n vs q2
 .rw[z];exact nw.he
 .exact nw.ht T z
 .cases r:s0.heap.get? T with
  | none=>rfl
  | some o=>
   obtain⟨o',q'⟩:=I.base.there T o r (show T ∉ ([]:List Addr)by simp)
   rw[z]at q';cases q'
theorem dT8:wR (CXr P w base) (t9 (CXr P w base) P w K mg base N qual scope f cd A outer s0 H0 E) E:=by
 rintro pins σ H s e s' I ⟨a,C,o,H',rfl,ho,hb,un,hok,F,nw,xa,hE⟩;have I':=I.call' (s':=s') ho un hok hb (λb z=>absurd z af)
 refine d76 I' F ⟨?_,λT q=> ?_⟩ xa hE
 .cases r:s0.heap.get? a with
  | none=>rfl
  | some o=>
   obtain⟨o',q'⟩:=I.base.there a o r (show a ∉ ([]:List Addr)by simp)
   rw[nw.he]at q';cases q'
 .have:=nw.ht T q;cases r:s0.heap.get? T with
  | none=>rfl
  | some o=>
   obtain⟨o',q'⟩:=I.base.there T o r (show T ∉ ([]:List Addr)by simp)
   rw[this]at q';cases q'
end
inductive XO (h:Heap) (C N:Addr) (bm:List Value) (newId:String):Prop
 | mk (nm q:Str) (bs:List Value) (hd:Bool) (sn:List Str) (sub:List Value) (ab:Bool) (col:Option Bool) (dd:Option Addr) (k0 k1 k2 k3 k5:Option Value) (o:h.get? C=some (excClassObj nm q C N bs bm hd sn sub ab col dd k0 k1 k2 k3 k5 newId)):XO h C N bm newId
inductive XCls (h:Heap) (C:Addr) (bmB bm:List Value) (newId:String):Prop
 | mk (N:Addr) (mN:Str->Option Value) (o:XO h C N bm newId) (n:h.Ns N mN) (i:mN "__init__"=none) (t:OwnTail h bmB bm):XCls h C bmB bm newId
theorem bW4 (X:K.In h)(q:excIn K C bmB newId=true): ∃bm,XCls h C bmB bm newId:=by
 unfold excIn at q;split at q
 .rename_i od ck slots look
  split at q
  .rename_i C2 tail a0 a1 a2 a3 nid a5 em es
   simp only[dZ,eH,aL3]at q;obtain⟨⟨⟨⟨⟨rfl,rfl⟩,nodel⟩,tk⟩,nk⟩,ni⟩:=q;obtain⟨c1,c2,c3,c4,c5,c6,c7,c8,c9,c10,c11⟩:=ck;dsimp only at em nodel nk ni;subst em nodel;obtain⟨sll⟩:=slots;simp only at es;subst es;exact⟨tail,_,_,⟨_,_,_,_,_,_,_,_,_,_,_,_,_,_,X _ _ look⟩,.of_isNs<|PySem.W.isNs_of_in X nk,PySem.W.nsMap_none_of_in X nk ni,PySem.W.tail_of_in X tk⟩
  .cases q
 .cases q
section
variable {X:Cx}{E:XK}{C:Addr}
def bA6 (X:Cx)(E:XK)(C:Addr):Prop:= ∀(pins:List (Addr×Obj)) (σ:St) (H:Hp) (s:Shared) (a:Addr) (oe:Obj) (vs:Array Value) (a0:Value) (o:Option Addr),Inv X pins σ H s->s.heap.get? a=some oe->oe.cls= .ref C->oe.data= .fields vs->vs[0]? =some a0->vs[1]? =some .none->H a=none->X.s₀.heap.get? a=none->XAt s.heap a o->E (.ref C) o H->X.xe (.ref a) s
theorem cI4 {cd:Value}{s0:Shared}{H0:Hp} :
  bA6 (t9 (CXr P w base) P w K mg base N qual scope f cd A outer s0 H0 E) E C:=by
 intro pins σ H s a oe vs a0 o I he hc hd h0 h1 nH n0 xa hE;have fr:(A.deeper<|envOfC qual scope s0.heap.objs.size f cd).frames=some (envOfC qual scope s0.heap.objs.size f cd::outer):=I.ok.frames;have sf: ∀b∈frs (envOfC qual scope s0.heap.objs.size f cd::outer),H b=none:=I.stkFree;have fl0:s.heap.FunFrames base (envOfC qual scope s0.heap.objs.size f cd::outer):=I.stack
 have fe:(envOfC qual scope s0.heap.objs.size f cd).frame=some s0.heap.objs.size:=rfl;have fm: ∀b∈frs (envOfC qual scope s0.heap.objs.size f cd::outer),b=s0.heap.objs.size\/b∈frs outer:=λb hb=>by
  unfold frs at hb⊢;rw[iA,fe]at hb;exact aY.mp hb
 have nt: ∀T,¬Tr s.heap a T:=by
  rintro T ⟨o,ws,k1,k2,k3⟩;rw[he]at k1;cases k1;rw[hd]at k2;cases k2;rw[h1]at k3;cases k3
 have nb:base.get? a=none:=by
  cases q:base.get? a with
  | none=>rfl
  | some o=>rw[(I.ok.bs a o q).1]at n0;cases n0
 have st:base.StaysIn s.heap:=I.bk;show wpAny _ _ (leaving _<|.ref a) _ _ s;refine c60 fr fl0 (L:=s0.heap.objs.size) rfl he st nb hd h1 h0 λh' fl' p=> ?_
 rw[hc]at fl';have hdf: ∀b∈frs outer,∀o,s.heap.get? b=some o-> ∀vs,o.data≠ .fields vs:=λb hb o q=>by
  obtain⟨_,o',q',n⟩:=fl0.mem (b:=b) (by
   unfold frs at hb;rw[iA,fe];exact aY.mpr (.inr hb))
  rw[q]at q';cases q';exact n
 have un:Un (frs outer) [] H0 H s0.heap h':=I.base.past p fm (l8<|aF _) n0 (λT q=>absurd q (nt T)) hdf
 have ht: ∀T,Tr s.heap a T->H T=none:=λT q=>absurd q (nt T)
 refine⟨a,C,o,H,rfl,I.os,I.bare,un,I.hok.past p sf nH ht,⟨⟨a0,fl'⟩,nH,b67 I.hok p sf nH ht⟩,⟨n0,λT q=> ?_⟩,xa.dk p.dk,hE⟩
 rcases p.tr T q with z|z|z|z
 .rcases fm T z with z|z
  .rw[z];exact l8 (aF _)
  .exfalso
   obtain⟨o,ws,q1,q2⟩:=p.rcd T q;obtain⟨_,o',q',n⟩:=fl'.2.2.1.mem (b:=T) z;rw[q1]at q';cases q';exact n ws q2
 .rw[z];exact n0
 .exact absurd z (nt T)
 .cases r:s0.heap.get? T with
  | none=>rfl
  | some o=>
   obtain⟨o',q'⟩:=I.base.there T o r (show T ∉ ([]:List Addr)by simp)
   rw[z]at q';cases q'
def d77 (C:Addr)(E:XK)(ta:TA):TS:=λ_ σ H=>ta σ H λvs H1=>vs.length<=sizeLine/\E (.ref C) none H1
theorem d78 {ta:TA}{B:String}(FB:ExcBaseFacts B newId initId bmB)(q:excIn X.K C bmB newId=true)(hg:Gl X x)(hm:X.mg x=some (.ref C))(hc:X.calm=true)(ha:PA X (e::es) ta)(th:bA6 X E C)
  (he:↥(starEach (e::es) X.env=(false,eval e X.env)::starEach es X.env)) (hpl:↥((backTo cpos<|starEach es X.env).any (·.1)=false)) (hd:⇑(x∪0)) (hex:↥(X.ex=[])) :
  PS X (.Raise (some<|.Call (.Name x np) (e::es) [] cpos) none pos) (d77 C E ta):=by
 intro pins s σ H D I h;obtain⟨bm,N,mN,⟨nm,qn,bs,hdd,sn,sub,ab,col,dd,k0,k1,k2,k3,k5,hC⟩,hN,hni,tl⟩:=bW4 I.mod.kin q;have keepS: ∀{pins:List (Addr×Obj)} {σ:St} {H:Hp} {s2:Shared},Inv X pins σ H s2-> ∀b o,X.base.get? b=some o->s2.heap.get? b=some o:=λJ=>J.bk
 refine wpAny_Raise_call_subT (C:=C) (nm:=nm) (q:=qn) (N:=N) (bs:=bs) (bm:=bm) (hdct:=hdd) (sn:=sn) (sub:=sub) (ab:=ab) (col:=col) (dd:=dd) (k0:=k0) (k1:=k1) (k2:=k2) (k3:=k3) (k5:=k5) FB (mN:=mN) (tl.hasType FB.hasBase) (I.ok.hd hc) ?_ hni (w8 I hg hm ⟨rfl,?_⟩ hd)
 .rw[he];show(false||(backTo cpos<|starEach es X.env).any (·.1))=false;rw[hpl];rfl
 .have hh:=ha cpos pins s σ H _ I h;rw[he]at hh⊢;refine aJ9 (bU hh (λus s2 ⟨vs,H1,I1,r1,q1⟩=>⟨rfl,by rw[<-r1.length];exact q1.1,keepS I1 _ _ hC,hN.keeps<|keepS I1,tl.keeps<|keepS I1,λh' a mk=> ?_⟩) λ_ _ y=>y)
  obtain⟨t,m1,m2,m3⟩:=mk.there;have I2:Inv X pins σ H1 {s2 with heap:=h'}:=I1.kept mk.keeps;refine th pins σ H1 _ a _ _ (.ref t) none I2 m1 rfl rfl rfl rfl (I1.hok.there mk.new) ?_ (λd z=>by cases z) q1.2
  cases r:X.s₀.heap.get? a with
  | none=>rfl
  | some o=>
   obtain⟨o',q'⟩:=I1.base.there a o r (by rw[hex];simp)
   rw[mk.new]at q';cases q'
end
section
variable {prog:Program}{w:World}{A:Around}{E:Value->Shared->Prop}{hp:Heap}{gn:Array GenState}{dr:Drawn}{tn:Nat}{os:OsState}
variable {nm qn:Str}{C N:Addr}{bs bm bmB:List Value}{hdd:Bool}{sn:List Str}{sub:List Value}{ab:Bool}{col:Option Bool}{dd:Option Addr}{k0 k1 k2 k3 k5:Option Value}{B newId initId:String}
theorem cI5 (F:ExcBaseFacts B newId initId bmB)(T:OwnTail hp bmB bm){mN:Str->Option Value}{oI:Obj}{Q:Fin->Shared->Prop}
  (hC:hp.get? C=some (excClassObj nm qn C N bs bm hdd sn sub ab col dd k0 k1 k2 k3 k5 newId)) (hN:hp.Ns N mN) (hini:mN "__init__"=some (.ref fI)) (hfun:hp.get? fI=some oI) (hcls:oI.cls= .type "function")
  (hgo: ∀h' e,MadeExcOf hp h' e (.ref C) us->wpAny (model prog w) A (call (.ref fI) (.ref e::us)) (λr s'=>r= .none/\Q (.done<|.ret<|.ref e) s') E ⟨h',gn,dr,tn,os⟩) (hus:us.length<=sizeLine) :
  wpAny (model prog w) A (Builtin.«type.__call__» ⟨.ref C::us,[]⟩) Q E ⟨hp,gn,dr,tn,os⟩:=by
 repeat (first
  | with_reducible refine nU hC ?_
  | with_reducible refine wpAny_madeBy_exc hC ?_
  | wp_step)
 refine codeAny_call_builtin_code (Code.quiet_builtin _ F.quiet) (wpAny_check_new_subT F T hC ?_)
 refine codeAny_exc_new_subT F T hC ?_ hus
 show wpAny _ _ _ _ _ _
 generalize ea:({cls:= .type "tuple",data:= .seq us.toArray}:Obj)=oa;generalize eb:({cls:= .ref C,data:= .fields #[.ref hp.objs.size,.none,.none,.none,.bool false,.none]}:Obj)=ob;have up: ∀b o,hp.get? b=some o->((hp.push oa).push ob).get? b=some o:=λb o q=>aU _ (aU _ q)
 have g1:=up _ _ hC;have g2:=up _ _ hfun;have g3:=hN.keeps up;have g4:((hp.push oa).push ob).get? (hp.objs.size+1)=some ob:=by
  subst ea eb
  heap_get
 have g5:((hp.push oa).push ob).get? hp.objs.size=some oa:=by
  subst ea;exact aU _ (Heap.get?_push_at rfl rfl)
 have g6:=T.keeps up;have me:(Value.ref C::bm).contains (.ref C)=true:=af
 have ec:ob.cls= .ref C:=by rw[<-eb]
 unfold isInstance
 repeat (first
  | (with_reducible refine nU g4 ?_;rw[ec])
  | (with_reducible refine zE g1 ?_;rw[me])
  | wp_step)
 show wpAny _ _ (typeLookup (.ref C) _) _ _ _
 refine wpAny_typeLookup_tail g1 g3 g6 F.mroIs F.init.lookup ?_
 rw[hini];refine jB (a9 ?_);unfold bindSpecial;refine a9 (zU (T:="function") ⟨_,g2,hcls⟩ ?_);rw[a8 ac]
 have mk:MadeExcOf hp ((hp.push oa).push ob) (hp.objs.size+1) (.ref C) us:=⟨up,l8<|uF _,hp.objs.size,by rw[g4,<-eb],l8<|aF _,by rw[g5,<-ea]⟩
 refine aL (a9<|bU (hgo _ _ mk) (λr s' z=> ?_) λ_ _ z=>z)
 obtain⟨rfl,z⟩:=z
 wp_walk
 exact z
theorem xcall (F:ExcBaseFacts B newId initId bmB)(T:OwnTail hp bmB bm){mN:Str->Option Value}{oI:Obj}
  (hC:hp.get? C=some (excClassObj nm qn C N bs bm hdd sn sub ab col dd k0 k1 k2 k3 k5 newId)) (hN:hp.Ns N mN) (hini:mN "__init__"=some (.ref fI)) (hfun:hp.get? fI=some oI) (hcls:oI.cls= .type "function")
  (hgo: ∀h' e,MadeExcOf hp h' e (.ref C) us->wpAny (model prog w) (A.under<|.builtin "type.__call__" ⟨.ref C::us,[]⟩) (call (.ref fI) (.ref e::us)) (λr s'=>r= .none/\Q (.ref e) s') E ⟨h',gn,dr,tn,os⟩) (hus:us.length<=sizeLine) :
  wpAny (model prog w) A (call (.ref C) us) Q E ⟨hp,gn,dr,tn,os⟩:=by
 have t1:=tc_lookup;have t2:=tc_bind (.ref C);have t3:(⟨hp,gn,dr,tn,os⟩:Shared).TypeIs (.ref C) "type":=⟨_,hC,rfl⟩;refine uG (codeAny_of_tree ?_);show wpAny _ _ (callAny (.ref C) _) _ _ _
 repeat (any_goals (first
  | assumption
  | with_reducible refine nU hC ?_
  | wp_step))
 refine⟨rfl,?_⟩
 exact codeAny_call_builtin_at (Code.quiet_builtin _ ag) entry_typeCall (wpAny_check_type_call_sub hC<|cI5 F T hC hN hini hfun hcls (λh' e mk=>hgo h' e mk) hus)
end
open Builtin Builtin.ObjectAttr
nonrec def veMro:List Value:=[.type "ValueError",.type "Exception",.type "BaseException",.type "object"]
nonrec def uT:List Value->Bool
 | []=>false
 | v::r=>(v::r)==veMro||match v with
  | .ref _=>uT r
  | _=>false
theorem b12 (self:Value): ∀{l:List Value},uT l=true->refuseLoop self "__setattr__" l=pure ()
 | v::r,e=>by
  unfold uT at e;rcases Bool.or_eq_true_iff.mp e with q|q
  .rw[eH.mp q];exact PySem.F.store_ValueError.passes self
  .split at q
   .rw[refuseLoop_ref];exact b12 self q
   .cases q
theorem bA7: ∀{l:List Value},uT l=true->l.contains (.type "object")=true/\l.isEmpty=false
 | v::r,e=>by
  refine⟨?_,rfl⟩
  unfold uT at e;rcases Bool.or_eq_true_iff.mp e with q|q
  .rw[eH.mp q];decide
  .split at q
   .rw[aL0,(bA7 q).1,Bool.or_true]
   .cases q
section
variable {K:Frag}{prog:Program}{w:World}{A:Around}{E:Value->Shared->Prop}{s:Shared}{x C:Addr}{mA:Str->Option Value}{ns:List Str}{name:Str}{v:Value}{cd:ClassData}
theorem xosa {R:Result->Shared->Prop}{tk:Tok}(X:K.In s.heap)(hc:clsIn K C=some cd)(hm:uT cd.mro=true)(hdct:cd.hasDict=true)(ht:findIn K (.ref C) name=some none)
  (I:s.heap.Inst x C mA) (hw:Within mA ns) (hsz:ns.length<=100) {od:Option Obj} {o:Obj} (hx:s.heap.get? x=some o) (J:InstAt s.heap x o C od)
  (hq: ∀h' tk,h'.Inst x C (λy=>if y=name then some v else mA y)->(∀b o,b≠x->(∀o0 dx,s.heap.get? x=some o0->o0.dict=some dx->b≠dx)->s.heap.get? b=some o->h'.get? b=some o)->
   (∀o0,s.heap.get? x=some o0-> ∃o1,h'.get? x=some o1/\o1.cls=o0.cls/\o1.data=o0.data/\ ∀dx,o1.dict=some dx->o0.dict=some dx\/(s.heap.objs.size<=dx))->R (.ok<|.ret .none) {s with heap:=h',toks:=tk}) :
  codeAny (model prog w) A (.call (.builtin "object.__setattr__") ⟨[.ref x,.str name tk,v],[]⟩) R s:=by
 have SF:=PySem.F.store_ValueError;have sub:PySem.W.Looks (model prog w) s.heap (isInstance (.ref x)<|.type "object") true:=J.type.andThen (PySem.W.looks_mroIn X (by unfold PySem.W.mroIn;rw[hc,bind_some,a6 (by rw[(bA7 hm).2];decide),(bA7 hm).1]))
 refine codeAny_call_builtin SF.slot.plain SF.entry (@PySem.W.check_slot (model prog w) _ _ s "object.__setattr__" "object" "__setattr__" (.ref x) [.str name tk,v] [] _ SF.kind SF.split sub (SF.args (.ref x) (.str name tk) v) ?_)
 have hmr:PySem.W.Looks (model prog w) s.heap (mroOf<|.ref C) cd.mro:=(aK5 X hc).andThen .now;rw[PySem.W.osa_eq,refuse_eq];refine a9 (a9<|J.type.here<|a9<|hmr.here ?_);rw[b12 _ hm];refine aL (a9<|J.type.here<|a9<|(PySem.W.looks_findIn X ht).here<|a9<|aL ?_);have lc:=aK5 (M:=model prog w) X hc;obtain⟨o',hx',hcl,hnc,hdd⟩:=I;rw[hx]at hx';cases hx';refine a9 (aL ?_);refine a9 ?_
 show wpAny _ _ (instanceDict x true) _ _ s
 unfold instanceDict;refine a9 (wpAny_loadPart hx ?_);rw[hcl];right;refine a9 (lc.here ?_);rw[hdct];rw[a6 ac]
 clear sub hmr lc;obtain⟨hp,gn,dr,tn,os⟩:=s;dsimp only at *;have put: ∀(h1:Heap) (dx:Addr) (o1:Obj),h1.get? x=some o1->o1.cls= .ref C->(∀c,o1.data≠ .cls c)->o1.dict=some dx->dx≠x->h1.Ns1 dx mA->o1.data=o.data->(∀b ob,b≠x->hp.get? b=some ob->h1.get? b=some ob)->(o.dict=some dx\/hp.objs.size<=dx)->
   wpAny (model prog w) A.in1 (storeInDict dx (.str name tk) name v) (λfin s'=>match fin with| .done f=>R (.ok f) s'| .again c'=>c'.quiet=true/\codeAny (model prog w) A c' R s') (λe s'=>R (.error e) s') ⟨h1,gn,dr,tn,os⟩:=by
  intro h1 dx o1 g1 g2 g3 g4 g5 g6 g7 g8 g9;unfold storeInDict newKeyGuard;refine a9 (aL<|a9<|wpAny_nsSet1 g6 λh' n' sb=> ?_)
  obtain⟨oD,eD,pD,q1,q2,q3⟩:=n'.count (Within.cons name v hw);have few:eD.size<=sizeLine:=by
   refine aG q3 ?_
   rw[dI,sizeLine_eq]
   lia
  refine a9 (wpAny_lookBehind q1 (by rw[q2];exact pastItsLine_dict (aL4 few)) ?_)
  have gx:h'.get? x=some o1:=(sb.2 x<|Ne.symm g5).trans g1;refine aL (hq h' _ ⟨o1,gx,g2,g3,.inr ⟨dx,g4,g5,n'⟩⟩ (λb ob k1 k2 k3=> ?_) λo0 k1=> ?_)
  .have nb:b≠dx:=by
    rcases g9 with z|z
    .exact k2 o dx hx z
    .intro q;have:=aV k3;rw[q]at this;exact absurd (aZ this z) (d7 _)
   exact(sb.2 b nb).trans (g8 b ob k1 k3)
  .rw[hx]at k1;cases k1;exact⟨o1,gx,by rw[g2,hcl],g7,λdx' z=>by rw[g4]at z;cases z;exact g9⟩
 rcases hdd with⟨hn,hmA⟩| ⟨dx,hdx,hne,hns⟩
 .rw[hn];right;rw[a6<|by simp[typeHasDict]]
  have ex: ∀d':Data,d'=o.data->wpAny (model prog w) A.in1 (match d' with
     | .cls c=>pure none
     | _=>do
      let d<-alloc {cls:=Value.type "dict",data:=Data.dict #[]}
      update x λo=>{cls:=o.cls,dict:=some d,data:=o.data,slots:=o.slots}
      dictMade (Value.ref C) x d) (λa s'=>wpAny (model prog w) A.in1 (match a with|some d=>storeInDict d (.str name tk) name v|none=>noDictFor (.ref x) (.ref C) name (none:Option Value).isSome) (λfin s'=>match fin with| .done f=>R (.ok f) s'| .again c'=>c'.quiet=true/\codeAny (model prog w) A c' R s') (λe s'=>R (.error e) s') s') (λe s'=>R (.error e) s') ⟨hp,gn,dr,tn,os⟩:=by
   intro d' ed;split
   .rename_i c
    exact absurd ed.symm (hnc c)
   .have x1:(hp.push {cls:= .type "dict",data:= .dict #[]}).get? x=some o:=aU _ hx;have xs:x≠hp.objs.size:=bE (aV hx);refine a9 (wpAny_alloc'<|a9<|wpAny_update' x1<|aL ?_);have alive:Obj.isFreed {cls:=o.cls,dict:=some hp.objs.size,data:=o.data,slots:=o.slots}=false:=by
     have:=(Heap.get?_some_iff.mp hx).2;obtain⟨c1,c2,c3,c4⟩:=o;cases c3<;>first|rfl|exact this
    have gd:((hp.push {cls:= .type "dict",data:= .dict #[]}).update x λo=>{cls:=o.cls,dict:=some hp.objs.size,data:=o.data,slots:=o.slots}).get? hp.objs.size=some {cls:= .type "dict",data:= .dict #[]}:=
     (zD _ _ _ _<|Ne.symm xs).trans (Heap.get?_push_at rfl rfl)
    refine put _ hp.objs.size {cls:=o.cls,dict:=some hp.objs.size,data:=o.data,slots:=o.slots} (pV _ x1 alive) hcl hnc rfl (Ne.symm xs) ?_ rfl (λb ob k1 k2=>(zD _ _ _ _ k1).trans (aU _ k2)) (.inr<|aF _)
    have e0:mA=λ_=>none:=funext hmA
    rw[e0];exact Heap.Ns1.of_empty ⟨_,#[],_,gd,rfl,λe he=>absurd he af,λ_=>rfl⟩
  exact ex o.data rfl
 .rw[hdx];exact aL (put hp dx o hx hcl hnc hdx hne hns rfl (λb ob _ k=>k) (.inl hdx))
theorem xset {Q:Unit->Shared->Prop}(X:K.In s.heap)(hc:clsIn K C=some cd)(hm:uT cd.mro=true)(hdct:cd.hasDict=true)(hsa:findIn K (.ref C) "__setattr__"=some (some<|.builtin "object.__setattr__"))(ht:findIn K (.ref C) name=some none)
  (I:s.heap.Inst x C mA) (hw:Within mA ns) (hsz:ns.length<=100)
  (hq: ∀h' tk,h'.Inst x C (λy=>if y=name then some v else mA y)->(∀b o,b≠x->(∀o0 dx,s.heap.get? x=some o0->o0.dict=some dx->b≠dx)->s.heap.get? b=some o->h'.get? b=some o)->
   (∀o0,s.heap.get? x=some o0-> ∃o1,h'.get? x=some o1/\o1.cls=o0.cls/\o1.data=o0.data/\ ∀dx,o1.dict=some dx->o0.dict=some dx\/(s.heap.objs.size<=dx))->Q () {s with heap:=h',toks:=tk}) :
  wpAny (model prog w) A (setAttr (.ref x) name v) Q E s:=by
 have I':=I;obtain⟨o,hx,hcl,hnc,hdd⟩:=I;have J: ∃od,InstAt s.heap x o C od:=by
  rcases hdd with⟨e,_⟩| ⟨dx,e,_,od,es,ep,ge,_⟩
  .exact⟨none,hx,hcl,(by unfold PySem.W.notCls;split<;>first|rfl| (rename_i c q;exact absurd q (hnc c))),by rw[e];trivial⟩
  .exact⟨some od,hx,hcl,(by unfold PySem.W.notCls;split<;>first|rfl| (rename_i c q;exact absurd q (hnc c))),by rw[e];exact ge⟩
 obtain⟨od,J⟩:=J;refine PySem.W.set_plain X J hsa ?_;exact xosa (s:={s with toks:=s.toks+1}) X hc hm hdct ht I' hw hsz hx J λh' tk a b c=>hq h' tk a b c
end
inductive dT9 (K:Frag) (fI:Addr) (fd:FuncData) (f1 f2:Str):Prop
 | mk (oc:Value) (od:Option Addr) (nm qual:Str) (params:Arguments) (scope:Scope) (kV doc pm:Value) (an:Option Addr) (cdv ct:Value) (osl:Array (Option Value)) (x0 x1 x2:Str) (p1 p2 p3 p4 p5 p6 p7 p8:Pos)
  (_:fd=fnOf nm qual params [.Assign [.Attribute (.Name x0 p1) f1 p2] (.Name x1 p3) p4,.Assign [.Attribute (.Name x0 p5) f2 p6] (.Name x2 p7) p8] scope .none kV doc pm an cdv ct)
  (_:K.lookup fI=some ⟨oc,od,.func fd,osl⟩) (_:oc= .type "function") (_:codeIn K cdv qual=true) (_:aW [x0,x1,x2] [x0,x1,x2] scope)
  (_:scope.names.lookup x0=some .local) (_:scope.names.lookup x1=some .local) (_:scope.names.lookup x2=some .local) (_:x0∪0) (_:x1∪0) (_:x2∪0) (_:Binds K fd [x0,x1,x2] []):dT9 K fI fd f1 f2
structure c61 (K:Frag)(C fI:Addr)(fd:FuncData)(f1 f2:Str):Prop where
 ex:dT9 K fI fd f1 f2
 cls: ∃cd,clsIn K C=some cd/\uT cd.mro=true/\cd.hasDict=true
 sa:findIn K (.ref C) "__setattr__"=some (some<|.builtin "object.__setattr__")
 n1:findIn K (.ref C) f1=some none
 n2:findIn K (.ref C) f2=some none
inductive Laid (C e:Addr) (f1 f2:Str) (v1 v2:V) (s s':Shared):Prop
 | mk (_:s'.os=s.os) (_:AllBare s'.gens) (_: ∀b o,s.heap.get? b=some o->s'.heap.get? b=some o) (oe:Obj) (t d:Addr) (w1 w2:Value) (_:s'.heap.get? e=some oe) (_:oe.cls= .ref C) (_:oe.data= .fields #[.ref t,.none,.none,.none,.bool false,.none]) (_:oe.dict=some d) (_:d≠e) (_:s.heap.get? d=none) (_:RelV v1 w1) (_:RelV v2 w2) (_:s'.heap.Ns1 d (λy=>if y=f2 then some w2 else if y=f1 then some w1 else none)):Laid C e f1 f2 v1 v2 s s'
section
variable {X:Cx}{pins:List (Addr×Obj)}{σ:St}{H:Hp}{s:Shared}{C fI e:Addr}{fd:FuncData}{f1 f2:Str}{h1:Heap}{u1 u2:Value}{v1 v2:V}{E:Value->Shared->Prop}{k:Nat}
theorem cX1 (T:c61 X.K C fI fd f1 f2)(I:Inv X pins σ H s)(hr:gT (k+1) X.A)(mk:MadeExcOf s.heap h1 e (.ref C) [u1,u2])(r1:RelV v1 u1)(r2:RelV v2 u2) :
  wpAny (model X.prog X.w) (X.A.under<|.builtin "type.__call__" ⟨.ref C::[u1,u2],[]⟩) (call (.ref fI) (.ref e::[u1,u2])) (λr s'=>r= .none/\Laid C e f1 f2 v1 v2 s s') E {s with heap:=h1}:=by
 obtain⟨oc,od,nm,qual,params,scope,kV,doc,pm,an,cdv,ct,osl,x0,x1,x2,p1,p2,p3,p4,p5,p6,p7,p8,rfl,lk,_,hcd,S,l0,l1,l2,d0,d1,d2,hb⟩:=T.ex;obtain⟨cd,hc,hm,hdct⟩:=T.cls;have I1:Inv X pins σ H {s with heap:=h1}:=I.kept mk.keeps;have e0:=I1.env0.make C [u1,u2] [];have rm:=hr.make C [u1,u2] [];have KX:=I1.kIn;have lim:=I1.nolimit
 have us:Vals [V.ref e,v1,v2] [Value.ref e,u1,u2]:= .cons rfl (.cons r1<|.cons r2 .nil);have hkind: ∀y∈[x0,x1,x2].zip [Value.ref e,u1,u2],scope.names.lookup y.1=some .local\/(scope.names.lookup y.1=some .cell/\((cellsFrom (h1.objs.size+1) scope.names []).lookup y.1).isSome=true):=λ⟨n,v⟩ hy=>by
  have:=(zN hy).1;simp at this;rcases this with rfl|rfl|rfl
  .exact .inl l0
  .exact .inl l1
  .exact .inl l2
 refine uG ?_
 have bd:=hb {s with heap:=h1} [Value.ref e,u1,u2] KX rfl;rw[kA]at bd;refine codeAny_call_function rm.depth (KX _ _ lk) rfl S.co S.gen rfl (PySem.W.codeRec_of KX hcd) (bd _ _ _ _ ?_);refine wpAny_newFunctionEnv_cells S.kind hkind λenv he s2 x=> ?_
 subst he;refine⟨lim.keeps x.toInCall.keep,codeAny_func ?_⟩;have J:Inv (t9 CX0 X.prog X.w X.K X.mg X.base [x0,x1,x2] qual scope fI cdv (X.A.under<|.builtin "type.__call__" ⟨.ref C::[u1,u2],[]⟩) X.stack {s with heap:=h1} H E0) [] (start [x0,x1,x2] [V.ref e,v1,v2]) H s2:=bO2 S rm.hd e0 rfl us x;obtain⟨m,hn,hl⟩:=J.loc
 have look: ∀(i:Nat) (y:Str) (v:V),[x0,x1,x2][i]? =some y->(start [x0,x1,x2] [V.ref e,v1,v2])[i]? =some (some v)->scope.names.lookup y=some .local-> ∃u,RelV v u/\m y=some u:=λi y v q1 q2 q3=>by
  obtain⟨u,r,lo⟩:=hl i y v q1 q2 (.inl q3);rcases lo with⟨_,hm⟩| ⟨z,_⟩
  .exact⟨u,r,hm⟩
  .have z':scope.names.lookup y=some .cell\/scope.names.lookup y=some .free:=z;rw[q3]at z';rcases z' with z'|z'<;>cases z'
 obtain⟨w0,q0,m0⟩:=look 0 x0 (.ref e) rfl rfl l0;obtain⟨w1,q1,m1⟩:=look 1 x1 v1 rfl rfl l1;obtain⟨w2,q2,m2⟩:=look 2 x2 v2 rfl rfl l2;obtain rfl:w0=Value.ref e:=q0;have kk:=J.ok.kind;have kin:X.K.In s2.heap:=KX.keeps x.toInCall.keep;obtain⟨t,t1,t2,t3⟩:=mk.there;have ge:s2.heap.get? e=some {cls:= .ref C,data:= .fields #[.ref t,.none,.none,.none,.bool false,.none]}:=x.toInCall.keep _ _ t1
 have eL:e≠h1.objs.size:=bE (aV t1);have in0:s2.heap.Inst e C (λ_=>none):=⟨_,ge,rfl,(λc z=>by cases z),.inl ⟨rfl,λ_=>rfl⟩⟩
 refine u5 (aI0<|nX (pX kk l1 hn m1<|nX (pX kk l0 hn m0 ?_) d0) d1)
 refine xset kin hc hm hdct T.sa T.n1 in0 (ns:=[]) (λn z=>absurd rfl z) af λh3 tk3 in3 kp3 ob3=> ?_
 obtain⟨o3,g3,c3,dt3,dd3⟩:=ob3 _ ge;have keep3: ∀b o,b≠e->s2.heap.get? b=some o->h3.get? b=some o:=λb o n q=>kp3 b o n (λo0 dx z1 z2=>by rw[ge]at z1;cases z1;cases z2) q
 have hn3:h3.Ns h1.objs.size m:=by
  obtain⟨o,es,ep,z1,z2⟩:=hn;exact⟨o,es,ep,keep3 _ _ (Ne.symm eL) z1,z2⟩
 have keep3': ∀b o,s.heap.get? b=some o->h3.get? b=some o:=λb o q=>keep3 b o (λz=>by rw[z,mk.new]at q;cases q) (x.toInCall.keep _ _<|mk.keeps b o q)
 have kin3:X.K.In h3:=I.kIn.keeps keep3';refine u5 (aI0<|nX (pX kk l2 hn3 m2<|nX (pX kk l0 hn3 m0 ?_) d0) d2);refine xset kin3 hc hm hdct T.sa T.n2 in3 (ns:=[f1]) (λn z=> ?_) af λh4 tk4 in4 kp4 ob4=> ?_
 .by_cases c:n=f1
  .simp[c]
  .rw[a6 c]at z;exact absurd rfl z
 obtain⟨o4,g4,c4,dt4,dd4⟩:=ob4 _ g3;refine nV ?_;obtain⟨o5,g5,_,_,dd5⟩:=in4;rw[g4]at g5;cases g5;rcases dd5 with⟨_,no⟩| ⟨d,ed,de,nd⟩
 .have:=no f2;simp at this
 have dn:s.heap.get? d=none:=by
  cases q:s.heap.get? d with
  | none=>rfl
  | some o=>
   exfalso
   have a3:=aV (keep3' d o q);have a2:=aV (x.toInCall.keep _ _<|mk.keeps d o q);rcases dd4 d ed with z|z
   .rcases dd3 d z with z|z
    .cases z
    .exact absurd (aZ a2 z) (d7 _)
   .exact absurd (aZ a3 z) (d7 _)
 refine⟨rfl,J.os,J.bare,λb o q=> ?_,o4,t,d,w1,w2,g4,?_,?_,ed,de,dn,q1,q2,nd⟩
 .refine kp4 b o (λz=>by rw[z,mk.new]at q;cases q) (λo0 dx z1 z2=> ?_) (keep3' b o q)
  rw[g3]at z1;cases z1;rcases dd3 dx z2 with z|z
  .cases z
  .intro z';have:=aV (x.toInCall.keep _ _<|mk.keeps b o q);rw[z']at this;exact absurd (aZ this z) (d7 _)
 .rw[c4,c3]
 .rw[dt4,dt3]
end
nonrec def a77 (K:Frag)(C fI:Addr)(bmB:List Value)(newId:String):Bool:=match K.lookup C with
 | some ⟨.type "type",_,.cls ck,sl⟩=>(match ck.mro,sl.toList with
  | .ref C2::tail,[_,_,_,_,some<|.builtin nid,_]=>C2==C&&nid==newId&& !ck.hasDel&&PySem.W.tailIn K bmB tail&&PySem.W.nsOkIn K ck.ns&&nsIn K ck.ns "__init__"==some (some<|.ref fI)
  | _,_=>false)
 | _=>false
theorem dM2 {N:Addr}{n:Str}(X:K.In h)(G:h.Ns N mg)(e:nsIn K N n=some (some v)):mg n=some v:=by
 obtain⟨ob,ents,np,look0,dat,_,find0⟩:=G;unfold nsIn at e;split at e
 .rename_i look
  have same:=X _ _ look;rw[look0]at same;cases same;cases dat;split at e
  .rename_i en found
   cases e;rw[<-find0];unfold nsFind findBy;rw[<-Array.find?_toList,found];rfl
  .split at e<;>cases e
 .cases e
inductive dU0 (h:Heap) (C fI:Addr) (bmB bm:List Value) (newId:String):Prop
 | mk (N:Addr) (mN:Str->Option Value) (o:XO h C N bm newId) (n:h.Ns N mN) (i:mN "__init__"=some (.ref fI)) (t:OwnTail h bmB bm):dU0 h C fI bmB bm newId
theorem c62 (X:K.In h)(q:a77 K C fI bmB newId=true): ∃bm,dU0 h C fI bmB bm newId:=by
 unfold a77 at q;split at q
 .rename_i od ck slots look
  split at q
  .rename_i C2 tail a0 a1 a2 a3 nid a5 em es
   simp only[dZ,eH,aL3]at q;obtain⟨⟨⟨⟨⟨rfl,rfl⟩,nodel⟩,tk⟩,nk⟩,ni⟩:=q;obtain⟨c1,c2,c3,c4,c5,c6,c7,c8,c9,c10,c11⟩:=ck;dsimp only at em nodel nk ni;subst em nodel;obtain⟨sll⟩:=slots;simp only at es;subst es;have nsk:h.Ns c4 (h.nsMap c4):= .of_isNs (PySem.W.isNs_of_in X nk);exact⟨tail,_,_,⟨_,_,_,_,_,_,_,_,_,_,_,_,_,_,X _ _ look⟩,nsk,dM2 X nsk ni,PySem.W.tail_of_in X tk⟩
  .cases q
 .cases q
section
variable {M:Model}{A:Around}{E:Value->Shared->Prop}{s:Shared}{env:Env}
variable {nm qn:Str}{C N:Addr}{bs bm:List Value}{hdd:Bool}{sn:List Str}{sub:List Value}{ab:Bool}{col:Option Bool}{dd:Option Addr}{k0 k1 k2 k3 k5:Option Value}{newId:String}
theorem xraise {x:Sem Value}{Q:Flow->Shared->Prop}(hbase:bm.contains (.type "BaseException")=true)(hh:A.handled=none)
  (h:wpAny M A x (λv s1=> ∃e oe vs,v= .ref e/\s1.heap.get? C=some (excClassObj nm qn C N bs bm hdd sn sub ab col dd k0 k1 k2 k3 k5 newId)/\s1.heap.get? e=some oe/\oe.cls= .ref C/\oe.data= .fields vs/\vs[1]? =some .none/\E (.ref e) s1) E s) :
  wpAny M A (raiseStmt env (some x) none) Q E s:=by
 have has:(Value.ref C::bm).contains (.type "BaseException")=true:=by rw[aL0,hbase,Bool.or_true]
 unfold raiseStmt;refine a9 (bU h (λv s1 z=> ?_) λ_ _ y=>y)
 obtain⟨e,oe,vs,rfl,hC,he,hcl,hdt,h1,hE⟩:=z;obtain⟨hp,gn,dr,tn,os⟩:=s1;obtain⟨oc,od,odt,osl⟩:=oe;dsimp only at hcl hdt;subst hcl hdt
 repeat (first
  | with_reducible refine nU he ?_
  | with_reducible refine nU hC ?_
  | (with_reducible refine zE hC ?_;rw[has])
  | wp_step)
 rw[h1];refine aL (aL ?_);exact wpAny_raiseNew_none hh hE
end
section
variable {P:Program}{w:World}{H:Hp}{h h':Heap}{a:Addr}{o:HO}{fs ex:List Addr}
theorem HOk.laidN (x:HOk P w H h)(k: ∀b u,h.get? b=some u->h'.get? b=some u)(hn:H a=none)(new:rO P w (upd H a o) h' a o):HOk P w (upd H a o) h':=λb u e=>by
 by_cases hb:b=a
 .subst hb;rw[iU]at e;cases e;exact new
 .rw[cI hb]at e;exact(x b u e).stay (λc v _ q=>k c v q) (λc q=>by rw[cI<|cX q hn];exact q) λc xs q=>by rw[cI<|cX q hn];exact q
theorem Un.laidN (k: ∀b u,h.get? b=some u->h'.get? b=some u)(hp:h.get? a=none)(hn:H a=none):Un fs ex H (upd H a o) h h' where
 keep:=λb u q _ _ _=>k b u q
 slot:=λb u q _ _ _=>⟨u.slots,k b u q⟩
 free:=λb u q n _=>by rw[cI (λz=>by rw[z,hp]at q;cases q)];exact n
 there:=λb u q _=>⟨u,k b u q⟩
 tups:=λb xs q=>by rw[cI<|cX q hn];exact q
 frzs:=λb u xs q=>by rw[cI<|cX q hn];exact q
 tbls:=λb ps q=>⟨#[],by rw[cI<|cX q hn,q];simp⟩
end
theorem d79 {w1 w2:V}(r:Vals [w1,w2] us): ∃u1 u2,us=[u1,u2]/\RelV w1 u1/\RelV w2 u2:=by
 cases r with
 | cons a r=>
  cases r with
  | cons b r=>
   cases r;exact⟨_,_,rfl,a,b⟩
section
variable {X:Cx}{E:XK}{C fI:Addr}
def dM3 (C:Addr)(f1 f2:Str)(E:XK)(ta:TA):TS:=λ_ σ H=>ta σ H λvs H1=> ∃v1 v2,vs=[v1,v2]/\ ∀d,H1 d=none->E (.ref C) (some d) (upd H1 d<|.xd [(f1,v1),(f2,v2)])
theorem cX2 {x:Str}{np cpos pos:Pos}{e1 e2:Expr}{ta:TA}{B newId initId:String}{bmB:List Value}{fd:FuncData}{f1 f2:Str}{k:Nat}(FB:ExcBaseFacts B newId initId bmB)(q:a77 X.K C fI bmB newId=true)(T:c61 X.K C fI fd f1 f2)(hr:gT (k+1) X.A)(hg:Gl X x)(hm:X.mg x=some (.ref C))(hc:X.calm=true)(ha:PA X [e1,e2] ta)(th:bA6 X E C)(hne:f1≠f2)
  (he:↥(starEach [e1,e2] X.env=(false,eval e1 X.env)::starEach [e2] X.env)) (hpl:↥((backTo cpos<|starEach [e2] X.env).any (·.1)=false)) (hd:⇑(x∪0)) (hex:↥(X.ex=[])) :
  PS X (.Raise (some<|.Call (.Name x np) [e1,e2] [] cpos) none pos) (dM3 C f1 f2 E ta):=by
 intro pins s σ H D I h;obtain⟨bm,N,mN,⟨nm,qn,bs,hdd,sn,sub,ab,col,dd,k0,k1,k2,k3,k5,hC⟩,hN,hni,tl⟩:=c62 I.mod.kin q;have keepS: ∀{pins:List (Addr×Obj)} {σ:St} {H:Hp} {s2:Shared},Inv X pins σ H s2-> ∀b o,X.base.get? b=some o->s2.heap.get? b=some o:=λJ=>J.bk
 rw[arm_exec_Raise];refine a9 (u9<|xraise (C:=C) (nm:=nm) (qn:=qn) (N:=N) (bs:=bs) (bm:=bm) (hdd:=hdd) (sn:=sn) (sub:=sub) (ab:=ab) (col:=col) (dd:=dd) (k0:=k0) (k1:=k1) (k2:=k2) (k3:=k3) (k5:=k5) (newId:=newId) (tl.hasType FB.hasBase) (I.ok.hd hc) ?_);refine a9 (bU (wpAny_Call_ofName<|w8 I hg hm ?_ hd) (λv s3 h3=>a9 (u9<|aL h3)) λ_ _ z=>z)
 have plain:(backTo cpos<|starEach [e1,e2] X.env).any (·.1)=false:=by
  rw[he];show(false||(backTo cpos<|starEach [e2] X.env).any (·.1))=false;rw[hpl];rfl
 have hh:=ha cpos pins s σ H _ I h;unfold callWith;rw[he]at hh plain⊢;refine a9 (jB<|aJ9<|bU hh (λus s2 z=>a9 (u9 ?_)) λ_ _ z=>z)
 obtain⟨vs,H1,I1,r1,w1,w2,rfl,hE⟩:=z;simp only[plain];have hC2:=keepS I1 _ _ hC;obtain⟨u1,u2,rfl,q1,q2⟩:=d79 r1;obtain⟨oc,od,_,_,_,_,_,_,_,_,_,_,osl,_,_,_,_,_,_,_,_,_,_,_,efd,lk,oce,_⟩:=T.ex;have gf:=I1.kIn _ _ lk;obtain⟨hp,gn,dr,tn,os⟩:=s2;refine a9 (wpAny_keeperOf_exc hC2 ?_);refine a9 (xcall FB (tl.keeps<|keepS I1) hC2 (hN.keeps<|keepS I1) hni gf oce (λh' a mk=> ?_) (by simp;decide))
 refine bU (cX1 T I1 hr mk q1 q2) (λr s' z=> ?_) λ_ _ z=>z
 obtain⟨rfl,z1,z2,z3,oe,t,d,y1,y2,z4,z5,z6,ed,de,dn,x1,x2,nd⟩:=z;refine⟨rfl,a9<|jB<|wpAny_point<|aL ?_⟩;have dH:H1 d=none:=I1.hok.there dn;have I2:Inv X pins σ (upd H1 d<|.xd [(f1,w1),(f2,w2)]) s':=by
  obtain⟨hp',gn',dr',tn',os'⟩:=s';obtain rfl:os'=os:=z1;refine I1.call (h':=hp') (g':=gn') (d':=dr') (t':=tn') (ch:=[]) (Un.laidN z3 dn dH) (I1.hok.laidN z3 dH ?_) z2 (λb z=>absurd z af)
  refine⟨_,nd,λf=> ?_⟩
  simp only[cU,List.lookup_nil]
  by_cases c1:f=f1
  .subst c1;rw[aL7,a6 hne,a8 rfl];exact x1
  .rw[show(f==f1)=false from pY.mpr c1]
   by_cases c2:f=f2
   .subst c2;rw[aL7,a8 rfl];exact x2
   .rw[show(f==f2)=false from pY.mpr c2,a6 c2,a6 c1]
    exact trivial
 refine⟨a,oe,_,rfl,z3 _ _ hC2,z4,z5,z6,rfl,?_⟩
 refine th pins σ _ s' a oe _ (.ref t) (some d) I2 z4 z5 z6 rfl rfl (by rw[cI<|Ne.symm de];exact I1.hok.there mk.new) ?_ (λd' e=>by cases e;exact⟨oe,z4,ed⟩) (hE d dH)
 cases r:X.s₀.heap.get? a with
 | none=>rfl
 | some o=>
  obtain⟨o',q'⟩:=I1.base.there a o r (by rw[hex];simp)
  rw[mk.new]at q';cases q'
end
end L2
namespace M
abbrev XP:=Str->List D->Prop
abbrev ΦX:=List D->(B->Prop)->XP->Prop
nonrec def bP8 (n:Str):List Str:=if n="FallsApart" then ["left","right"]else if n="NotWhole" then ["prime","number"]else []
nonrec def XR (K:Frag)(A:AS)(H:Hp)(n:Str)(ds:List D):Option Addr->Prop
 | none=>bP8 n=[]
 | some d=> ∃vs,¬A d/\H d=some (.xd<|(bP8 n).zip vs)/\(bP8 n).length=vs.length/\bY K A H ds vs
theorem XR.mono {K:Frag}{A A':AS}{H H':Hp}{n:Str}{ds:List D}(p:nE A H A' H'): ∀{o:Option Addr},XR K A H n ds o->XR K A' H' n ds o
 | none,h=>h
 | some d,⟨vs,h1,h2,h3,h4⟩=>⟨vs,(p d _ h1 h2).1,(p d _ h1 h2).2,h3,h4.mono p⟩
nonrec def spX (K:Frag)(mg:Str->Option Value)(φ:ΦX):Sp:=λvs H Q E=> ∃A ds Q0 Ex,(∀a,A a->H a≠none)/\bY K A H ds vs/\φ ds Q0 Ex/\(∀b v H',Q0 b->gZ H H'->uL K A H H' b v->Q v H')/\ ∀n C es o H',Ex n es->mg n=some (.ref C)->gZ H H'->XR K A H' n es o->E (.ref C) o H'
structure FnX (P:Program)(w:World)(K:Frag)(mg:Str->Option Value)(base:Heap)(x:Str)(ps:List Str)(k:Nat)(φ:ΦX):Prop where
 ex: ∃f fd,sC P w K mg base (CXr P w base) k f fd ps (spX K mg φ)/\Binds K fd ps []/\keepIn K (.ref f)=true/\mg x=some (.ref f)
abbrev USX:=XP->US
def lSX (K:Frag)(mg:Str->Option Value)(E:XK)(t:USX):TS:=λD σ H=> ∃C ρ D0 Ex,EOk K C ρ σ H/\t Ex D0 ρ/\DOk K C D0 D/\ ∀n Cl es o H',Ex n es->mg n=some (.ref Cl)->gZ C.H0 H'->XR K C.A0 H' n es o->E (.ref Cl) o H'
def bW5 (X:Cx)(E:XK)(st:Stmt)(t:USX):Prop:=PS X st (lSX X.K X.mg E t)
def a48 (X:Cx)(E:XK)(sts:List Stmt)(t:USX):Prop:=PSs X sts (lSX X.K X.mg E t)
section
variable {X:Cx}{E:XK}{st:Stmt}{sts:List Stmt}{t u:USX}{e:Expr}{es:List Expr}{pos:Pos}
theorem aR0 {t:US}(h:PUS X st t):bW5 X E st (λ_=>t):=sU h λD σ H ⟨C,ρ,D0,Ex,I,h,k,_⟩=>⟨C,ρ,D0,I,h,k⟩
theorem d80 {t:US}(h:tD X sts t):a48 X E sts (λ_=>t):=b89 h λD σ H ⟨C,ρ,D0,Ex,I,h,k,_⟩=>⟨C,ρ,D0,I,h,k⟩
theorem bW6 (h1:bW5 X E st t)(h2:a48 X E sts u):a48 X E (st::sts) (λEx=>aT (t Ex) (u Ex)):=
 b89 (uJ h1 h2) λD σ H ⟨C,ρ,D0,Ex,I,h,k,kx⟩=>⟨C,ρ,{D0 with nx:=u Ex D0},Ex,I,h,⟨λρ' σ' H' q I'=>⟨C,ρ',D0,Ex,I',q,k,kx⟩,k.rt,k.bk,k.ct⟩,kx⟩
theorem bA8 (h1:bW5 X E st t):a48 X E [st] t:=b57 h1
theorem cI6:a48 X E [] (λ_=>fJ):=d80 cG2
theorem d81 {a b:List Stmt}{tc:UT}(hc:PUT X c tc)(ha:a48 X E a t)(hb:a48 X E b u):bW5 X E (.If c a b pos) (λEx=>iL tc (t Ex) (u Ex)):=
 sU (dT1 hc ha hb) λD σ H ⟨C,ρ,D0,Ex,I,h,k,kx⟩=>⟨C,ρ,_,I,h,λc ρ1 H1 q f s=>by
  have I1:=(I.frz f).same s;cases c with
  | true=>
   dsimp only at q⊢;rw[a8 rfl]at q⊢;exact⟨C,ρ1,D0,Ex,I1,q,k,kx⟩
  | false=>
   dsimp only at q⊢;rw[a6 ac]at q⊢
   exact⟨C,ρ1,D0,Ex,I1,q,k,kx⟩⟩
def bW7 (φ:ΦX)(t:UA)(Ex:XP):UE:=λρ Q=>t ρ λds ρ1=>φ ds (λb=>Q b ρ1) Ex
theorem spX_of {φ:ΦX}{C:C0}{ρ ρ1:Ev}{σ:L2.St}{H H1:Hp}{ds:List D}{vs:List V}{Q0:B->Prop}{Ex:XP}{Q:VK}(I:EOk X.K C ρ σ H)(f:Frz ρ ρ1)(s:gZ H H1)(r:bY X.K (Av C ρ1 σ) H1 ds vs)(q:φ ds Q0 Ex)(kq: ∀b v H',Q0 b->gZ H1 H'->uL X.K (Av C ρ1 σ) H1 H' b v->Q v H')(kx: ∀n Cl es o H',Ex n es->X.mg n=some (.ref Cl)->gZ C.H0 H'->XR X.K C.A0 H' n es o->E (.ref Cl) o H'):spX X.K X.mg φ (vs++[]) H1 Q E:=by
 have I1:=(I.frz f).same s;rw[kA];exact⟨Av C ρ1 σ,ds,Q0,Ex,λa z=>I1.avSome z,r,q,kq,λn Cl es o H' ex hm s' x=>kx n Cl es o H' ex hm (I1.ext.trans s') (x.mono<|.sub (.refl _) λa z=> .inl z)⟩
theorem cP3 {ps:List Str}{φ:ΦX}{t:UA}(F:FnX X.prog X.w X.K X.mg X.base x ps k φ)(hr:gT k' X.A)(hk:k<=k')(hp:wR (CXr X.prog X.w X.base) X E)(hg:Gl X x)(ha:PUA X (e::es) t)(hdb:⇑(x∪0))
  (he:↥(starEach (e::es) X.env=(false,eval e X.env)::starEach es X.env)) (hpl:↥((backTo cpos<|starEach es X.env).any (·.1)=false)) (hs:↥(swapsWith (.Call (.Name x p) (e::es) [] cpos) none pos.line X.env=pure false)) :
  bW5 X E (.Expr (.Call (.Name x p) (e::es) [] cpos) pos) (λEx=>aQ6 (bW7 φ t Ex)):=by
 obtain⟨f,fd,G,b,kp,m⟩:=F.ex;exact sU (bT7 (cN3 G (hr.mono hk) hg m kp b .nil hp ha hdb he hpl) hs) λD σ H ⟨C,ρ,D0,Ex,I,h,k,kx⟩=>⟨C,ρ,_,I,h,λds ρ1 vs H1 q f s r=>spX_of I f s r q (λb v H' q' s' r'=>k.nx _ _ _ q' (((I.frz f).same s).same s')) kx⟩
def bW8 (x:Str)(t:UA)(Ex:XP):US:=λ_ ρ=>t ρ λds _=>ds.length<=sizeLine/\Ex x []
theorem lRaise {t:UA}(hm:X.mg x=some (.ref C))(hk:bP8 x=[])(D:bJ9)(σ:L2.St)(H:Hp)(h:lSX X.K X.mg E (λEx=>bW8 x t Ex) D σ H):d77 C E (lA X.K t) D σ H:=by
 obtain⟨C0,ρ,D0,Ex,I,h,k,kx⟩:=h;exact⟨C0,ρ,_,I,h,λds ρ1 vs H1 q f s r=>⟨by rw[<-r.length];exact q.1,kx x C [] none H1 q.2 hm (I.ext.trans s) hk⟩⟩
def aR1 (x:Str)(t1 t2:UE)(Ex:XP):US:=λ_ ρ=>t1 ρ λa ρ1=>t2 ρ1 λb _=>Ex x [a.d,b.d]
theorem d82 {t:UA}{B:String}(FB:ExcBaseFacts B newId initId bmB)(q:excIn X.K C bmB newId=true)(hg:Gl X x)(hm:X.mg x=some (.ref C))(hc:X.calm=true)(ha:PUA X (e::es) t)(th:bA6 X E C)(hk:bP8 x=[])
  (he:↥(starEach (e::es) X.env=(false,eval e X.env)::starEach es X.env)) (hpl:↥((backTo cpos<|starEach es X.env).any (·.1)=false)) (hd:⇑(x∪0)) (hex:↥(X.ex=[])) :
  bW5 X E (.Raise (some<|.Call (.Name x np) (e::es) [] cpos) none pos) (λEx=>bW8 x t Ex):=sU (d78 FB q hg hm hc ha th he hpl hd hex) (lRaise hm hk)
theorem bP9 {e1 e2:Expr}{t1 t2:UE}{B:String}(FB:ExcBaseFacts B newId initId bmB)(q:a77 X.K C fI bmB newId=true)(T:c61 X.K C fI fd f1 f2)(hr:gT (k+1) X.A)(hg:Gl X x)(hm:X.mg x=some (.ref C))(hc:X.calm=true)(ha:PUA X [e1,e2] (a7 t1<|a7 t2 aK))(th:bA6 X E C)(hk:bP8 x=[f1,f2])(hne:f1≠f2)
  (he:↥(starEach [e1,e2] X.env=(false,eval e1 X.env)::starEach [e2] X.env)) (hpl:↥((backTo cpos<|starEach [e2] X.env).any (·.1)=false)) (hd:⇑(x∪0)) (hex:↥(X.ex=[])) :
  bW5 X E (.Raise (some<|.Call (.Name x np) [e1,e2] [] cpos) none pos) (λEx=>aR1 x t1 t2 Ex):=by
 refine sU (cX2 FB q T hr hg hm hc ha th hne he hpl hd hex) λD σ H ⟨C0,ρ,D0,Ex,I,h,k,kx⟩=> ?_
 refine⟨C0,ρ,λds _=> ∃a b,ds=[a,b]/\Ex x ds,I,?_,λds ρ' vs H' ⟨a,b,q1,q2⟩ f s r=> ?_⟩
 .have e9: ∀(z y:M.B) (ρ2:Ev),(∃a b,[z.d,y.d]=[a,b]/\Ex x [z.d,y.d])=Ex x [z.d,y.d]:=λz y ρ2=>propext ⟨λ⟨_,_,_,w⟩=>w,λw=>⟨_,_,rfl,w⟩⟩
  show t1 ρ λz ρ1=>t2 ρ1 λy ρ2=> ∃a b,[z.d,y.d]=[a,b]/\Ex x [z.d,y.d]
  have:=h;unfold aR1 at this;simp only[e9 _ _ ρ];exact this
 .subst q1;obtain⟨v1,vr,rfl,r1,r2⟩:=r.uncons;obtain⟨v2,vr2,rfl,r3,r4⟩:=r2.uncons;cases r4.unnil;refine⟨v1,v2,rfl,λd hd=> ?_⟩
  have I1:=(I.frz f).same s;have s2:gZ H' (upd H' d<|.xd [(f1,v1),(f2,v2)]):=λb o z=>by rw[cI<|cX z hd];exact z
  have na: ∀a,C0.A0 a->a≠d:=λa z e=>I1.avSome (.inl z) (by rw[e];exact hd)
  refine kx x C _ (some d) _ q2 hm (I1.ext.trans s2) ⟨[v1,v2],λz=>na d z rfl,?_,by rw[hk];rfl,(bY.cons r1<|.cons r3 .nil).mono λb o n z=>⟨λw=>n (.inl w),s2 b o z⟩⟩
  rw[iU,hk];rfl
theorem d83 {st:Stmt}{ps:List Str}{φ:ΦX}(F:Fun K x qual st f fd)(S:aW N ps (aD st))
  (len: ∀ds Q Ex,φ ds Q Ex->ds.length=ps.length) {t:USX}
  (der: ∀(cdv:Value) (A:Around) (outer:List Env) (s:Shared) (H:Hp) (E:XK),gT k (A.deeper<|envOfC qual (aD st) s.heap.objs.size f cdv)->a48 (t9 (CXr P w base) P w K mg base N qual (aD st) f cdv A outer s H E) E (dF st) t)
  (rd: ∀ds Q Ex,φ ds Q Ex->t Ex {Q with} (init N ds)) :
  sC P w K mg base (CXr P w base) (k+1) f fd ps (spX K mg φ):=by
 obtain⟨oc,od,kV,doc,pm,an,cdv,ct,osl,rfl,lk,hcd⟩:=F.ex;refine cN4 lk hcd S (λvs H Q E h=> ?_) λA outer s H vs Q E hr h=> ?_
 .obtain⟨A,ds,Q0,Ex,_,r,h,_⟩:=h;rw[<-r.length];exact len ds Q0 Ex h
 .obtain⟨A',ds,Q0,Ex,hA,r,h,q,qx⟩:=h;refine⟨_,der cdv A outer s H E hr,⟨H,A'⟩,init N ds,_,Ex,b63 hA r,rd ds Q0 Ex h,⟨λρ σ H' z I=> ?_,λb v H' z s r=>q b v H' z s r,λ_ _ _ z=>z.elim,λ_ _ _ z=>z.elim⟩,qx⟩
  exact q _ _ H' z I.ext (show Rep _ _ _ _ _ by simp only[Rep])
theorem FnX.mk' {st:Stmt}{ps:List Str}{φ:ΦX}(F:Fun K x qual st f fd)(m:mg x=some (.ref f))(b:Binds K fd ps [])(S:aW N ps (aD st))
  (len: ∀ds Q Ex,φ ds Q Ex->ds.length=ps.length) {t:USX}
  (der: ∀(cdv:Value) (A:Around) (outer:List Env) (s:Shared) (H:Hp) (E:XK),gT k (A.deeper<|envOfC qual (aD st) s.heap.objs.size f cdv)->a48 (t9 (CXr P w base) P w K mg base N qual (aD st) f cdv A outer s H E) E (dF st) t)
  (rd: ∀ds Q Ex,φ ds Q Ex->t Ex {Q with} (init N ds)):FnX<$>x ps (k+1) φ:=
 ⟨f,fd,d83 F S len der rd,b,F.kp,m⟩
end
end M
section
namespace L2
section
variable {X:Cx}{pins:List (Addr×Obj)}{σ:St}{H:Hp}{s:Shared}{h':Heap}{e:Addr}
theorem Inv.past (I:Inv X pins σ H s)(p:bK6 (frs X.stack) e s.heap h')(hstk:X.stack=X.env::X.outer)(hfr:X.env.frame=some X.env.locals)(hex:X.ex=[])(gs: ∀b o,X.s₀.heap.get? b=some o-> ∃o',g.get? b=some o')(gp: ∀q∈X.pn++pins,∃o',g.get? q.1=some o')(ne:g.get? e=none)(nt: ∀T,Tr s.heap e T->g.get? T=none)(he:H e=none)(ht: ∀T,Tr s.heap e T->H T=none):Inv X pins σ H {s with heap:=h'}:=by
 have none0: ∀b,g.get? b=none->X.s₀.heap.get? b=none:=λb q=>by
  cases r:X.s₀.heap.get? b with
  | none=>rfl
  | some o=>obtain⟨o',q'⟩:=gs b o r;rw[q]at q';cases q'
 have fm: ∀b∈frs X.stack,b=X.env.locals\/b∈X.fs:=λb hb=>by
  rw[hstk]at hb;unfold Cx.fs;unfold frs at hb⊢;rw[iA,hfr]at hb;exact aY.mp hb
 have hL:X.s₀.heap.get? X.env.locals=none:=l8 I.ok.above;have hd: ∀b∈X.fs,∀o,s.heap.get? b=some o-> ∀vs,o.data≠ .fields vs:=λb hb o q=>by
  have fl:=I.stack;rw[hstk]at fl;obtain⟨_,o',q',n⟩:=fl.mem (b:=b) (by
   unfold Cx.fs frs at hb;rw[iA,hfr];exact aY.mpr (.inr hb))
  rw[q]at q';cases q';exact n
 have hb0:=I.base;rw[hex]at hb0;have un:=hb0.past p fm hL (none0 e ne) (λT q=>none0 T (nt T q)) hd
 have cellS: ∀c v,s.heap.IsCell c v->h'.IsCell c v:=λc v ⟨o,q1,q2⟩=>by
  obtain⟨sl,q3⟩:=p.slot c o q1 (λvs z=>by rw[q2]at z;cases z)
  exact⟨_,q3,q2⟩
 refine⟨I.ok,I.os,I.bare,by rw[hex];exact un,?_,λx c q=> ?_,I.free,I.freeC,λq hq=> ?_,I.hok.past p I.stkFree he ht,I.len⟩
 .obtain⟨m,hn,hl⟩:=I.loc;refine⟨m,p.slot.ns hn,λi x v a b c=> ?_⟩
  obtain⟨u,r,lo⟩:=hl i x v a b c;refine⟨u,r,?_⟩;rcases lo with z| ⟨z1,c,z2,z3⟩
  .exact .inl z
  .exact .inr ⟨z1,c,z2,cellS c _ z3⟩
 .obtain⟨v,z⟩:=I.cell x c q;exact⟨v,cellS c v z⟩
 .obtain⟨z1,z2,z3,z4,z5⟩:=I.pin q hq;obtain⟨o',g1⟩:=gp q hq;refine⟨p.keep q.1 q.2 z1 (λz=> ?_) (λz=>by rw[z,ne]at g1;cases g1) (λz=>by rw[nt _ z]at g1;cases g1),z2,z3,z4,z5⟩
  rcases fm _ z with y|y
  .exact z3 y
  .exact z4 y
end
noncomputable abbrev Cx.inX (X:Cx)(e:Addr):Cx:={X with A:=X.A.mark (some<|.ref e),calm:=false,xe:=λ_ _=>False}
theorem Cx.Ok.inX {X:Cx}(ok:X.Ok)(e:Addr):(X.inX e).Ok:=
 ⟨ok.mod,ok.kind,ok.glob,ok.blt,ok.above,ok.inj,ok.has,ok.cab,(λz=>by cases z),ok.frames,ok.stk,ok.exf,ok.bs,ok.bsz,ok.noex,ok.exfs,ok.funs,ok.frf⟩
section
variable {X:Cx}{pins:List (Addr×Obj)}{σ:St}{H:Hp}{s:Shared}{e:Addr}
theorem Inv.inX (I:Inv X pins σ H s)(e:Addr):Inv (X.inX e) pins σ H s:=⟨I.ok.inX e,I.os,I.bare,I.base,I.loc,I.cell,I.free,I.freeC,I.pin,I.hok,I.len⟩
theorem Cx.Ok.outX {X:Cx}{Y:Cx}(okY:Y.Ok){e:Addr}(ok:(X.inX e).Ok)(hd:X.calm=true->X.A.handled=none):X.Ok:=
 ⟨ok.mod,ok.kind,ok.glob,ok.blt,ok.above,ok.inj,ok.has,ok.cab,hd,ok.frames,ok.stk,ok.exf,ok.bs,ok.bsz,ok.noex,ok.exfs,ok.funs,ok.frf⟩
theorem Inv.outX (I:Inv (X.inX e) pins σ H s)(hd:X.calm=true->X.A.handled=none):Inv X pins σ H s:=⟨I.ok.outX I.ok hd,I.os,I.bare,I.base,I.loc,I.cell,I.free,I.freeC,I.pin,I.hok,I.len⟩
theorem SP.outX {D:bJ9}{f:Flow}(h:SP (X.inX e) pins D f s')(hd:X.calm=true->X.A.handled=none):SP X pins D f s':=by
 cases f with
 | next=>obtain⟨σ',H',I,q⟩:=h;exact⟨σ',H',I.outX hd,q⟩
 | brk=>obtain⟨σ',H',I,q⟩:=h;exact⟨σ',H',I.outX hd,q⟩
 | cont=>obtain⟨σ',H',I,q⟩:=h;exact⟨σ',H',I.outX hd,q⟩
 | ret u=>obtain⟨v,σ',H',I,r,q⟩:=h;exact⟨v,σ',H',I.outX hd,r,q⟩
theorem d84 {M:Model}{hp:Heap}{gn:Array GenState}{dr:Drawn}{tn:Nat}{os:OsState}{Q:Bool->Shared->Prop}
  {nm qn:Str} {N:Addr} {bs bm:List Value} {hdd:Bool} {sn:List Str} {sub:List Value} {ab:Bool} {col:Option Bool} {dd:Option Addr} {k0 k1 k2 k3 k5:Option Value} {newId:String}
  {nm' qn':Str} {N':Addr} {bs' bm':List Value} {hdd':Bool} {sn':List Str} {sub':List Value} {ab':Bool} {col':Option Bool} {dd':Option Addr} {k0' k1' k2' k3' k5':Option Value} {newId':String}
  (hC:hp.get? C=some (excClassObj nm qn C N bs bm hdd sn sub ab col dd k0 k1 k2 k3 k5 newId)) (hR:hp.get? R=some (excClassObj nm' qn' R N' bs' bm' hdd' sn' sub' ab' col' dd' k0' k1' k2' k3' k5' newId'))
  (he:hp.get? e=some oe) (hcl:oe.cls= .ref C) (hb:bm'.contains (.type "BaseException")=true) (hr:(Value.ref C::bm).contains (.ref R)=true) (hq:Q true ⟨hp,gn,dr,tn,os⟩) :
  wpAny M A (excMatches (.ref e)<|.ref R) Q E ⟨hp,gn,dr,tn,os⟩:=by
 have t1:(Value.ref R::bm').contains (.type "BaseException")=true:=by rw[aL0,hb,Bool.or_true]
 have t2:=tc_notTuple;unfold excMatches
 repeat (first
  | (with_reducible refine nU he ?_;rw[hcl])
  | with_reducible refine nU hR ?_
  | (with_reducible refine zE hR ?_;rw[t1])
  | (with_reducible refine zE hC ?_;rw[hr])
  | wp_step)
 exact hq
end
theorem bP7.past {fs:List Addr}{e:Addr}(n:bP7 g e h)(p:bK6 fs e h h')(gh: ∀b o,g.get? b=some o-> ∃o',h.get? b=some o')(hf: ∀b∈fs,∀o,h'.get? b=some o-> ∀vs,o.data≠ .fields vs):bP7 g e h':=by
 refine⟨n.he,λT q=> ?_⟩
 rcases p.tr T q with z|z|z|z
 .obtain⟨o,vs,q1,q2⟩:=p.rcd T q;exact absurd q2 (hf T z o q1 vs)
 .rw[z];exact n.he
 .exact n.ht T z
 .cases r:g.get? T with
  | none=>rfl
  | some o=>obtain⟨o',q'⟩:=gh T o r;rw[z]at q';cases q'
theorem bA9 {fs:List Addr}{e:Addr}(n:bP7 g e h)(p:bK6 fs e h h')(gh: ∀b o,g.get? b=some o-> ∃o',h.get? b=some o')(hf: ∀b∈fs,∀o,h.get? b=some o-> ∀vs,o.data≠ .fields vs): ∀b o,g.get? b=some o-> ∃o',h'.get? b=some o':=λb o q=>by
 obtain⟨o',q'⟩:=gh b o q
 by_cases c:b∈fs
 .obtain⟨sl,z⟩:=p.slot b o' q' (hf b c o' q');exact⟨_,z⟩
 .exact⟨o',p.keep b o' q' c (λz=>by rw[z,n.he]at q;cases q) λz=>by rw[n.ht b z]at q;cases q⟩
theorem dM4 {l:List Env}(f:h.FunFrames base l): ∀b∈frs l,∀o,h.get? b=some o-> ∀vs,o.data≠ .fields vs:=λb hb o q=>by
 obtain⟨_,o',q',n⟩:=f.mem (b:=b) hb;rw[q]at q';cases q';exact n
def aR2 (CX:CXT)(X:Cx)(E:XK)(pins:List (Addr×Obj))(σ:St):Prop:= ∀(H:Hp) (s:Shared) (e:Value) (s':Shared),Inv X pins σ H s->CX X.stack H s E e s'->X.xe e s'
def bB0 (K:Frag)(R C:Addr)(bmB:List Value)(newId:String):Prop:=(excIn K C bmB newId=true\/ ∃fI,a77 K C fI bmB newId=true)/\ ∃cd,clsIn K C=some cd/\cd.mro.contains (.ref R)=true
def UnderB (K:Frag)(R C:Addr)(bmB:List Value)(newId:String)(b:Bool):Prop:=(excIn K C bmB newId=true\/ ∃fI,a77 K C fI bmB newId=true)/\ ∃cd,clsIn K C=some cd/\cd.mro.contains (.ref R)=b
theorem d85 {N:Addr}{bm:List Value}{cd:ClassData}(X:K.In h)
  (o:XO h C N bm newId) (hc:clsIn K C=some cd):cd.mro=Value.ref C::bm:=by
 cases o with|mk _ _ _ _ _ _ _ _ _ _ _ _ _ _ hC;unfold clsIn at hc;split at hc
 .rename_i look
  have same:=X _ _ look;rw[hC]at same;cases hc
  injection same with same
  injection same with _ _ same _
  injection same with same
  rw[<-same]
 .cases hc
theorem underB {b:Bool}(X:K.In h)(u:UnderB K R C bmB newId b): ∃N bm,XO h C N bm newId/\(Value.ref C::bm).contains (.ref R)=b:=by
 obtain⟨a,cd,hc,hr⟩:=u;rcases a with a| ⟨fI,a⟩
 .obtain⟨bm,N,_,o,_⟩:=bW4 X a;exact⟨N,bm,o,by rw[<-d85 X o hc];exact hr⟩
 .obtain⟨bm,N,_,o,_⟩:=c62 X a;exact⟨N,bm,o,by rw[<-d85 X o hc];exact hr⟩
section
variable {X:Cx}
def tTry (K:Frag)(R:Addr)(bmB:List Value)(newId:String)(tb:XK->TS)(th:TS):TS:=λD σ H=> ∃E,tb E D σ H/\ ∀C o H',E (.ref C) o H'->bB0 K R C bmB newId/\th D σ H'
theorem ps_try {body:List Stmt}{b0:Stmt}{suite:List Stmt}{r:Str}{rp hpos pos:Pos}{R:Addr}{B newId initId:String}{bmB:List Value}{tb:XK->TS}{th:TS}(FB:ExcBaseFacts B newId initId bmB)(hstk:X.stack=X.env::X.outer)(hfr:X.env.frame=some X.env.locals)(hex:X.ex=[])(hc:X.calm=true)
  (hbody: ∀(xe:Value->Shared->Prop) (E:XK) (pins:List (Addr×Obj)) (s:Shared) (σ:St) (H:Hp) (D:bJ9),Inv (X.wish xe) pins σ H s->aR2 (CXr X.prog X.w X.base) (X.wish xe) E pins σ->tb E D σ H->X∩(execs body X.env) (SP (X.wish xe) pins D) xe s)
  (hsuite: ∀a,PSs (X.inX a) (b0::suite) th) (hg:Gl X r) (hm:X.mg r=some (.ref R)) (hR:excIn X.K R bmB newId=true) (hd:⇑(r∪0)) :
  PS X (.Try body [.ExceptHandler (some<|.Name r rp) none (b0::suite) hpos] [] [] pos) (tTry X.K R bmB newId tb th):=by
 rintro pins s σ H D I ⟨E,hb,hx⟩;refine wpAny_Try_except ?_;have goX:aR2 (CXr X.prog X.w X.base) (X.wish λe s1=>X∩(noteFrame e X.env) (λ_ s2=>X∩(setFlight e none) (λ_ s3=>X∩(handleBy e X.env [.ExceptHandler (some<|.Name r rp) none (b0::suite) hpos]) (SP X pins D) X.xe s3) X.xe s2) X.xe s1) E pins σ:=by
  rintro H1 s1 e s' J ⟨a,C,o',H',rfl,ho,hbr,un,hok,⟨⟨a0,fl⟩,fe,ft⟩,nw,_,hE⟩;have J0:=J.unwish;have J1:Inv X pins σ H' s':=J0.call' ho un hok hbr (λb z=>absurd z af)
  obtain⟨under,hth⟩:=hx C o' H' hE;have fl':FlyingW X.base X.stack a (.ref C) a0 s'.heap:=fl;have frs':=J1.ok.frames;have g0: ∀b o,s1.heap.get? b=some o-> ∃o',s'.heap.get? b=some o':=λb o q=>un.there b o q af
  have gs: ∀b o,X.s₀.heap.get? b=some o-> ∃o',s1.heap.get? b=some o':=λb o q=>J0.base.there b o q (by rw[hex];simp)
  have gp: ∀q∈X.pn++pins,∃o',s1.heap.get? q.1=some o':=λq hq=>⟨_,(J0.pin q hq).1⟩
  show wpAny _ _ (noteFrame (.ref a) X.env) _ _ s'
  rw[hstk]at fl' frs';refine d75 frs' hfr fl' λh2 held p2=> ?_
  rw[<-hstk]at p2 held fl';have J2:=J1.past (g:=s1.heap) p2 hstk hfr hex gs gp nw.he nw.ht fe ft;have n2:=nw.past p2 g0 (dM4 held.2.2.1);have g2:=bA9 nw p2 g0 (dM4 fl'.2.2.1);have t2:=b67 J1.hok p2 J1.stkFree fe ft;refine c59 held λh3 fl3 p3=> ?_
  have J3:=J2.past (g:=s1.heap) p3 hstk hfr hex gs gp n2.he n2.ht fe t2;have n3:=n2.past p3 g2 (dM4 fl3.2.2.1);have g3:=bA9 n2 p3 g2 (dM4 held.2.2.1);have t3:=b67 J2.hok p3 J2.stkFree fe t2;obtain⟨oe,he,hcl⟩:=fl3.there;obtain⟨_,bm,⟨_,_,_,_,_,_,_,_,_,_,_,_,_,_,hC⟩,hin⟩:=underB (b:=true) J3.kIn under;obtain⟨bm',_,_,⟨_,_,_,_,_,_,_,_,_,_,_,_,_,_,hRo⟩,_,_,tl'⟩:=bW4 J3.kIn hR
  refine wpAny_handleBy_cons (codeAny_handlers_test<|w8 (X:=X.inX a) (J3.inX a) hg hm ?_ hd) (by intro q;cases q)
  refine d84 hC hRo he hcl (tl'.hasType FB.hasBase) hin ?_
  refine codeAny_handlers_suite (c59 fl3 λh4 fl4 p4=> ?_)
  have J4:=J3.past (g:=s1.heap) p4 hstk hfr hex gs gp n3.he n3.ht fe t3;exact bU (hsuite a pins _ σ H' D (J4.inX a) hth) (λf s2 q=>q.outX λ_=>J4.ok.hd hc) λ_ _ z=>z.elim
 refine bU (hbody _ E pins s σ H D (I.wish _) goX hb) (λf s1 q=> ?_) λ_ _ z=>z
 have q':=q.unwish;cases f with
 | next=>exact nV q'
 | ret v=>exact q'
 | brk=>exact q'
 | cont=>exact q'
end
section
variable {X:Cx}{CX:CXT}{k:Nat}{f C:Addr}{fd:FuncData}{ps:List Str}{sp:Sp}{dvs:List V}{ds:List Value}{E:XK}{x:Str}{p pos:Pos}{e:Expr}{es:List Expr}{t:TA}
theorem cX3 {pins:List (Addr×Obj)}{σ:St}{H:Hp}{s:Shared}{Q:VK}{us:List Value}{vs:List V}(M:Mk X.K C f)(F:sC X.prog X.w X.K X.mg X.base CX k f fd ps sp)(hr:gT (k+1) X.A)(hb:Binds X.K fd ps [])
  (hx:aR2 CX X E pins σ) (I:Inv X pins σ H s) (r:Vals vs us)
  (h: ∀x dx,H x=none->H dx=none->dx≠x->sp (.ref x::vs) (upd (upd H dx<|.own x) x<|.ins C dx []) (λv H2=>v= .non/\Q (.ref x) H2) E) :
  X∩(call (.ref C) us) (EP X pins σ Q) X.xe s:=by
 have hq:=h (s.heap.objs.size+1) s.heap.objs.size (I.hok.fresh<|uF _) (I.hok.fresh<|aF _) (bE<|qG _);have I2:=Inv.made (C:=C) I;have r2:Vals (V.ref (s.heap.objs.size+1)::vs) (Value.ref (s.heap.objs.size+1)::us):= .cons rfl r;have hl:(Value.ref (s.heap.objs.size+1)::us++[]).length=ps.length:=by
  have e:=r2.length;rw[F.len _ _ _ _ hq]at e;rw[kA];exact e.symm
 have bd:=hb (s:={s with heap:=(s.heap.push {cls:= .type "dict",data:= .dict #[]}).push (instObj C s.heap.objs.size)}) (Value.ref (s.heap.objs.size+1)::us) I2.kIn hl;rw[kA]at bd;refine uG (c32 (f:=f) I.kIn M.makes M.init (eH.mp M.fn) (uE (F.run _ X.stack _ _ ⟨Value.ref (s.heap.objs.size+1)::us,[]⟩ (Value.ref (s.heap.objs.size+1)::us) _ _ E (hr.make C us [])
  (I2.env0.make C us []) bd r2 hq) λr s' hq'=> ?_))
 cases r with
 | error e=>exact hx _ _ e s' I2 hq'
 | ok fl=>
  cases fl with
  | ret u=>
   obtain⟨v,H',I3,rv,ev,q3⟩:=I2.after hq';subst ev;exact⟨rv,⟨V.ref<|s.heap.objs.size+1,H',I3,rfl,q3⟩⟩
  | next=>exact False.elim hq'
  | brk=>exact False.elim hq'
  | cont=>exact False.elim hq'
theorem dM5 {σ:St}{H:Hp}{Q:VK}(M:Mk X.K C f)(F:sC X.prog X.w X.K X.mg X.base CX k f fd ps sp)(hr:gT (k+1) X.A)(hg:Gl X x)(hm:X.mg x=some (.ref C))(hb:Binds X.K fd ps [])(hx:aR2 CX X E pins σ)
  (ha:PA X (e::es) t) (I:Inv X pins σ H s) (h:cN2 C sp [] E t σ H Q) (hdb:x∪0) (he:starEach (e::es) X.env=(false,eval e X.env)::starEach es X.env) (hpl:(backTo pos<|starEach es X.env).any (·.1)=false) :
  X∩(eval (.Call (.Name x p) (e::es) [] pos) X.env) (EP X pins σ Q) X.xe s:=by
 refine qA (w8 I hg hm ?_ hdb)
 refine aK7 (h₀:=X.base) I.ok.mod.kin M.kp (thn (ha pos pins s σ H _ I h) λus s1 ⟨vs,H1,I1,r,q⟩=>⟨I1.kIn,?_⟩) he hpl
 exact cX3 M F hr hb hx I1 r λx dx a b c=>by have:=q x dx a b c;rw[kA]at this;exact this
end
end L2
namespace M
section
variable {X:Cx}{e:Expr}{es:List Expr}{pos:Pos}{te:UE}{K:Frag}{A:AS}{H:Hp}
def a12 (f:Str)(t:UE):UE:=λρ Q=>t ρ λb ρ1=>match b.d with
 | .obj _ ks l=>(match(ks.zip l).lookup f with
  | some d=>Q (.pu d) ρ1
  | none=>False)
 | _=>False
theorem bY.field {f:Str}{d:D}: ∀{ks:List Str} {l:List D} {vs:List V},bY K A H l vs->(ks.zip l).lookup f=some d-> ∃v,(ks.zip vs).lookup f=some v/\Rep K A H d v/\f∈ks
 | [],_,_,_,h=>by simp at h
 | _::_,[],_,_,h=>by simp at h
 | q::ks,a::l,vs,r,h=>by
  obtain⟨v,vr,rfl,r1,r2⟩:=r.uncons;rw[aK9,cU]at h;rw[aK9,cU];cases c:f==q with
  | true=>
   rw[c]at h;cases h;exact⟨v,rfl,r1,by rw[eH.mp c];simp⟩
  | false=>
   rw[c]at h;obtain⟨w,h1,h2,h3⟩:=bY.field r2 h;exact⟨w,h1,h2,fB _ h3⟩
theorem wW {f:Str}(he:PU X e te)(hb:↥(attributeBase e f X.env (eval e X.env)=eval e X.env)):PU X (.Attribute e f pos) (a12 f te):=
 iJ (pe_fld he hb) λσ H Q ⟨C,ρ,Q0,I,h,k⟩=>⟨C,ρ,_,I,h,λb ρ1 v H1 q fz s r=>by
  have rr:=r.rep λa z=>I.avF fz z
  cases ed:b.d with
  | obj C' ks l=>
   rw[ed]at rr q;dsimp only at q;cases el:(ks.zip l).lookup f with
   | none=>rw[el]at q;exact q.elim
   | some d=>
    rw[el]at q;simp only[Rep]at rr;obtain⟨a,dx,vs,rfl,n,c,hl,rl,ok⟩:=rr;obtain⟨w,h1,h2,h3⟩:=rl.field el;exact⟨a,C',dx,ks.zip vs,w,rfl,c,ok.1,ok.2 f h3,h1,k _ ρ1 w H1 q fz s h2⟩
  | _=>rw[ed]at q;exact q.elim⟩
abbrev ΦM:=List D->(List D->Prop)->XP->Prop
nonrec def spI (K:Frag)(mg:Str->Option Value)(C:Addr)(ks:List Str)(φ:ΦM):Sp:=λvs H Q E=> ∃(x dx:Addr) (vs':List V) (A:AS) (ds:List D) (Q0:List D->Prop) (Ex:XP),vs=V.ref x::vs'/\H x=some (.ins C dx [])/\H dx=some (.own x)/\ ¬A x/\ ¬A dx/\(∀a,A a->H a≠none)/\bY K (λb=>A b\/b=x) H ds vs'/\φ ds Q0 Ex/\
 (∀l ws H',Q0 l->(∀b o,b≠x->H b=some o->H' b=some o)->H' x=some (.ins C dx<|ks.zip ws)->ks.length=ws.length->bY K (λb=>A b\/b=x) H' l ws->Q .non H')/\
 ∀n Cl es o H',Ex n es->mg n=some (.ref Cl)->(∀b o,b≠x->H b=some o->H' b=some o)->XR K A H' n es o->E (.ref Cl) o H'
structure MkX (P:Program)(w:World)(K:Frag)(mg:Str->Option Value)(base:Heap)(x:Str)(k:Nat)(ks:List Str)(φ:ΦM):Prop where
 ex: ∃C f fd ps,Mk K C f/\OkC K C ks/\sC P w K mg base (CXr P w base) k f fd ps (spI K mg C ks φ)/\Binds K fd ps []/\mg x=some (.ref C)
theorem dU1 {φ:ΦM}{t:UA}{E:XK}{C0:C0}{ρ:Ev}{σ:L2.St}{Q:VK}{Q0:Ev->List D->Prop}{Ex:Ev->XP}(ok:OkC X.K C ks)(I:EOk X.K C0 ρ σ H)(h:t ρ λds ρ1=>φ ds (Q0 ρ1) (Ex ρ1))
  (kq: ∀l ρ1 v H',Q0 ρ1 l->Frz ρ ρ1->gZ H H'->Rep X.K (Av C0 ρ1 σ) H' (.obj C ks l) v->Q v H') (kx: ∀n Cl ρ1 es o H',Ex ρ1 n es->X.mg n=some (.ref Cl)->EOk X.K C0 ρ1 σ H'->XR X.K (Av C0 ρ1 σ) H' n es o->E (.ref Cl) o H') :
  cN2 C (spI X.K X.mg C ks φ) [] E (lA X.K t) σ H Q:=by
 refine⟨C0,ρ,_,I,h,λds ρ1 vs H1 q f s r x dx nx nd ne=> ?_⟩
 have I1:=(I.frz f).same s;have hA: ∀a,Av C0 ρ1 σ a->H1 a≠none:=λa z=>I1.avSome z
 have s3:gZ H1 (upd (upd H1 dx<|.own x) x<|.ins C dx []):=λb o z=>by
  rw[cI<|cX z nx,cI<|cX z nd];exact z
 have back: ∀H',(∀b o,b≠x->upd (upd H1 dx<|.own x) x (.ins C dx []) b=some o->H' b=some o)->gZ H1 H':=λH' z b o q'=>z b o (cX q' nx) (s3 b o q')
 rw[kA];refine⟨x,dx,vs,Av C0 ρ1 σ,ds,Q0 ρ1,Ex ρ1,rfl,iU,by rw[cI ne];exact iU,λz=>hA x z nx,λz=>hA dx z nd,λa z q'=> ?_,r.mono<|nE.fresh s3 nx,q,λl ws H' q0 kp hx hl rl=>⟨rfl,?_⟩,λn Cl es o H' ex hm kp xr=> ?_⟩
 .cases e':H1 a with
  | none=>exact hA a z e'
  | some o=>rw[s3 a o e']at q';cases q'
 .refine kq l ρ1 _ H' q0 f (s.trans<|back H' kp) ?_
  simp only[Rep];exact⟨x,dx,ws,rfl,λz=>hA x z nx,hx,hl,rl.mono<|.sub (.refl _) λa z=> .inl z,ok⟩
 .exact kx n Cl ρ1 es o H' ex hm (I1.same<|back H' kp) xr
def c63 (ks:List Str)(φ:ΦM)(t:UA):UE:=λρ Q=>t ρ λds ρ1=>φ ds (λl=> ∀C,Q (.pu<|.obj C ks l) ρ1) λ_ _=>False
theorem cP4 {φ:ΦM}{t:UA}(F:MkX X.prog X.w X.K X.mg X.base x k ks φ)(hr:gT (k'+1) X.A)(hk:k<=k')(hg:Gl X x)(ha:PUA X (e::es) t)(hdb:⇑(x∪0))
  (he:↥(starEach (e::es) X.env=(false,eval e X.env)::starEach es X.env)) (hpl:↥((backTo pos<|starEach es X.env).any (·.1)=false)):PU X (.Call (.Name x p) (e::es) [] pos) (c63 ks φ t):=by
 obtain⟨C,f,fd,ps,M,ok,G,b,m⟩:=F.ex;have hp:wR (CXr X.prog X.w X.base) X (λ_ _ _=>False):=by
  rintro pins σ H s e s' I ⟨_,_,_,_,_,_,_,_,_,_,_,_,z⟩;exact z.elim
 refine iJ (dI6 M (G.mono hk) hr hg m b .nil hp ha hdb he hpl) λσ H Q ⟨C0,ρ,Q0,I,h,k⟩=> ?_
 exact dU1 (Q0:=λρ1 l=> ∀C,Q0 (.pu<|.obj C ks l) ρ1) (Ex:=λ_ _ _=>False) ok I h (λl ρ1 v H' q f s r=>k _ ρ1 v H' (q C) f s r) λn Cl ρ1 es o H' z=>z.elim
def d86 (i:Nat)(ks:List Str)(φ:ΦM)(t:UA)(names:List Str)(th:US):US:=λE ρ=>t ρ λds ρ1=>φ ds (λl=> ∀C,E.nx<|ρ1.set i<|some<|.pu<|.obj C ks l) λn _=>n∈names/\th E ρ1
theorem dM6 {φ:ΦM}{y r:Str}{apos py rp hpos:Pos}{t:UA}{b0:Stmt}{suite:List Stmt}{th:US}{B:String}(i:Nat)(names:List Str)(FB:ExcBaseFacts B newId initId bmB)(F:MkX X.prog X.w X.K X.mg X.base x k ks φ)(hr:gT (k'+1) X.A)(hk:k<=k')(hstk:X.stack=X.env::X.outer)(hfr:X.env.frame=some X.env.locals)(hex:X.ex=[])(hc:X.calm=true)
  (hg:Gl X x) (ha: ∀xe,PUA (X.wish xe) (e::es) t) (hN:X.N.Nodup) (hi:X.N[i]? =some y) (hy:Loc X.env.scope y) (hsuite: ∀a,tD (X.inX a) (b0::suite) th) (hgr:Gl X r) (hmr:X.mg r=some (.ref R)) (hR:excIn X.K R bmB newId=true) (hu: ∀n∈names,∀C,X.mg n=some (.ref C)->bB0 X.K R C bmB newId)
  (hl: ∀pins σ H s,Inv X pins σ H s->i<σ.length) (hdb:⇑(x∪0)) (hd:⇑(r∪0))
  (he:↥(starEach (e::es) X.env=(false,eval e X.env)::starEach es X.env)) (hpl:↥((backTo cpos<|starEach es X.env).any (·.1)=false)) (hs:↥(swapsWith (.Call (.Name x p) (e::es) [] cpos) (some<|.Name y py) apos.line X.env=pure false)) (hf:X.fn y=true\/X.env.scope.names.lookup y=some .local:=by walk_at "z") :
  PUS X (.Try [.Assign [.Name y py] (.Call (.Name x p) (e::es) [] cpos) apos] [.ExceptHandler (some<|.Name r rp) none (b0::suite) hpos] [] [] pos) (d86 i ks φ t names th):=by
 obtain⟨C,f,fd,ps,M,ok,G,b,m⟩:=F.ex;intro pins s σ H D J q;refine ps_try (R:=R) (tb:=λE=>tAsg (cN2 C (spI X.K X.mg C ks φ) [] E<|lA X.K t) (c28 i)) (th:=lS X.K th) FB hstk hfr hex hc (λxe E pins s σ H D I pa h=> ?_) hsuite hgr hmr hR hd pins s σ H D J ?_
 .refine u5 (wpAny_Assign_Name (thn (dM5 (X:=X.wish xe) M (G.mono hk) hr hg m b pa (ha xe) I h hdb he hpl) λv s1 ⟨y',H1,I1,r1,q1⟩=> ?_) hs)
  exact aP7 (X:=X.wish xe) I1 hN hi hy r1 (λs2 I2=>nV ⟨_,H1,I2,q1⟩) hf
 .obtain⟨C0,ρ,D0,I,h,k⟩:=q;refine⟨λcls _ H'=> ∃n Cl ρ1,cls=Value.ref Cl/\X.mg n=some (.ref Cl)/\n∈names/\th D0 ρ1/\EOk X.K C0 ρ1 σ H',?_,?_⟩
  .exact dU1 (Q0:=λρ1 l=> ∀C,D0.nx<|ρ1.set i<|some<|.pu<|.obj C ks l) (Ex:=λρ1 n _=>n∈names/\th D0 ρ1) ok I h
    (λl ρ1 v H' q f s1 r=>k.nx _ _ _ (q C) ((I.frz f).store s1 (show uL X.K (Av C0 ρ1 σ) H H' (.pu<|.obj C ks l) v from r)<|hl pins σ H s J)) λn Cl ρ1 es o H' z hm' I' _=>⟨n,Cl,ρ1,rfl,hm',z.1,z.2,I'⟩
  .rintro Cl o H' ⟨n,Cl',ρ1,e1,hm',hn,ht,I'⟩;cases e1;exact⟨hu n hn Cl hm',C0,ρ1,D0,I',ht,k⟩
end
section
variable {K:Frag}{C:C0}{ρ ρ':Ev}{σ:L2.St}{H H':Hp}
theorem EOk.poke {x:Addr}{o:HO}(I:EOk K C ρ σ H)(ax:C.A0 x)(hx: ∀vs,C.H0 x≠some (.lst vs)):EOk K ⟨λb=>if b=x then some o else C.H0 b,C.A0⟩ ρ σ (upd H x o):=by
 have ne: ∀a,C.H0 a=none->a≠x:=λa z e=>by subst e;exact I.a0 a ax z
 have P:nE (Av C ρ σ) H (Av ⟨λb=>if b=x then some o else C.H0 b,C.A0⟩ ρ σ) (upd H x o):=λb u nb e=>⟨nb,by rw[cI λz=>nb (by subst z;exact .inl ax)];exact e⟩
 refine⟨I.len,?_,?_,I.inj,?_,?_,?_⟩
 .intro i d h;obtain⟨v,h1,h2⟩:=I.pu i d h;exact⟨v,h1,h2.mono P⟩
 .intro i l h;obtain⟨a,vs,h1,h2,h3,h4⟩:=I.ow i l h;have na:=ne a h3;exact⟨a,vs,h1,by rw[cI na];exact h2,by show(if a=x then some o else C.H0 a)=none;rw[a6 na];exact h3,h4.mono P⟩
 .intro i l h;obtain⟨a,vs,h1,h2,h3,h4⟩:=I.bo i l h;have na:a≠x:=λz=>by subst z;exact hx vs h3
  exact⟨a,vs,h1,h2,by show(if a=x then some o else C.H0 a)=_;rw[a6 na];exact h3,h4.mono P⟩
 .intro b u h
  by_cases c:b=x
  .subst c;have h':(if b=b then some o else C.H0 b)=some u:=h;rw[a8 rfl]at h';rw[iU];exact h'
  .have h':(if b=x then some o else C.H0 b)=some u:=h;rw[a6 c]at h';rw[cI c];exact I.ext b u h'
 .intro a z;show(if a=x then some o else C.H0 a)≠none;split
  .simp
  .exact I.a0 a z
theorem a78 {x:Addr}{fs:List (Str×V)}{f:Str}{te:UE}{Q0:B->Ev->Prop}{D:bJ9}(I:EOk K C ρ σ H)(ax:C.A0 x)(hx:H x=some (.ins Cl dx fs))(h0:ρ[0]? =some (some<|.pu<|.adr x))(cl:Cls K Cl)(na:a64 K Cl f)(hf:fs.length<1000)(h:te ρ Q0)
  (k: ∀b ρ1 w H',Q0 b ρ1->ρ1[0]? =some (some<|.pu<|.adr x)->(∀a o,a≠x->H a=some o->H' a=some o)->H' x=some (.ins Cl dx<|uK f w fs)->(∃C1:C0,C1.A0=C.A0/\EOk K C1 ρ1 σ H')->Rep K C.A0 H' b.d w->(∀d v,Rep K C.A0 H d v->Rep K C.A0 H' d v)->D.nx σ H') :
  cF2 K (a63 0) (lE K te) f D σ H:=by
 refine⟨C,ρ,Q0,I,h,λb ρ1 w H1 q fz s r=> ?_⟩
 have I1:=(I.frz fz).same s;have h1:ρ1[0]? =some (some<|.pu<|.adr x):=by
  rcases fz.2 0 with z| ⟨l,z,_⟩
  .rw[z];exact h0
  .rw[h0]at z;cases z
 obtain⟨v,e1,e2⟩:=I1.pu 0 _ h1;simp only[Rep]at e2;subst e2;have hx1:=s _ _ hx;have nl: ∀vs,C.H0 x≠some (.lst vs):=λvs z=>by
  have:=I.ext x _ z;rw[hx]at this;cases this
 have P:nE C.A0 H1 C.A0 (upd H1 x<|.ins Cl dx<|uK f w fs):=nE.upd ax;refine⟨.ref x,e1,x,Cl,dx,fs,rfl,hx1,cl,na,hf,k b ρ1 w _ q h1 (λa o ne e=>by rw[cI ne];exact s a o e) iU ⟨⟨λb=>if b=x then some (.ins Cl dx<|uK f w fs)else C.H0 b,C.A0⟩,rfl,I1.poke (o:= .ins Cl dx (uK f w fs)) ax nl⟩ ?_ λd v r'=> ?_⟩
 .exact((r.rep λa z=>I.avF fz z).mono<|.sub (.refl _) λa z=> .inl z).mono P
 .exact(r'.mono<|.same s).mono P
end
section
variable {X:Cx}{E:XK}{st:Stmt}{sts:List Stmt}{t u:USX}{tS:TS}
theorem dM7 (h1:bW5 X E st t)(h2:PSs X sts tS):PSs X (st::sts) (λD=>lSX X.K X.mg E t {D with nx:=tS D}):=uJ h1 h2
theorem b68 (h1:bW5 X E st t)(h2:PSs X sts (λD=>lSX X.K X.mg E u {D with nx:=tS D})):PSs X (st::sts) (λD=>lSX X.K X.mg E (λEx=>aT (t Ex) (u Ex)) {D with nx:=tS D}):=
 b89 (uJ h1 h2) λD σ H ⟨C,ρ,D0,Ex,I,h,k,kx⟩=>⟨C,ρ,{D0 with nx:=u Ex D0},Ex,I,h,⟨λρ' σ' H' q I'=>⟨C,ρ',D0,Ex,I',q,k,kx⟩,k.rt,k.bk,k.ct⟩,kx⟩
def tS3 (K:Frag)(f1 f2 f3:Str)(t1 t2 t3:UE):TS:=dH4 (cF2 K (a63 0) (lE K t1) f1) (dH4 (cF2 K (a63 0) (lE K t2) f2)<|cF2 K (a63 0) (lE K t3) f3)
end
theorem d87 {ps:List Str}{φ:ΦM}{f3:Str}{t1 t2 t3:UE}(F:Fun K x qual st f fd)(S:aW N ps (aD st))(ok:OkC K Cl [f1,f2,f3])(n1:f1≠f2)(n2:f1≠f3)(n3:f2≠f3)
  (len: ∀ds Q Ex,φ ds Q Ex->ds.length+1=ps.length) (hN:N≠[]) {t:USX}
  (der: ∀(cdv:Value) (A:Around) (outer:List Env) (s:Shared) (H:Hp) (E:XK),gT k (A.deeper<|envOfC qual (aD st) s.heap.objs.size f cdv)->
   PSs (t9 (CXr P w base) P w K mg base N qual (aD st) f cdv A outer s H E) (dF st) (λD=>lSX K mg E t {D with nx:=tS3 K f1 f2 f3 t1 t2 t3 D}))
  (rd: ∀a ds Q Ex,φ ds Q Ex->t Ex {nx:=λρ=>ρ[0]? =some (some<|.pu<|.adr a)/\t1 ρ λb1 ρ1=>t2 ρ1 λb2 ρ2=>t3 ρ2 λb3 _=>Q [b1.d,b2.d,b3.d],rt:=λ_=>False} (init N (.adr a::ds))) :
  sC P w K mg base (CXr P w base) (k+1) f fd ps (spI K mg Cl [f1,f2,f3] φ):=by
 obtain⟨oc,od,kV,doc,pm,an,cdv,ct,osl,rfl,lk,hcd⟩:=F.ex;refine cN4 lk hcd S (λvs H Q E h=> ?_) λA outer s H vs Q E hr h=> ?_
 .obtain⟨x,dx,vs',A,ds,Q0,Ex,rfl,_,_,_,_,_,r,h,_⟩:=h;have:=len ds Q0 Ex h;rw[dI,<-r.length];exact this
 .obtain⟨x,dx,vs',A',ds,Q0,Ex,rfl,hx,hdx,nx,nd,hA,r,h,q,qx⟩:=h;have hA2: ∀a,(A' a\/a=x)->H a≠none:=λa z=>by
   rcases z with z|rfl
   .exact hA a z
   .rw[hx];simp
  have r2:bY K (λb=>A' b\/b=x) H (.adr x::ds) (.ref x::vs'):= .cons (by simp only[Rep]) r
  refine⟨_,der cdv A outer s H E hr,⟨H,λb=>A' b\/b=x⟩,init N (.adr x::ds),_,Ex,b63 hA2 r2,rd x ds Q0 Ex h,⟨λρ σ H' z I=> ?_,λ_ _ _ z=>z.elim,λ_ _ _ z=>z.elim,λ_ _ _ z=>z.elim⟩,λn Cl' es o H' ex hm sm xr=>qx n Cl' es o H' ex hm (λb o _ e=>sm b o e) (xr.mono<|.sub (.refl _) λa z=> .inl z)⟩
  obtain⟨z0,z⟩:=z;have hx':H' x=some (.ins Cl dx []):=I.ext x _ hx;refine a78 (C:=⟨H,λb=>A' b\/b=x⟩) I (.inr rfl) hx' z0 ok.1 (ok.2 f1 af) ac z ?_
  rintro b1 ρ1 w1 H1 z1 z0 k1 x1 ⟨C1,a1,I1⟩ r1 m1;refine a78 (C:=C1) I1 (by rw[a1];exact .inr rfl) x1 z0 ok.1 (ok.2 f2 af) (show 1<1000 by decide) z1 ?_
  rintro b2 ρ2 w2 H2 z2 z0 k2 x2 ⟨C2,a2,I2⟩ r2 m2;refine a78 (C:=C2) I2 (by rw[a2,a1];exact .inr rfl) x2 z0 ok.1 (ok.2 f3 af) (by simp[uK,n1]) z2 ?_
  rintro b3 ρ3 w3 H3 z3 z0 k3 x3 ⟨C3,a3,I3⟩ r3 m3;rw[a1]at m2 r2;rw[a2,a1]at m3 r3;refine q [b1.d,b2.d,b3.d] [w1,w2,w3] H3 z3 (λb o ne e=>k3 b o ne (k2 b o ne<|k1 b o ne<|I.ext b o e)) ?_ rfl (.cons (m3 _ _<|m2 _ _ r1)<|.cons (m3 _ _ r2)<|.cons r3 .nil)
  rw[x3];simp[uK,n1,n2,n3]
def b69 (s:Stmt):List Stmt:=match s with
 | .ClassDef _ _ _ b _ _ _ _ _ _ _=>b
 | _=>[]
section
variable {P:Program}{w:World}{K:Frag}{mg:Str->Option Value}{base:Heap}
theorem cP5 {an:Option Addr}{osl:Array (Option Value)}{kV doc pm cdv ct:Value}{nm:Str}{x0 x1 x2:Str}{p1 p3 p4 p5 p6 p7 p8:Pos}
  (l:K.lookup fI=some ⟨.type "function",od,.func<|fnOf nm qual (iV st) (dF st) (aD st) .none kV doc pm an cdv ct,osl⟩) (c:codeIn K cdv qual=true) (k:keepIn K (.ref fI)=true)
  (hb:dF st=[.Assign [.Attribute (.Name x0 p1) f1 p2] (.Name x1 p3) p4,.Assign [.Attribute (.Name x0 p5) f2 p6] (.Name x2 p7) p8]) (S:aW [x0,x1,x2] [x0,x1,x2] (aD st))
  (l0:(aD st).names.lookup x0=some .local) (l1:(aD st).names.lookup x1=some .local) (l2:(aD st).names.lookup x2=some .local) (d0:x0∪0) (d1:x1∪0) (d2:x2∪0)
  (bd: ∀(kV doc pm:Value) (an:Option Addr) (cdv ct:Value) (us:List Value),us.length=[x0,x1,x2].length->bindArgs (fnOf nm qual (iV st) (dF st) (aD st) .none kV doc pm an cdv ct) ⟨us,[]⟩=pure ([x0,x1,x2].zip us))
  {cd:ClassData} (hc:clsIn K C=some cd) (hm:uT cd.mro=true) (hd:cd.hasDict=true) (sa:findIn K (.ref C) "__setattr__"=some (some<|.builtin "object.__setattr__")) (n1:findIn K (.ref C) f1=some none) (n2:findIn K (.ref C) f2=some none) :
  c61 K C fI (fnOf nm qual (iV st) (dF st) (aD st) .none kV doc pm an cdv ct) f1 f2:=
 ⟨⟨_,od,nm,qual,iV st,aD st,kV,doc,pm,an,cdv,ct,osl,x0,x1,x2,p1,p2,p3,p4,p5,p6,p7,p8,by rw[hb],l,rfl,c,S,l0,l1,l2,d0,d1,d2,(aV7 (st:=st) l c k).binds bd⟩,⟨cd,hc,hm,hd⟩,sa,n1,n2⟩
theorem aW9 {cd:ClassData}(h:excIn K C bmB newId=true\/ ∃fI,a77 K C fI bmB newId=true)(hc:clsIn K C=some cd)(hm:cd.mro.contains (.ref R)=true):bB0 K R C bmB newId:=⟨h,cd,hc,hm⟩
theorem Fn.mkA {y:Str}{ps:List Str}(F:Fun K y qual st f fd)(m:mg x=some (.ref f))(b:Binds K fd ps [])(S:aW N ps (aD st))
  (len: ∀ds Q,φ ds Q->ds.length=ps.length) {t:US}
  (der: ∀(cdv:Value) (A:Around) (outer:List Env) (s:Shared) (H:Hp) (E:XK),gT k (A.deeper<|envOfC qual (aD st) s.heap.objs.size f cdv)->tD (t9 CX0 P w K mg base N qual (aD st) f cdv A outer s H E).nox (dF st) t)
  (rd: ∀ds Q,φ ds Q->t {Q with} (init N ds)):Fn<$>x ps (k+1) φ:=
 ⟨f,fd,bV5 F S len λcdv A outer s H E hr=>⟨t,der cdv A outer s H E hr,rd⟩,b,F.kp,m⟩
end
def tS2 (K:Frag)(f1 f2:Str)(t1 t2:UE):TS:=dH4 (cF2 K (a63 0) (lE K t1) f1) (cF2 K (a63 0) (lE K t2) f2)
theorem d88 {ps:List Str}{φ:ΦM}{t1 t2:UE}(F:Fun K x qual st f fd)(S:aW N ps (aD st))(ok:OkC K Cl [f1,f2])(n1:f1≠f2)
  (len: ∀ds Q Ex,φ ds Q Ex->ds.length+1=ps.length)
  (der: ∀(cdv:Value) (A:Around) (outer:List Env) (s:Shared) (H:Hp) (E:XK),gT k (A.deeper<|envOfC qual (aD st) s.heap.objs.size f cdv)->
   PSs (t9 (CXr P w base) P w K mg base N qual (aD st) f cdv A outer s H E) (dF st) (tS2 K f1 f2 t1 t2))
  (rd: ∀a ds Q Ex,φ ds Q Ex->(init N (.adr a::ds))[0]? =some (some<|.pu<|.adr a)/\t1 (init N (.adr a::ds)) λb1 ρ1=>t2 ρ1 λb2 _=>Q [b1.d,b2.d]) :
  sC P w K mg base (CXr P w base) (k+1) f fd ps (spI K mg Cl [f1,f2] φ):=by
 obtain⟨oc,od,kV,doc,pm,an,cdv,ct,osl,rfl,lk,hcd⟩:=F.ex;refine cN4 lk hcd S (λvs H Q E h=> ?_) λA outer s H vs Q E hr h=> ?_
 .obtain⟨x,dx,vs',A,ds,Q0,Ex,rfl,_,_,_,_,_,r,h,_⟩:=h;have:=len ds Q0 Ex h;rw[dI,<-r.length];exact this
 .obtain⟨x,dx,vs',A',ds,Q0,Ex,rfl,hx,hdx,nx,nd,hA,r,h,q,qx⟩:=h;have hA2: ∀a,(A' a\/a=x)->H a≠none:=λa z=>by
   rcases z with z|rfl
   .exact hA a z
   .rw[hx];simp
  have r2:bY K (λb=>A' b\/b=x) H (.adr x::ds) (.ref x::vs'):= .cons (by simp only[Rep]) r
  refine⟨_,der cdv A outer s H E hr,?_⟩
  have I:=b63 (N:=N) hA2 r2;obtain⟨z0,z⟩:=rd x ds Q0 Ex h;refine a78 (C:=⟨H,λb=>A' b\/b=x⟩) I (.inr rfl) hx z0 ok.1 (ok.2 f1 af) ac z ?_
  rintro b1 ρ1 w1 H1 z1 z0 k1 x1 ⟨C1,a1,I1⟩ r1 m1;refine a78 (C:=C1) I1 (by rw[a1];exact .inr rfl) x1 z0 ok.1 (ok.2 f2 af) (show 1<1000 by decide) z1 ?_
  rintro b2 ρ2 w2 H2 z2 z0 k2 x2 ⟨C2,a2,I2⟩ r2 m2;rw[a1]at m2 r2;refine q [b1.d,b2.d] [w1,w2] H2 z2 (λb o ne e=>k2 b o ne (k1 b o ne<|I.ext b o e)) ?_ rfl (.cons (m2 _ _ r1)<|.cons r2 .nil)
  rw[x2];simp[uK,n1]
end M
end
end
open L2
section
open PySem L2 M
local macro_rules| `(tactic| left)=> `(tactic| simp only[aT,bM,cZ,rP,iL,fG,uOp,uC,aC,b10,aS,c39,uV,uIx,gIx,jU,pP,aR,a7,aK,eR,hJ,a67,mU,nZ,fN,M.gSub,fV,b39,oS,d45,gI2,vW,kR,isB,B.d,cV3,uOr,d35,cN9,uOrV,cB,fJ,c42,uSl,nF,kK,gSl,cV4,gMax,gMin,bV3,cJ,aQ3,gIsi,g1,g2,dJ9,aQ1,uIf,cH0,c46,aQ6,dK4,pQ,yC,dK5,bind_some,Option.bind_none,map_some,Option.map_none,Option.join,tV,List.getElem?_cons_succ,b81,b82,dI,List.length_nil,gB,lK,qJ,aL3,aI9,dR,fS,reduceCtorEq,uSlT,gSlT,d41,uP,fY,uO,eZ,a66,c47,d59,uZip,cO6,iK,cO8,c53,gAny,aW8,D.isN,cH7,bW8,aR1,bW7,d72,bP4,d73,d70,c63])
namespace M
local macro_rules|`(!$t)=>`(some (B.pu (D.int $t)))|`(~~~$t)=>`(some (B.pu $t))|`(↑$t)=>`(some (B.ow $t))|`(∅)=>`(Nat->Int)
abbrev Ra (a:Φ)(t:US)(N:List Str):Prop:=∀ds Q,a ds Q->t {Q with} (init N ds)
variable {j g x b v m a L c P q z w s a' b' c':Int}{i k last t0 n e U:Nat}{ui:UI}{tb:US}{ρ:Ev}{ws l r p:List Int}{js:List Nat}{cap:List (Option Nat)}{te:UE}{Q:B->Ev->Prop}{t:Nat->∅}{f u:∅}{F G:Int->Int}{E:UD}{C:Addr}
def a79:Φ:=λds Q=> ∃c k p:Int,ds=[.int c,.int k,.int p]/\0<=k/\k<4294967296/\0<p/\ ∀r:Int,0<=r->r<p->Q (.pu<|.int r)
def bB1:US:=(aT (bM 3<|uOp oS (uOp fV (uOp fN (uOp fN (uOp fN (aC 0)<|uOp fV (uOp fV @7<|aC 1)<|aC 1)<|uOp fV @13<|aC 1)<|@5)<|@48271)<|@2147483647)<|aT (bM 3<|uOp oS (uOp fV (aC 3)<|aC 3)<|@2147483629)<|cZ<|uOp oS (uOp fV (aC 3)<|@39373)<|aC 2)
theorem dE (i:Int)(h:0<j):i.fmod j=i%j:=Int.fmod_eq_emod_of_nonneg i (Int.le_of_lt h)
theorem rQ (i:Int)(h:0<j):i.fdiv j=i/j:=Int.fdiv_eq_ediv_of_nonneg i (Int.le_of_lt h)
theorem cmR {i:Int}(h1: -18446744073709551616<j)(h2:j<18446744073709551616):cE9 i j\/(Sm i/\Sm j):= .inl (.inr ⟨h1,h2⟩)
theorem cmL {i:Int}(h1: -18446744073709551616<i)(h2:i<18446744073709551616):cE9 i j\/(Sm i/\Sm j):= .inl (.inl ⟨h1,h2⟩)
theorem d89: Ra a79 bB1 ["c","k","p","f"]:=by
 rintro ds Q ⟨c,k,p,rfl,h0,h1,hp,h⟩;unfold bB1;show(aT _ _:US) _ [!c,!k,!p,none];left;rw[dE _ (by decide:(0:Int)<2147483647),dE _ (by decide:(0:Int)<2147483629),dE _ hp]
 refine⟨cmL ac ac,cmR aa aa,cmL ac ac,cmR ac ac,ac,cmR aa aa,ac,cmR ac ac,aa,?_⟩
 exact h _ (d5 _ aa) (d4 _ hp)
theorem bJ {g:UG}{D:UD}(n:Nat)(it:Nat->M.D)(ρ1:Ev)(hui: ∀Q:Nat->(Nat->M.D)->Ev->Prop,Q n it ρ1->ui ρ Q)(Pv:Nat->Ev->Prop)(h0:Pv 0 ρ1)
  (hs: ∀i ρ,i<n->Pv i ρ->g (.pu<|it i) ρ λρ2=>tb {D with nx:=Pv (i+1),ct:=Pv (i+1),bk:=D.nx} ρ2) (hd: ∀ρ,Pv n ρ->D.nx ρ):iM ui g tb D ρ:=hui _ ⟨Pv,h0,hs,hd⟩
theorem cP6 (h:i<ws.length):atI (ws.map D.int) (0+(i:Int))=some (.int ws[i]):=by
 rw[bN];exact bK (by rw[bG,aP h];rfl)
def Below (xs ws:List Int):Prop:=xs.length=ws.length/\ ∀(j:Nat) (x w:Int),xs[j]? =some x->ws[j]? =some w->0<=x/\x<w
theorem cpl {i:Int}(h1:0<=j)(h2:j<=1000000)(h3:i.natAbs<2^64):dH9 i j:=⟨h1,h2,h3⟩
def oY:Φ:=λds Q=> ∃(c:Int) (ws:List Int) (p:Int),ds=[.int c,.lst<|ws.map .int,.int p]/\ws.length<=1000/\0<p/\(∀w∈ws,0<w/\w<18446744073709551616)/\ ∀xs:List Int,Below xs ws->Q (.ow<|xs.map .int)
def bB2:US:=(aT (bM 3<|@0)<|aT (iL (fG<|uOp (vW λi j=>decide (j<=i)) (aC 0)<|uOp d45 @10<|@18) (bM 3<|uOp M.gSub (aC 0)<|uOp d45 @10<|@18) fJ)<|aT (bM 4<|eR aK)<|aT (iM (eZ<|a7 (jU<|aS 1) aK) (cB 5)<|iL (fG<|uOp (vW λi j=>decide (j<i)) (aC 3)<|@1) (aT (a67 4<|uOp oS (aC 3)<|uIx (aS 1)<|aC 5)<|bM 3<|uOp b39 (aC 3)<|uIx (aS 1)<|aC 5)<|a67 4<|uOp oS (aR a79<|a7 (aC 0)<|a7 (aC 5)<|a7 (aC 2) aK)<|uIx (aS 1)<|aC 5)<|rP 4)
theorem bK7 {i:Int}(h1: -18446744073709551616<i)(h2:i<18446744073709551616):Sm i:=by
 unfold Sm;have h3:i.natAbs<18446744073709551616:=aa
 exact aZ h3 ag
theorem bB3 {xs:List Int}(h: ∀(j:Nat) (x w:Int),xs[j]? =some x->ws[j]? =some w->0<=x/\x<w)(hl:xs.length<ws.length)(h0:0<=x)(h1:x<ws[xs.length]) :
  ∀(j:Nat) (y w:Int),(xs++[x])[j]? =some y->ws[j]? =some w->0<=y/\y<w:=by
 intro j y w e1 e2
 by_cases hj:j<xs.length
 .rw[yV hj]at e1;exact h j y w e1 e2
 .rw[tT ae]at e1
  by_cases hj':j=xs.length
  .subst hj';simp at e1;subst e1;rw[aP hl]at e2;cases e2;exact⟨h0,h1⟩
  .have:j-xs.length≠0:=ae
   cases e:j-xs.length with
   | zero=>lia
   | succ n=>rw[e]at e1;simp at e1
theorem d90: Ra oY bB2 ["c","w","p","l","f","k"]:=by
 rintro ds Q ⟨c,ws,p,rfl,hlen,hp,hw,h⟩;unfold bB2;have tail: ∀left:Int,(aT (bM 4<|eR aK) (aT (iM (eZ<|a7 (jU<|aS 1) aK) (cB 5)<|iL (fG<|uOp (vW λi j=>decide (j<i)) (aC 3)<|@1) (aT (a67 4<|uOp oS (aC 3)<|uIx (aS 1)<|aC 5)<|bM 3<|uOp b39 (aC 3)<|uIx (aS 1)<|aC 5)<|a67 4<|uOp oS (aR a79<|a7 (aC 0)<|a7 (aC 5)<|a7 (aC 2) aK)<|uIx (aS 1)<|aC 5)<|rP 4):US)
   {Q with} [!c,~~~.lst (ws.map .int),!p,!left,none,none]:=by
  intro left;rw[aT];left;refine⟨ac,?_⟩
  refine bJ ws.length (λi=> .int (0+i)) [!c,~~~.lst (ws.map .int),!p,!left,↑[],none] ?_
   (λi ρ=> ∃(l:Int) (xs:List Int) (kk:Option B),ρ=[!c,~~~.lst (ws.map .int),!p,!l,↑(xs.map .int),kk]/\xs.length=i/\ ∀(j:Nat) (x w:Int),xs[j]? =some x->ws[j]? =some w->0<=x/\x<w)
   ⟨left,[],none,rfl,rfl,λj x w e=>by simp at e⟩ ?_ ?_
  .intro Q q;simp only[eZ];left;rw[aH];refine⟨⟨ae,ae⟩,?_⟩
   rw[bV];exact q
  .rintro i ρ hi ⟨l,xs,kk,rfl,hl,hb⟩;subst hl;obtain⟨w0,w1⟩:=hw _ (cV hi);left;refine⟨ac,?_⟩
   by_cases hc:1<l
   .rw[a8 hc];simp only[cP6 hi];rw[dE _ w0,rQ _ w0];refine⟨ae,?_,⟨ae,bK7 ae w1⟩,_,xs++[l%ws[xs.length]],_,by rw[bX];rfl,af,bB3 hb hi (d5 _ ae)<|d4 _ w0⟩
    rw[aH];exact aZ hi (aG hlen ac)
   .rw[a6 hc];refine⟨c,(0+(xs.length:Int)),p,rfl,ae,ae,hp,λr r0 r1=> ?_⟩
    simp only[cP6 hi];rw[dE _ w0];refine⟨ae,?_,l,xs++[r%ws[xs.length]],_,by rw[bX];rfl,af,bB3 hb hi (d5 _ ae)<|d4 _ w0⟩
    rw[aH];exact aZ hi (aG hlen ac)
  .rintro ρ ⟨l,xs,kk,rfl,hl,hb⟩;left;exact h xs ⟨hl,hb⟩
 show(aT _ _:US) _ [!c,~~~.lst (ws.map .int),!p,none,none,none]
 refine(show dH9 10 18/\(if decide ((10:Int)^(18:Int).toNat<=c)=true then _ else _)from⟨cpl ac ac ac,?_⟩)
 split
 .exact⟨cpl ac ac ac,tail _⟩
 .exact tail _
theorem a80 {d:D}{l:List D}:atI (d::l) 0=some d:=bK (j:=0) rfl
theorem aR3 (k:Nat)(z:Int):(replicate k [D.int z]).flatten=(replicate k z).map .int:=by
 induction k with
 | zero=>rfl
 | succ k ih=>rw[jZ,nT,ih,jZ];rfl
def a13:Φ:=λds Q=> ∃(ns:List Int) (k:Int),ds=[.rol<|ns.map .int,.int k]/\ns.length<=63/\0<=k/\k<4294967296/\ ∀r:Int,Q (.pu<|.int r)
def bW9:US:=(aT (iL (fG<|uOp (kR false) (jU<|aS 0)<|@0) (cZ<|uOp fV @7919<|uOp fN (aC 1)<|@1) fJ)<|aT (iL (fG<|uOp (vW λi j=>decide (i<j)) (aC 1)<|jU<|aS 0) (cZ<|uIx (aS 0)<|aC 1) fJ)<|cZ<|uOp fN (uIx (aS 0)<|uOp oS (aC 1)<|jU<|aS 0)<|uOp fV @104729<|aC 1)
theorem d91 {ns:List Int}{k:Int}(h0:0<=k)(h1:k<ns.length): ∃z,atI (ns.map D.int) k=some (.int z):=by
 obtain⟨i,rfl⟩: ∃i:Nat,k=(i:Int):=⟨k.toNat,ae⟩
 have hi:i<ns.length:=ae
 exact⟨ns[i],bK (by rw[bG,aP hi];rfl)⟩
theorem dM8: Ra a13 bW9 ["s","k"]:=by
 rintro ds Q ⟨ns,k,rfl,hl,k0,k1,h⟩;unfold bW9;show(aT _ _:US) _ [~~~.rol (ns.map .int),!k];left;rw[aH];split
 .exact⟨cmL ac ac,h _⟩
 .split
  .obtain⟨z,hz⟩:=d91 (ns:=ns) k0 ae
   rw[hz];exact h z
  .refine⟨ae,?_⟩
   rw[dE _ ae]
   obtain⟨z,hz⟩:=d91 (ns:=ns) (k:=k%ns.length) (d5 _ ae) (d4 _ ae)
   rw[hz];exact⟨cmL ac ac,h _⟩
theorem bX0:bootBuiltins "abs"=some (.builtin "abs"):=ag
theorem bt_max:bootBuiltins "max"=some (.builtin "max"):=ag
theorem bt_min:bootBuiltins "min"=some (.builtin "min"):=ag
theorem bK8:bootBuiltins "isinstance"=some (.builtin "isinstance"):=ag
theorem bt_int:bootBuiltins "int"=some (.type "int"):=ag
theorem dM9:bootBuiltins "bool"=some (.type "bool"):=ag
theorem dU:bootBuiltins "tuple"=some (.type "tuple"):=ag
theorem bX1:bootBuiltins "list"=some (.type "list"):=ag
theorem dN0: ∀ds Q,bO7 ds Q->ds.length=1:=by rintro ds Q ⟨i,rfl,_⟩;rfl
theorem iI (t:UE)(D:UD)(ρ:Ev):cZ t D ρ=t ρ (λb _=>D.rt b):=rfl
theorem d3 (φ:Φ)(t:UA)(ρ:Ev)(Q:B->Ev->Prop):aR φ t ρ Q=t ρ λds ρ1=>φ ds λb=>Q b ρ1:=rfl
theorem cQ (t:UE)(u:UA)(ρ:Ev)(Q:List D->Ev->Prop):a7 t u ρ Q=t ρ λx ρ1=>u ρ1 λxs ρ2=>Q (x.d::xs) ρ2:=rfl
theorem aO (t u:US)(D:UD)(ρ:Ev):aT t u D ρ=t {D with nx:=u D} ρ:=rfl
theorem nK (i:Nat)(t:UE)(D:UD)(ρ:Ev):bM i t D ρ=t ρ λb ρ1=>D.nx (ρ1.set i<|some b):=rfl
theorem cL (n:Nat)(it:Nat->D)(ρ1:Ev)(hui: ∀Q:Nat->(Nat->D)->Ev->Prop,Q n it ρ1->ui ρ Q)(hn:n<=1000000)
  (G:Option B->List D->Ev) (x0:Option B) (h0:pQ (yC ρ1 js) cap last=G x0 []) (h1: ∀x l b,(G x l).set t0 (some b)=G (some b) l) (h1': ∀x l,t0< (G x l).length) (h2: ∀x l (Q:List D->Prop),Q l->mU (G x l) last Q) (h3: ∀x l l',(G x l).set last (↑l')=G x l')
  (f:Nat->D) (hte: ∀i l (Q':B->Ev->Prop),i<n->Q' (.pu<|f i) (G (~~~it i) l)->te (G (~~~it i) l) Q') (hq:Q (.ow<|(List.range n).map f) (yC ρ1 js)) :
  eJ js cap last ui (cB t0) (λρ Q=>Q true ρ) te ρ Q:=by
 refine hui _ ⟨λi ρ'=> ∃x,ρ'=G x ((List.range i).map f),⟨x0,h0⟩,?_,?_⟩
 .rintro i ρ' hi ⟨x,rfl⟩;refine⟨h1' _ _,?_⟩;rw[h1];right;rw[a8 rfl];refine hte i _ _ hi (h2 _ _ _ ⟨?_,~~~it i,?_⟩)
  .rw[aH,qF];exact aZ hi (aG hn ac)
  .rw[h3,b9,bX];rfl
 .rintro ρ' ⟨x,rfl⟩;exact h2 _ _ _ hq
nonrec def aI (r:List Int):D:= .tup (r.map .int)
nonrec def cX4 (t:List (List Int)):D:= .tup (t.map aI)
theorem bB4 (l:List D)(i:Nat)(h:i<=l.length):cutD l none (some (i:Int))=l.take i:=by
 unfold cutD;rw[HT.sIx_none,HT.sIx_nat,u7 h];simp
theorem a81 (l:List D)(i:Nat)(h:i<=l.length):cutD l (some (i:Int)) none=l.drop i:=by
 unfold cutD;rw[HT.sIx_none,HT.sIx_nat,u7 h];rw[List.take_of_length_le (by rw[qH];exact aF _)]
def a14:Φ:=λds Q=> ∃(t:List (List Int)) (i:Nat),ds=[cX4 t,.int (i:Int)]/\i<t.length/\2<=t.length/\t.length<=1000/\(∀r∈t,1<=r.length)/\Q (.pu<|cX4<|(t.eraseIdx i).map List.tail)
def a15:US:=(cZ<|aR cJ<|a7 (eJ [] [none,none] 1 (iK<|uOp fN (uSl (aS 0) kK<|nF<|aC 1)<|uSl (aS 0) (nF<|uOp fN (aC 1)<|@1) kK) (cB 0) (λρ Q=>Q true ρ)<|uSl (aS 0) (nF<|@1) kK) aK)
theorem d92 {t:List (List Int)}(hi:i<t.length):cutD (t.map aI) none (some (i:Int))++cutD (t.map aI) (some<|(i:Int)+1) none=(t.eraseIdx i).map aI:=by
 have hl:(t.map aI).length=t.length:=aH _;have e1:cutD (t.map aI) none (some (i:Int))=(t.take i).map aI:=by rw[bB4 _ _ ae,lN]
 have e2:cutD (t.map aI) (some<|(i:Int)+1) none=(t.drop<|i+1).map aI:=by
  have:=a81 (t.map aI) (i+1) ae
  rw[uB]
  exact_mod_cast this
 rw[e1,e2,<-bX,<-List.eraseIdx_eq_take_drop_succ]
theorem cI7 {t:List (List Int)}(hi:i<t.length)(h1000:t.length<=1000)(hr: ∀r∈t,1<=r.length)(hui: ∀Q':Nat->(Nat->D)->Ev->Prop,Q' ((t.eraseIdx i).map aI).length (λk=>((t.eraseIdx i).map aI).getD k .non) ρ->ui ρ Q')(h:Q (.ow<|((t.eraseIdx i).map List.tail).map aI) ρ) :
  eJ [] [none,none] 1 ui (cB 0) (λρ Q=>Q true ρ) (uSl (aS 0) (nF<|@1) kK) ρ Q:=by
 have le:(t.eraseIdx i).length=t.length-1:=aI2 hi;refine cL (t0:=0) ((t.eraseIdx i).map aI).length (λk=>((t.eraseIdx i).map aI).getD k .non) ρ hui (by rw[aH];lia)
  (λx l=>[x,↑l]) none rfl (λ_ _ _=>rfl) (λ_ _=>bW _) (λ_ _ _ q=>q) (λ_ _ _=>rfl) (λk=>aI (((t.eraseIdx i).getD k []).tail)) ?_ ?_
 .intro k l Q' hk q;rw[aH]at hk;have ek:((t.eraseIdx i).map aI).getD k .non=aI ((t.eraseIdx i).getD k []):=by
   rw[aJ,aJ,bG,aP hk];rfl
  have hm:1<=((t.eraseIdx i).getD k []).length:=by
   rw[aJ,aP hk];exact hr _ (aI6<|cV hk)
  rw[ek]at q⊢;generalize (t.eraseIdx i).getD k []=r at hm q;simp only[aI]at q⊢;left;have lr:(r.map D.int).length=r.length:=aH _;have ec:cutD (r.map D.int) (some 1) none=r.tail.map D.int:=by
   have:=a81 (r.map D.int) 1 ae
   rw[show((1:Nat):Int)=1 from rfl]at this
   rw[this,<-uB,List.drop_one]
  refine⟨?_,by rw[ec];exact q⟩
  rw[lr];have:HT.sIx r.length 0 (some 1)=min 1 r.length:=HT.sIx_nat r.length 0 1;rw[this];lia
 .have em:(List.range ((t.eraseIdx i).map aI).length).map (λk=>aI (((t.eraseIdx i).getD k []).tail))=((t.eraseIdx i).map List.tail).map aI:=by
   rw[aH];apply j9
   .simp
   .intro k h1 h2;simp at h1;simp[h1,aJ]
  rw[em];exact h
theorem bX2: Ra a14 a15 ["t","i"]:=by
 rintro ds Q ⟨t,i,rfl,hi,h2,h1000,hr,h⟩;unfold a15;show(cZ _:US) _ [~~~cX4 t,!(i:Int)];have hl:(t.map aI).length=t.length:=aH _;rw[iI,d3,cQ];refine cI7 hi h1000 hr (λQ' q=> ?_) ?_
 .simp only[iK,cX4];left;rw[<-cM,d92 hi];refine⟨?_,?_,aG (show _<=2000 by rw[aH,aI2 hi];lia) ac,q⟩
  .rw[hl,HT.sIx_none,HT.sIx_nat];lia
  .rw[hl,HT.sIx_none];have:HT.sIx t.length 0 (some<|(i:Int)+1)=min (i+1) t.length:=by exact_mod_cast HT.sIx_nat t.length 0 (i+1)
   rw[this];lia
 .left
  exact h
nonrec def jG:Nat->List (List Int)->Int
 | 0,_=>0
 | n+1,t=>if t.length=1 then(t.getD 0 []).getD 0 0 else((List.range t.length).map λi=>(if i%2=0 then 1 else -1)*(t.getD i []).getD 0 0*jG n ((t.eraseIdx i).map List.tail)).sum
structure Sq (n:Nat)(t:List (List Int)):Prop where
 pos:1<=t.length
 le:t.length<=n
 row: ∀r∈t,r.length=t.length
 small: ∀r∈t,∀x∈r,x.natAbs<2^2000
def gM (n:Nat):Φ:=λds Q=> ∃t:List (List Int),ds=[cX4 t]/\Sq n t/\Q (.pu<|.int<|jG n t)
def bB5 (gM:Φ):US:=(aT (iL (fG<|uOp (kR false) (jU<|aS 0)<|@1) (cZ<|uIx (uV<|uIx (aS 0)<|@0)<|@0) fJ)<|aT (bM 1<|@0)<|aT (bM 2<|@1)<|aT (iM (eZ<|a7 (jU<|aS 0) aK) (cB 3)<|aT (c42 1 (gI2 λi j Q=>Q (.pu<|.int<|i+j))<|uOp fV (uOp fV (aC 2)<|uIx (uV<|uIx (aS 0)<|aC 3)<|@0)<|aR gM<|a7 (aR a14<|a7 (aC 0)<|a7 (aC 3) aK) aK)<|bM 2<|nZ<|aC 2)<|rP 1)
theorem aE2 (n:Nat): ∀ds Q,gM n ds Q->ds.length=1:=by rintro ds Q ⟨a,rfl,_⟩;rfl
theorem Sq.less {t:List (List Int)}(h:Sq (n+1) t)(h2:t.length≠1)(hi:i<t.length):Sq n ((t.eraseIdx i).map List.tail):=by
 have le:(t.eraseIdx i).length=t.length-1:=aI2 hi;have hp:=h.pos;have hl:=h.le;refine⟨by rw[aH];lia,by rw[aH];lia,λr hr=> ?_,λr hr x hx=> ?_⟩
 .obtain⟨r',hr',rfl⟩:=d8.mp hr;rw[aH,List.length_tail,h.row r'<|aI6 hr',le]
 .obtain⟨r',hr',rfl⟩:=d8.mp hr;exact h.small r' (aI6 hr') x (List.mem_of_mem_tail hx)
theorem oH (f:∅)(b:Nat): ∀n:Nat,(∀i,i<n->(f i).natAbs<=b)->(((List.range n).map f).sum).natAbs<=n*b
 | 0,_=>af
 | n+1,h=>by
  rw[b9,bX,aM1];have h1:=oH f b n λi hi=>h i (lF hi)
  have h2:=h n (qG n);have h3:((List.map f [n]).sum)=f n:=af
  rw[h3,Nat.succ_mul];omega
theorem bQ0: ∀(n:Nat) (t:List (List Int)),n<=4->Sq n t->(jG n t).natAbs<=2^(2010*n)
 | 0,t,_,h=>by have:=h.pos;have:=h.le;lia
 | n+1,t,hn,h=>by
  have entry: ∀i,i<t.length->((t.getD i []).getD 0 0).natAbs<=2^2000:=λi hi=>by
   have eg:t.getD i []=t[i]:=by rw[aJ,aP hi];rfl
   rw[eg];have hr:=h.row _ (cV hi);have hp:=h.pos;have h0:0< (t[i]).length:=ae
   rw[aJ,aP h0];exact qK (h.small _ (cV hi) _<|cV h0)
  unfold jG;split
  .have:=entry 0 (by have:=h.pos;lia)
   exact aG this (cT ac ae)
  .rename_i h1
   refine aG (oH _ (2^2000*2^(2010*n)) _ λi hi=> ?_) ?_
   .rw[cH,cH];have e1:(if i%2=0 then(1:Int)else -1).natAbs=1:=by split<;>rfl
    rw[e1,one_mul];exact eB (entry i hi) (bQ0 n _ ae<|h.less h1 hi)
   .have hl:=h.le;have e:2^(2010*(n+1))=2^10*(2^2000*2^(2010*n)):=by
     rw[<-dP,<-dP];congr 1;lia
    rw[e];exact lB _ ae
theorem Sm.pow {i:Int}(h:i.natAbs<=2^k)(hk:k<9000):Sm i:=nR h (aK2 ac hk)
theorem cP7 {t:List (List Int)}(h:i<t.length):atI (t.map aI) (0+(i:Int))=some (aI<|t.getD i []):=by
 rw[bN];refine bK ?_;rw[bG,aP h,aJ,aP h];rfl
theorem bB6 (h:0<r.length):atI (r.map D.int) 0=some (.int<|r.getD 0 0):=by
 refine bK (j:=0) ?_
 rw[bG,aP h,aJ,aP h];rfl
theorem aR4 (n:Nat)(hn:n<4): ∀ds Q,gM (n+1) ds Q->bB5 (gM n) {Q with} (init ["t","o","s","i"] ds):=by
 rintro ds Q ⟨t,rfl,sq,h⟩;have hp:=sq.pos;have hle:=sq.le;have lt:(t.map aI).length=t.length:=aH _;have lrow: ∀i,i<t.length->0< (t.getD i []).length:=λi hi=>by
  rw[aJ,aP hi];have:=sq.row _ (cV hi);show 0< (t[i]).length
  lia
 unfold bB5;show(aT _ _:US) _ [~~~.tup (t.map aI),none,none,none];left;rw[lt];split
 .rename_i h1
  have h1':t.length=1:=ae
  have:=cP7 (t:=t) (i:=0) ae
  rw[show(0:Int)+((0:Nat):Int)=0 from rfl]at this
  rw[this];simp only[aI];rw[bB6<|lrow 0 ae]
  unfold jG at h;rw[a8 h1']at h;exact h
 .rename_i h1
  have h1':t.length≠1:=ae
  unfold jG at h;rw[a6 h1']at h;refine bJ t.length (λi=> .int (0+i)) [~~~.tup (t.map aI),!0,!1,none] ?_ (λi ρ=> ∃x,ρ=[~~~.tup (t.map aI),some<|.pu<|.int ((List.range i).map λi=>(if i%2=0 then 1 else -1)*(t.getD i []).getD 0 0*jG n ((t.eraseIdx i).map List.tail)).sum,!if i%2=0 then 1 else -1,x]) ?_ ?_ ?_
  .intro Q' q;simp only[eZ];left;rw[lt];refine⟨⟨ae,ae⟩,?_⟩
   rw[bV];exact q
  .exact⟨none,rfl⟩
  .rintro i ρ hi ⟨x,rfl⟩;left;refine⟨ac,?_⟩
   rw[cP7 hi];simp only[aI];rw[bB6<|lrow i hi];have sg:Sm (if i%2=0 then(1:Int)else -1):=by split<;>exact bK7 ac ac
   have eg:t.getD i []=t[i]:=by rw[aJ,aP hi];rfl
   have en:((t.getD i []).getD 0 0).natAbs<=2^2000:=by
    have h0:=lrow i hi;rw[eg]at h0⊢;rw[aJ,aP h0];exact qK (sq.small _ (cV hi) _<|cV h0)
   have se:Sm ((t.getD i []).getD 0 0):=Sm.pow en ac
   refine⟨.inr ⟨sg,se⟩,t,i,by rw[bN];rfl,hi,ae,ae,λr hr=>by rw[sq.row r hr];exact hp,?_⟩
   refine⟨_,rfl,sq.less h1' hi,?_⟩
   have sd:Sm (jG n<|(t.eraseIdx i).map List.tail):=Sm.pow (bQ0 n _ ae<|sq.less h1' hi) ae
   have sp:Sm ((if i%2=0 then(1:Int)else -1)*(t.getD i []).getD 0 0):=by
    refine Sm.pow (k:=2000) ?_ ac
    rw[cH];have e1:(if i%2=0 then(1:Int)else -1).natAbs=1:=by split<;>rfl
    rw[e1,one_mul];exact en
   left
   refine⟨.inr ⟨sp,sd⟩,!(0+(i:Int)),?_⟩
   have e2: -(if i%2=0 then(1:Int)else -1)=(if(i+1)%2=0 then 1 else -1):=by
    by_cases q:i%2=0
    .rw[a8 q,a6 ae]
    .rw[a6 q,a8 ae];rfl
   rw[e2,b9,bX,aM1];simp
  .rintro ρ ⟨x,rfl⟩;left;exact h
nonrec def lU (p:List Int)(k:Nat)(sums:List Int):Int:=
 -(((List.range<|min (k-1)<|p.length-1).map λi=>p.getD (p.length-1-(i+1)) 0*sums.getD (k-(i+1)) 0).sum+(if k<=p.length-1 then(k:Int)*p.getD (p.length-1-k) 0 else 0))
nonrec def eU (p:List Int):Nat->List Int
 | 0=>[((p.length-1:Nat):Int)]
 | k+1=>eU p k++[lU p (k+1)<|eU p k]
theorem uU (p:List Int): ∀k,(eU p k).length=k+1
 | 0=>rfl
 | k+1=>by unfold eU;rw[cM,uU p k];rfl
structure b70 (p:List Int):Prop where
 lo:3<=p.length
 hi:p.length<=5
 small: ∀x∈p,x.natAbs<=499
theorem cP {b:Nat}(h: ∀x∈l,x.natAbs<=b)(i:Nat):(l.getD i 0).natAbs<=b:=by
 rw[aJ];cases e:l[i]? with
 | none=>exact dO _
 | some x=>exact h x (aJ8 e)
theorem a16 {p:List Int}(hp:b70 p): ∀k,k<=6-> ∀x∈eU p k,x.natAbs<=2^(15*k+3)
 | 0,_,x,hx=>by
  have:=hp.hi;have e:x=((p.length-1:Nat):Int):=by simpa[eU]using hx
  rw[e,zG];have:(2:Nat)^(15*0+3)=8:=rfl;omega
 | k+1,hk,x,hx=>by
  have ih:=a16 hp k aa
  have ep:(2:Nat)^(15*(k+1)+3)=32768*2^(15*k+3):=by
   rw[show 15*(k+1)+3=15+(15*k+3)by omega,dP]
  have hb:8<=2^(15*k+3):=by
   rw[dP];have:1<=2^(15*k):=aL1;omega
  unfold eU at hx;rcases fF.mp hx with hx|hx
  .have:=ih x hx;omega
  .have e:x=lU p (k+1) (eU p k):=by exists hx
   rw[e];unfold lU;rw[lM];have hl:=hp.hi;have s1:=oH (λi=>p.getD (p.length-1-(i+1)) 0*(eU p k).getD (k+1-(i+1)) 0) (499*2^(15*k+3)) (min (k+1-1)<|p.length-1) λi _=>by
    rw[cH];exact eB (cP hp.small _) (cP ih _)
   have s2:(if k+1<=p.length-1 then((k+1:Nat):Int)*p.getD (p.length-1-(k+1)) 0 else 0).natAbs<=4*499:=by
    split
    .rw[cH,zG];exact eB aa (cP hp.small _)
    .exact dO _
   have s3:min (k+1-1) (p.length-1)*(499*2^(15*k+3))<=4*(499*2^(15*k+3)):=lB _ aa
   have s4:=lH (((List.range<|min (k+1-1)<|p.length-1).map λi=>p.getD (p.length-1-(i+1)) 0*(eU p k).getD (k+1-(i+1)) 0).sum) (if k+1<=p.length-1 then((k+1:Nat):Int)*p.getD (p.length-1-(k+1)) 0 else 0)
   omega
def uW:Φ:=λds Q=> ∃(p:List Int) (m:Nat),ds=[aI p,.int (m:Int)]/\b70 p/\1<=m/\m<=7/\Q (.ow<|(eU p<|m-1).map .int)
def uX:US:=(aT (bM 2<|uOp M.gSub (jU<|aS 0)<|@1)<|aT (bM 3<|eR<|a7 (aC 2) aK)<|aT (iM (a66<|a7 @1<|a7 (aC 1) aK) (cB 4)<|aT (bM 5<|aR c46<|a7 (eJ [2,4] [none,some 0,some 2,some 3,some 4,none] 5 (a66<|a7 @1<|a7 (uOp fN (aR gMin<|a7 (uOp M.gSub (aC 4)<|@1)<|a7 (aC 2) aK)<|@1) aK) (cB 0) (λρ Q=>Q true ρ)<|uOp fV (uIx (aS 1)<|uOp M.gSub (aC 2)<|aC 0)<|uIx (aS 3)<|uOp M.gSub (aC 4)<|aC 0) aK)<|aT (iL (fG<|uOp (vW λi j=>decide (i<=j)) (aC 4)<|aC 2) (c42 5 (gI2 λi j Q=>Q (.pu<|.int<|i+j))<|uOp fV (aC 4)<|uIx (aS 0)<|uOp M.gSub (aC 2)<|aC 4) fJ)<|a67 3<|nZ<|aC 5)<|rP 3)
theorem a82 {ns:List Int}(h:k<ns.length):atI (ns.map D.int) (k:Int)=some (.int<|ns.getD k 0):=by
 refine bK ?_
 rw[bG,aP h,aJ,aP h];rfl
theorem bB7: Ra uW uX ["p","m","n","s","k","t"]:=by
 rintro ds Q ⟨p,m,rfl,hp,m1,m7,h⟩;have hlo:=hp.lo;have hhi:=hp.hi;have lp:(p.map D.int).length=p.length:=aH _;unfold uX;show(aT _ _:US) _ [~~~.tup (p.map .int),!(m:Int),none,none,none,none];rw[aO,nK];left;rw[lp];refine⟨ac,?_⟩
 have en:(p.length:Int)-1=((p.length-1:Nat):Int):=ae
 rw[en];refine bJ (m-1) (λi=> .int (1+i)) [~~~.tup (p.map .int),!(m:Int),!((p.length-1:Nat):Int),↑((eU p 0).map .int),none,none] ?_
  (λi ρ=> ∃x4 x5,ρ=[~~~.tup (p.map .int),!(m:Int),!((p.length-1:Nat):Int),↑((eU p i).map .int),x4,x5]) ⟨none,none,rfl⟩ ?_ ?_
 .intro Q' q;simp only[a66];left;refine⟨ae,?_⟩
  rw[show((m:Int)-1).toNat=m-1 by lia]
  exact q
 .rintro i ρ hi ⟨x4,x5,rfl⟩;have bn:=a16 hp i ae
  refine⟨by show 4<6;decide,?_⟩
  dsimp only[set_cons_succ,set_cons_zero];rw[aO,nK,d3,cQ];refine cL (t0:=0) (min i<|p.length-1) (λj=> .int (1+j)) [~~~.tup (p.map .int),!(m:Int),!((p.length-1:Nat):Int),↑((eU p i).map .int),!(1+(i:Int)),x5] ?_ ae
   (λx l=>[x,~~~.tup (p.map .int),!((p.length-1:Nat):Int),some<|.bo<|(eU p i).map .int,!(1+(i:Int)),↑l]) none rfl (λ_ _ _=>rfl) (λ_ _=>bW _) (λ_ _ _ q=>q) (λ_ _ _=>rfl)
   (λj=> .int (p.getD (p.length-1-(j+1)) 0*(eU p i).getD (i+1-(j+1)) 0)) ?_ ?_
  .intro Q' q;simp only[a66];left;have e:(if((p.length-1:Nat):Int)<1+(i:Int)-1 then((p.length-1:Nat):Int)else 1+(i:Int)-1)=((min i (p.length-1):Nat):Int):=by split<;>lia
   rw[e];refine⟨ae,?_⟩
   rw[show(((min i (p.length-1):Nat):Int)+1-1).toNat=min i (p.length-1)by lia]
   exact q
  .intro j l Q' hj q;have hj1:j<i:=ae
   have hj2:j<p.length-1:=ae
   left
   rw[show((p.length-1:Nat):Int)-(1+(j:Int))=((p.length-1-(j+1):Nat):Int)by lia,show 1+(i:Int)-(1+(j:Int))=((i+1-(j+1):Nat):Int)by lia]
   rw[a82 ae,a82 (by rw[uU];lia)]
   exact⟨.inr ⟨Sm.pow (k:=9) (aG (cP hp.small _) ac) ac,Sm.pow (cP bn _) ae⟩,q⟩
  .have es:((List.range<|min i<|p.length-1).map λj=>D.int (p.getD (p.length-1-(j+1)) 0*(eU p i).getD (i+1-(j+1)) 0))=((List.range<|min i<|p.length-1).map λj=>p.getD (p.length-1-(j+1)) 0*(eU p i).getD (i+1-(j+1)) 0).map D.int:=by
    rw[gD];rfl
   rw[es];generalize hT:((List.range<|min i<|p.length-1).map λj=>p.getD (p.length-1-(j+1)) 0*(eU p i).getD (i+1-(j+1)) 0)=T
   left
   rw[qR];right;have last: ∀z:Int,z= -(lU p (i+1)<|eU p i)->(eU p i).map D.int++[D.int<|-z]=(eU p<|i+1).map D.int:=λz hz=>by
    rw[hz]
    conv=>rhs;unfold eU
    rw[bX];simp
   have lz:((eU p i).map D.int).length<sizeLine:=by
    rw[aH,uU];exact aZ (show _<100 by lia) ac
   by_cases hk:i+1<=p.length-1
   .rw[a8 ae]
    rw[show((p.length-1:Nat):Int)-(1+(i:Int))=((p.length-1-(i+1):Nat):Int)by lia,a82 ae]
    have hz1:T.sum+(1+(i:Int))*p.getD (p.length-1-(i+1)) 0= -(lU p (i+1)<|eU p i):=by
     unfold lU;rw[Int.neg_neg,a8 hk,<-hT];rw[show i+1-1=i from rfl,show((i+1:Nat):Int)=1+(i:Int)by lia]
    right;rw[last _ hz1];exact⟨.inr ⟨bK7 ae ae,Sm.pow (k:=9) (aG (cP hp.small _) ac) ac⟩,lz,_,_,rfl⟩
   .rw[a6 ae]
    have hz1:T.sum= -(lU p (i+1)<|eU p i):=by
     unfold lU;rw[Int.neg_neg,a6 hk,<-hT,eF];rfl
    rw[last _ hz1];exact⟨lz,_,_,rfl⟩
 .rintro ρ ⟨x4,x5,rfl⟩;left;exact h
theorem cI8: ∀ds Q,¬gM 0 ds Q:=by
 rintro ds Q ⟨t,rfl,sq,_⟩;have:=sq.pos;have:=sq.le;omega
theorem cI9 {t1:Nat}(n:Nat)(i1 i2:Nat->D)(ρ1:Ev)(hui: ∀Q:Nat->(Nat->D)->Ev->Prop,Q n (λi=> .tup [i1 i,i2 i]) ρ1->ui ρ Q)(hn:n<=1000000)
  (G:Option B->Option B->List D->Ev) (x0 y0:Option B) (h0:pQ (yC ρ1 js) cap last=G x0 y0 []) (h1: ∀x y l b c,((G x y l).set t0<|some b).set t1 (some c)=G (some b) (some c) l) (h1': ∀x y l,t0< (G x y l).length/\t1< (G x y l).length)
  (h2: ∀x y l (Q:List D->Prop),Q l->mU (G x y l) last Q) (h3: ∀x y l l',(G x y l).set last (↑l')=G x y l')
  (f:Nat->D) (hte: ∀i l (Q':B->Ev->Prop),i<n->Q' (.pu<|f i) (G (~~~i1 i) (~~~i2 i) l)->te (G (~~~i1 i) (~~~i2 i) l) Q') (hq:Q (.ow<|(List.range n).map f) (yC ρ1 js)) :
  eJ js cap last ui (uP<|fY t0<|fY t1 uO) (λρ Q=>Q true ρ) te ρ Q:=by
 refine hui _ ⟨λi ρ'=> ∃x y,ρ'=G x y ((List.range i).map f),⟨x0,y0,h0⟩,?_,?_⟩
 .rintro i ρ' hi ⟨x,y,rfl⟩;refine⟨(h1' _ _ _).1,by rw[dM];exact(h1' _ _ _).2,rfl,?_⟩
  rw[h1];right;rw[a8 rfl];refine hte i _ _ hi (h2 _ _ _ _ ⟨?_,~~~i1 i,~~~i2 i,?_⟩)
  .rw[aH,qF];exact aZ hi (aG hn ac)
  .rw[h3,b9,bX];rfl
 .rintro ρ' ⟨x,y,rfl⟩;exact h2 _ _ _ _ hq
nonrec def rwF (n:Nat)(f:∅):List Int:=(List.range n).map f
theorem nM (n:Nat)(f:∅):(rwF n f).length=n:=by simp[rwF]
theorem b71 (h:i<n):(rwF n f)[i]? =some (f i):=by simp[rwF,h]
theorem bZ (n:Nat)(f:∅):((rwF n f).map D.int).length=n:=by simp[rwF]
theorem yF (h:i<n):((rwF n f).map D.int)[i]? =some (.int<|f i):=by simp[rwF,h]
theorem oZ (h:i<n):((rwF n f).map D.int).getD i .non= .int (f i):=by rw[aJ,yF h];rfl
theorem iD (h:i<n):atI ((rwF n f).map D.int) (i:Int)=some (.int<|f i):=bK (yF h)
theorem b72 {j:Nat}(h:j<n):((rwF n f).map D.int).set j (.int v)=(rwF n λx=>if x=j then v else f x).map D.int:=by
 apply aL2
 intro k
 by_cases hk:k<n
 .rw[yF hk]
  by_cases e:j=k
  .subst e;rw[jC (by rw[bZ];exact hk),a8 rfl]
  .rw[get_set_ne e,yF hk,a6 λz=>e z.symm]
 .rw[i9 (by rw[dM,bZ];omega),i9 (by rw[bZ];omega)]
theorem gG {g:∅}(h: ∀i,i<n->f i=g i):rwF n f=rwF n g:=by
 unfold rwF;apply nQ;intro i hi;exact h i (d6.mp hi)
theorem aX0 (r:List Int):r=rwF r.length (λj=>r.getD j 0):=by
 apply aL2
 intro k
 by_cases hk:k<r.length
 .rw[b71 hk,aP hk,aJ,aP hk];rfl
 .rw[i9 aa,i9 (by rw[nM];omega)]
theorem iX (n:Nat)(f:∅):(List.range n).map (λk=>D.int (f k))=(rwF n f).map D.int:=by
 unfold rwF;rw[gD];rfl
nonrec def tbF (n m:Nat)(t:Nat->∅):List D:=(List.range n).map λi=>aI (rwF m<|t i)
theorem bX3 (n m:Nat)(t:Nat->∅):(tbF n m t).length=n:=by simp[tbF]
theorem cP8 {m:Nat}(h:i<n):(tbF n m t)[i]? =some (aI<|rwF m<|t i):=by simp[tbF,h]
theorem bX4 {m:Nat}(h:i<n):atI (tbF n m t) (i:Int)=some (aI<|rwF m<|t i):=bK (cP8 h)
theorem d93 (n m:Nat)(t:Nat->∅)(f:∅):tbF n m t++[aI<|rwF m f]=tbF (n+1) m (λi=>if i=n then f else t i):=by
 unfold tbF;rw[b9,bX]
 congr 1
 .apply nQ
  intro i hi;have:=d6.mp hi;show _=aI (rwF m<|if i=n then f else t i);rw[a6 aa]
 .simp
theorem bX5 (h:i<n):ixN n (i:Int)=some i:=by
 unfold ixN;have h2:(i:Int)< (n:Int):=aa
 simp[h,h2]
theorem cP9 (t:UE)(ρ:Ev)(Q:Bool->Ev->Prop):fG t ρ Q=t ρ (isB Q):=rfl
theorem bB8 (g:D->D->(B->Prop)->Prop)(ta tb:UE)(ρ:Ev)(Q:B->Ev->Prop):uOp g ta tb ρ Q=ta ρ λx ρ1=>tb ρ1 λy ρ2=>g x.d y.d λb=>Q b ρ2:=rfl
theorem bX6 (c:UT)(t u:US)(E:UD)(ρ:Ev):iL c t u E ρ=c ρ λb ρ1=>if b=true then t E ρ1 else u E ρ1:=rfl
theorem aR5 {d:D}(h:ρ[i]? =some (~~~d)):aC i ρ Q=Q (.pu d) ρ:=by unfold aC b10;rw[h]
theorem c64: ∀r:List Int,pdL (r.map D.int)=some (r.map PyData.int)
 | []=>by simp[pdL]
 | a::r=>by simp[pdL,pd,c64 r]
theorem d94 (r:List Int):pd (aI r)=some (.tuple<|r.map .int):=by simp[aI,pd,c64]
theorem c65: ∀r:List Int,PyData.depthAll (r.map PyData.int)=0
 | []=>by simp[PyData.depthAll]
 | a::r=>by simp[PyData.depthAll,PyData.depth,c65 r]
theorem dN1 (r:List Int):(PyData.tuple<|r.map .int).depth<=60:=by simp[PyData.depth,c65]
theorem dN2 (a b:List Int):(PyData.tuple<|a.map .int).eqv (.tuple<|b.map .int)=decide (a=b):=by simp only[PyData.eqv];exact PySem.W.ked_eqvAll a b
theorem d95 {neg:Bool}{a b:List Int}{Q:B->Prop}(h:Q (.pu<|.bl<|neg ^^ decide (a=b))):gEqD neg (aI a) (aI b) Q:=⟨_,_,d94 a,d94 b,dN1 a,by rw[dN2];exact h⟩
nonrec def gK (f:∅):Nat->Nat
 | 0=>0
 | n+1=>if f n=0 then gK f n else n+1
theorem a17 (f:∅): ∀n,gK f n<=n
 | 0=>aF _
 | n+1=>by
  unfold gK;split
  .have:=a17 f n;lia
  .exact aF _
theorem bQ1 (f:∅): ∀n,gK f n=0\/f (gK f n-1)≠0
 | 0=> .inl rfl
 | n+1=>by
  unfold gK;split
  .exact bQ1 f n
  .rename_i h
   exact .inr (by exists h)
theorem bQ2 (f:∅): ∀n m,gK f n<=m->m<n->f m=0
 | n+1,m,h1,h2=>by
  unfold gK at h1;split at h1
  .rename_i h
   by_cases e:m=n
   .rw[e];exact h
   .exact bQ2 f n m h1 ae
  .lia
theorem tG {f:∅}{k:Nat}: ∀{n:Nat},k<=n->(∀m,k<=m->m<n->f m=0)->(k=0\/f (k-1)≠0)->gK f n=k
 | 0,h,_,_=>by have:k=0:=ae
               rw[this];rfl
 | n+1,h,hz,hl=>by
  unfold gK
  by_cases e:k=n+1
  .subst e;rw[a6];rcases hl with h0|h0
   .lia
   .exists h0
  .rw[a8<|hz n ae ae]
   exact tG ae (λm h1 h2=>hz m h1 ae) hl
theorem bB9 {f g:∅}: ∀{n:Nat},(∀m,m<n->f m=g m)->gK f n=gK g n
 | 0,_=>rfl
 | n+1,h=>by
  unfold gK;rw[h n<|qG n,bB9 λm hm=>h m (lF hm)]
theorem bC0 (n k:Nat)(f:∅)(h:k<=n):(rwF n f).take k=rwF k f:=by
 unfold rwF;rw[<-lN,List.take_range,u7 h]
def a83:Φ:=λds Q=> ∃(n:Nat) (f:∅),ds=[aI<|rwF n f]/\n<=1000/\Q (.pu<|aI<|rwF (gK f n) f)
def bC1:US:=(aT (bM 1<|jU<|aS 0)<|aT (bV0 (cV3 (fG<|uOp (vW λi j=>decide (j<i)) (aC 1)<|@0)<|fG<|uOp (kR false) (uIx (aS 0)<|uOp M.gSub (aC 1)<|@1)<|@0)<|c42 1 (gI2 λi j Q=>Q (.pu<|.int<|i-j))<|@1)<|cZ<|uSlT (aC 0) kK<|nF<|aC 1)
theorem d96: Ra a83 bC1 ["r","s"]:=by
 rintro ds Q ⟨n,f,rfl,hn,h⟩;unfold bC1;simp only[aI];show(aT _ _:US) _ [~~~.tup ((rwF n f).map .int),none];rw[aO];left;rw[bZ];refine⟨λm ρ=>ρ=[~~~.tup ((rwF n f).map .int),!(m:Int)]/\m<=n/\gK f m=gK f n,⟨n,rfl,aF _,rfl⟩,?_⟩
 rintro m ρ ⟨rfl,hm,hc⟩;left;have fin:gK f m=m->Q (.pu<|.tup<|cutD ((rwF n f).map D.int) none<|some (m:Int)):=λe=>by
  rw[bB4 _ _ (by rw[bZ];exact hm),<-lN,bC0 _ _ _ hm]
  rw[<-hc,e]at h;exact h
 split
 .rename_i h0
  obtain⟨m',rfl⟩: ∃m',m=m'+1:=⟨m-1,ae⟩
  rw[show((m'+1:Nat):Int)-1=(m':Int)by lia,iD<|show m'<n by lia]
  right;split
  .rename_i h1
   refine⟨m',ae,?_,ae,?_⟩
   .simp
   .rw[<-hc];show _=if f m'=0 then gK f m' else m'+1;rw[a8 h1]
  .rename_i h1
   refine fin ?_
   show(if f m'=0 then gK f m' else m'+1)=m'+1
   rw[a6 h1]
 .have:m=0:=ae
  subst this;exact fin rfl
nonrec def shF (b:∅)(n m:Nat):Int:=if n<=m then b (m-n)else 0
nonrec def divS (b:∅)(d n:Nat)(f:∅):∅:=λm=>f m-f (n+d)*shF b n m
nonrec def divL (b:∅)(d:Nat):Nat->∅->∅
 | 0,f=>f
 | n+1,f=>divL b d n (divS b d n f)
nonrec def divQ (b:∅)(d:Nat):Nat->∅->∅
 | 0,_=>λ_=>0
 | n+1,f=>λx=>if x=n then f (n+d)else divQ b d n (divS b d n f) x
structure d97 (L d a e:Nat)(f b:∅):Prop where
 L9:L<=100
 d9:d<=100
 one:b d=1
 beyond: ∀j,d<j->b j=0
 fb: ∀m,m<L->(f m).natAbs<=2^a
 bb: ∀j,(b j).natAbs<=2^e
 room:a+(e+1)*L<8000
 e8:e<8000
theorem cJ0 {b:∅}{d a L:Nat}(hn:n+d<L)(hf: ∀m,m<L->(f m).natAbs<=2^a)(hb: ∀j,(b j).natAbs<=2^e): ∀m,m<L->(divS b d n f m).natAbs<=2^(a+(e+1)):=by
 intro m hm;unfold divS;have h1:=hf m hm;have h2:=hf (n+d) hn;have h3:(shF b n m).natAbs<=2^e:=by
  unfold shF;split
  .exact hb _
  .simp
 have h4:(f (n+d)*shF b n m).natAbs<=2^a*2^e:=by rw[cH];exact eB h2 h3
 have h5:=Int.natAbs_sub_le (f m) (f (n+d)*shF b n m);have e1:2^(a+(e+1))=2^a*2^e+2^a*2^e:=by rw[<-iB,qL,dP];lia
 have h6:2^a<=2^a*2^e:=Nat.le_mul_of_pos_right _ (Nat.pow_pos ac)
 lia
theorem bQ3 (k:Nat):(replicate k [D.int 0]).flatten=(rwF k λ_=>0).map .int:=by
 rw[aR3]
 congr 1
 apply j9<;>simp[rwF]
def gH:Φ:=λds Q=> ∃(L d a e:Nat) (f b:∅),ds=[aI<|rwF L f,aI<|rwF (d+1) b]/\d97 L d a e f b/\
 Q (.pu<|.tup [aI<|rwF (gK (divQ b d (L-d) f)<|L-d)<|divQ b d (L-d) f,aI<|rwF (gK (divL b d (L-d) f) L)<|divL b d (L-d) f])
def wD:US:=(cZ<|hJ<|a7 (aR a83<|a7 (aR cJ<|a7 (aC 5) aK) aK)<|a7 (aR a83<|a7 (aR cJ<|a7 (aC 4) aK) aK) aK)
def wE:US:=(aT (iM (d59<|a7 (aC 3) aK) (cB 6)<|aT (bM 7<|uIx (aS 4)<|uOp fN (aC 6)<|aC 2)<|aT (aQ1 5 (aC 7)<|aC 6)<|iM (cO6<|a7 (aC 1) aK) (uP<|fY 8<|fY 9 uO)<|d57 4 (λi j=>i-j) (uOp fN (aC 6)<|aC 8)<|uOp fV (aC 7)<|aC 9) wD)
def qT:US:=(aT (bM 2<|uOp M.gSub (jU<|aS 1)<|@1)<|aT (bM 3<|aR gMax<|a7 @0<|a7 (uOp M.gSub (jU<|aS 0)<|aC 2) aK)<|aT (bM 4<|aR aQ3<|a7 (aC 0) aK)<|aT (bM 5<|uOp fV (eR<|a7 @0 aK)<|aC 3) wE)
theorem aX1: Ra gH qT ["f","g","d","s","l","q","a","m","j","c"]:=by
 rintro ds Q ⟨L,d,a,e,f,b,rfl,ok,h⟩;have L9:=ok.L9;have d9:=ok.d9;have room:=ok.room;unfold qT;simp only[aI]at h⊢;show(aT _ _:US) _ [~~~.tup ((rwF L f).map .int),~~~.tup ((rwF (d+1) b).map .int),none,none,none,none,none,none,none,none];left;rw[bZ,bZ];obtain⟨N,hN⟩: ∃N:Nat,N=L-d:=⟨_,rfl⟩;have e1:((d+1:Nat):Int)-1=(d:Int):=ae
 have e2:(if(L:Int)-(d:Int)>0 then(L:Int)-(d:Int)else 0)=(N:Int):=by split<;>lia
 rw[e1,e2,bV,bQ3];refine⟨ac,⟨ae,ae,aG (show 1*N<=100 by lia) ac⟩,?_⟩
 unfold wE;rw[aO];rw[<-hN]at h;refine bJ N (λk=> .int (((N:Int))-1-k)) [~~~.tup ((rwF L f).map .int),~~~.tup ((rwF (d+1) b).map .int),!(d:Int),!(N:Int),↑((rwF L f).map .int),some<|.ow<|(rwF N λ_=>0).map .int,none,none,none,none] ?_
  (λk ρ=> ∃g q z6 z7 z8 z9,ρ=[~~~.tup ((rwF L f).map .int),~~~.tup ((rwF (d+1) b).map .int),!(d:Int),!(N:Int),↑((rwF L g).map .int),↑((rwF N q).map .int),z6,z7,z8,z9]/\
   divL b d (N-k) g=divL b d N f/\(∀x,x<N->divQ b d N f x=if x<N-k then divQ b d (N-k) g x else q x)/\ ∀m,m<L->(g m).natAbs<=2^(a+(e+1)*k))
  ⟨f,λ_=>0,none,none,none,none,rfl,rfl,λx hx=>by rw[zX,a8 hx],λm hm=>by simpa using ok.fb m hm⟩ ?_ ?_
 .intro Q' q;left;refine⟨⟨ae,ae⟩,?_⟩
  rw[bV];exact q
 .rintro k ρ hk ⟨g,q,z6,z7,z8,z9,rfl,hL,hQ,hb⟩;obtain⟨i,hi⟩: ∃i:Nat,i=N-1-k:=⟨_,rfl⟩;have ei:(N:Int)-1-(k:Int)=(i:Int):=ae
  have hiN:i<N:=ae
  have hid:i+d<L:=ae
  rw[ei];have c1:(i:Int)+(d:Int)=((i+d:Nat):Int):=ae
  left
  rw[c1,iD hid];right;rw[bZ,bX5 hiN];right;rw[b72 hiN];refine⟨af,?_⟩
  have smg:Sm (g<|i+d):=Sm.pow (hb _ hid) (by
   have:(e+1)*k<=(e+1)*L:=tY _ ae
   lia)
  refine bJ (d+1) (λj=> .tup [.int (j:Int),((rwF (d+1) b).map D.int).getD j .non]) [~~~.tup ((rwF L f).map .int),~~~.tup ((rwF (d+1) b).map .int),!(d:Int),!(N:Int),↑((rwF L g).map .int),some<|.ow<|(rwF N λx=>if x=i then g (i+d)else q x).map .int,!(i:Int),!g (i+d),z8,z9] ?_
   (λj ρ=> ∃z8 z9,ρ=[~~~.tup ((rwF L f).map .int),~~~.tup ((rwF (d+1) b).map .int),!(d:Int),!(N:Int),some<|.ow<|(rwF L λm=>if m<i+j then divS b d i g m else g m).map .int,some<|.ow<|(rwF N λx=>if x=i then g (i+d)else q x).map .int,!(i:Int),!g (i+d),z8,z9]) ⟨z8,z9,?_⟩ ?_ ?_
  .intro Q' qq;left;rw[bZ];exact qq
  .have:(rwF L λm=>if m<i+0 then divS b d i g m else g m)=rwF L g:=by
    apply gG
    intro m hm
    by_cases c:m<i+0
    .rw[a8 c];unfold divS shF;rw[a6 ae]
     lia
    .rw[a6 c]
   rw[this]
  .rintro j ρ hj ⟨z8,z9,rfl⟩;rw[oZ hj];have hij:i+j<L:=ae
   have c2:(i:Int)+(j:Int)=((i+j:Nat):Int):=ae
   simp only[d57];left;rw[c2,bZ];refine⟨af,af,trivial,_,i+j,g<|i+j,rfl,bX5 hij,by rw[yF hij,a6 ae],.inr ⟨smg,Sm.pow (ok.bb j) (by have:=ok.e8;lia)⟩,_,rfl,!(j:Int),!b j,?_⟩
   rw[b72 hij];have:(rwF L λx=>if x=i+j then g (i+j)-g (i+d)*b j else if x<i+j then divS b d i g x else g x)=rwF L λm=>if m<i+(j+1)then divS b d i g m else g m:=by
    apply gG
    intro m hm
    by_cases c:m=i+j
    .subst c;rw[a8 rfl,a8 ae]
     unfold divS shF;rw[a8 ae,show i+j-i=j by lia]
    .rw[a6 c]
     by_cases c3:m<i+j
     .rw[a8 c3,a8 ae]
     .rw[a6 c3,a6 ae]
   rw[this]
  .rintro ρ ⟨z8,z9,rfl⟩;have eg:(rwF L λm=>if m<i+(d+1)then divS b d i g m else g m)=rwF L (divS b d i g):=by
    apply gG
    intro m hm
    by_cases c:m<i+(d+1)
    .rw[a8 c]
    .rw[a6 c];unfold divS shF;rw[a8 ae,ok.beyond _ ae]
     lia
   rw[eg];have en:N-k=i+1:=ae
   have en2:N-(k+1)=i:=ae
   rw[en]at hL hQ;refine⟨_,_,_,_,_,_,rfl,by rw[en2];exact hL,λx hx=> ?_,?_⟩
   .rw[en2,hQ x hx]
    by_cases c:x<i
    .rw[a8 c,a8 ae]
     show(if x=i then _ else divQ b d i (divS b d i g) x)=_
     rw[a6 ae]
    .rw[a6 c]
     by_cases c2:x=i
     .subst c2;rw[a8 ae,a8 rfl]
      show(if x=x then _ else _)=_
      rw[a8 rfl]
     .rw[a6 ae,a6 c2]
   .have:=cJ0 hid hb ok.bb;rw[show a+(e+1)*(k+1)=a+(e+1)*k+(e+1)by rw[zY];lia]
    exact this
 .rintro ρ ⟨g,q,z6,z7,z8,z9,rfl,hL,hQ,hb⟩;right;unfold wD;rw[sub_self]at hL hQ;have hg:g=divL b d N f:=hL;have hq: ∀x,x<N->divQ b d N f x=q x:=λx hx=>by rw[hQ x hx,a6 ae]
  left
  refine⟨N,q,rfl,ae,?_⟩
  refine⟨L,g,rfl,ae,?_⟩
  left
  refine⟨ac,?_⟩
  have e3:gK (divQ b d N f) N=gK q N:=bB9 λm hm=>hq m hm
  have e4:rwF (gK q N) (divQ b d N f)=rwF (gK q N) q:=gG λm hm=>hq m (by have:=a17 q N;lia)
  rw[e3,e4,<-hg]at h;exact h
nonrec def conv (u b:∅):Nat->∅
 | 0,_=>0
 | n+1,m=>conv u b n m+u n*shF b n m
theorem oJ {u b:∅}{d:Nat}(hb: ∀j,d<j->b j=0): ∀(n m:Nat),n+d<=m->conv u b n m=0
 | 0,m,_=>rfl
 | n+1,m,h=>by
  show conv u b n m+u n*shF b n m=0
  rw[oJ hb n m ae]
  unfold shF;rw[a8 ae,hb _ ae]
  lia
theorem bC2 {u b low:∅}{d:Nat}(h1:b d=1)(hb: ∀j,d<j->b j=0)(hl: ∀m,d<=m->low m=0): ∀(n:Nat),divL b d n (λm=>conv u b n m+low m)=low/\ ∀x,x<n->divQ b d n (λm=>conv u b n m+low m) x=u x
 | 0=>⟨by funext m;show 0+low m=low m;lia,λx hx=>ae⟩
 | n+1=>by
  have top:conv u b (n+1) (n+d)+low (n+d)=u n:=by
   show conv u b n (n+d)+u n*shF b n (n+d)+low (n+d)=u n
   rw[oJ hb n _<|aF _,hl _ ae]
   unfold shF;rw[a8 ae,show n+d-n=d by lia,h1]
   lia
  have st:divS b d n (λm=>conv u b (n+1) m+low m)=λm=>conv u b n m+low m:=by
   funext m
   show(conv u b (n+1) m+low m)-(conv u b (n+1) (n+d)+low (n+d))*shF b n m=_
   rw[top];show conv u b n m+u n*shF b n m+low m-u n*shF b n m=_
   lia
  obtain⟨i1,i2⟩:=bC2 (u:=u) h1 hb hl n;refine⟨?_,λx hx=> ?_⟩
  .show divL b d n (divS b d n _)=low
   rw[st];exact i1
  .show(if x=n then _ else divQ b d n (divS b d n _) x)=u x
   rw[st]
   by_cases c:x=n
   .rw[a8 c,c];exact top
   .rw[a6 c];exact i2 x ae
theorem b13 (h:0<n):atI ((rwF n f).map D.int) (-1)=some (.int<|f<|n-1):=by
 unfold L2.atI;have e:ixN ((rwF n f).map D.int).length (-1)=some (n-1):=by
  unfold ixN;rw[bZ,a6 ac,a8 ae]
  congr 1
  lia
 rw[e];exact yF ae
theorem cJ1 (hf: ∀m,n<=m->f m=0): ∀m,gK f n<=m->f m=0:=λm hm=>by
 by_cases c:m<n
 .exact bQ2 f n m hm c
 .exact hf m ae
nonrec def md (p:Int)(f:∅):∅:=λj=>f j%p
nonrec def bK9 (c p:Int):∅
 | 0=>1
 | n+1=>bK9 c p n*c%p
theorem bC3 {c p:Int}(hp:2<=p): ∀n,0<=bK9 c p n/\bK9 c p n<p
 | 0=>⟨by show(0:Int)<=1;lia,by show(1:Int)<p;lia⟩
 | n+1=>⟨d5 _ ae,d4 _ ae⟩
structure Pr (p:Int):Prop where
 lo:2<=p
 hi:p<200
 inv: ∀c:Int,0<c->c<p->bK9 c p (p.toNat-2)*c%p=1
def Cg (p:Int)(f g:∅):Prop:= ∀m,f m%p=g m%p
theorem Cg.divS {p:Int}{b f g:∅}{d n:Nat}(h:Cg p f g):Cg p (divS b d n f) (divS b d n g):=λm=>by
 show(f m-f (n+d)*shF b n m)%p=(g m-g (n+d)*shF b n m)%p
 have h1:=h m;have h2:f (n+d)*shF b n m%p=g (n+d)*shF b n m%p:=by rw[gE,h<|n+d,<-gE]
 rw[zZ,h1,h2,<-zZ]
theorem Cg.divL {p:Int}{b:∅}{d:Nat}: ∀(n:Nat) {f g:∅},Cg p f g->Cg p (divL b d n f) (divL b d n g)
 | 0,_,_,h=>h
 | n+1,_,_,h=>Cg.divL n h.divS
theorem Cg.divQ {p:Int}{b:∅}{d:Nat}: ∀(n:Nat) {f g:∅},Cg p f g->Cg p (divQ b d n f) (divQ b d n g)
 | 0,_,_,h=>λ_=>rfl
 | n+1,f,g,h=>λx=>by
  show(if x=n then f (n+d)else M.divQ b d n (M.divS b d n f) x)%p=(if x=n then g (n+d)else M.divQ b d n (M.divS b d n g) x)%p
  by_cases c:x=n
  .rw[a8 c,a8 c];exact h _
  .rw[a6 c,a6 c];exact Cg.divQ n h.divS x
theorem b14 {b:∅}{d:Nat}: ∀(n:Nat) (f:∅) (x:Nat),n<=x->divQ b d n f x=0
 | 0,_,_,_=>rfl
 | n+1,f,x,h=>by
  show(if x=n then f (n+d)else divQ b d n (divS b d n f) x)=0
  rw[a6 ae]
  exact b14 n _ x ae
theorem aR6 {p:Int}{u u' b b':∅}(h: ∀i j,u' i*b' j%p=u i*b j%p): ∀n,Cg p (conv u' b' n) (conv u b n)
 | 0,_=>rfl
 | n+1,m=>by
  show(conv u' b' n m+u' n*shF b' n m)%p=(conv u b n m+u n*shF b n m)%p
  have h1:=aR6 h n m;have h2:u' n*shF b' n m%p=u n*shF b n m%p:=by
   unfold shF
   by_cases c:n<=m
   .rw[a8 c,a8 c];exact h _ _
   .rw[a6 c,a6 c,bT,bT]
  rw[iC,h1,h2,<-iC]
theorem c66 {b:∅}{d:Nat}(hb: ∀j,d<j->b j=0):conv u b (U+1) (U+d)=u U*b d:=by
 show conv u b U (U+d)+u U*shF b U (U+d)=_
 rw[oJ hb U _<|aF _];unfold shF;rw[a8 ae,show U+d-U=d by lia]
 lia
theorem d98 {p t:Int}{B0 low A:∅}{d:Nat}(hp:2<=p)(hB: ∀j,d<j->B0 j=0)(hU:U=0\/u (U-1)≠0)(uR: ∀j,0<=u j/\u j<p)(uz: ∀j,U<=j->u j=0)(lz: ∀j,d<=j->low j=0)(lR: ∀j,0<=low j/\low j<p)
  (ht:t*B0 d%p=1) (hA: ∀m,A m=(conv u B0 U m+low m)%p) (hn:U+d<=n) :
  let b:=λj=>t*B0 j%p
  let LA:=gK A n
  LA<=U+d/\(∀j,t*divQ b d (LA-d) A j%p=u j)/\(∀j,divL b d (LA-d) A j%p=low j)/\(∀m,LA<=m->divL b d (LA-d) A m%p=0):=by
 intro b LA;have b1:b d=1:=ht;have bz: ∀j,d<j->b j=0:=λj hj=>by
  show t*B0 j%p=0
  rw[hB j hj,bT,eC]
 have tc: ∀x:Int,t*(B0 d*x)%p=x%p:=λx=>by
  rw[<-kD,gE,ht,kI,kE]
 have cg:Cg p A (λm=>conv (λi=>B0 d*u i) b U m+low m):=λm=>by
  rw[hA m,kE];have:=aR6 (p:=p) (u:=u) (b:=B0) (u':=λi=>B0 d*u i) (b':=b) (λi j=>by
   show B0 d*u i*(t*B0 j%p)%p=u i*B0 j%p
   rw[gE,kE,<-gE];have e:B0 d*u i*(t*B0 j)=t*(B0 d*(u i*B0 j)):=by
    simp only[eG,Int.mul_left_comm,kD]
   rw[e,tc]) U m
  show(conv u B0 U m+low m)%p=(conv (λi=>B0 d*u i) b U m+low m)%p
  rw[iC,<-this,<-iC]
 obtain⟨e1,e2⟩:=bC2 (u:=λi=>B0 d*u i) (low:=low) b1 bz lz U
 have Az: ∀m,U+d<=m->A m=0:=λm hm=>by
  rw[hA m,oJ hB U m hm,lz m ae]
  exact eC _
 have hL:(U=0/\LA<=d)\/(0<U/\LA=U+d):=by
  have hle:LA<=U+d:=by
   rcases bQ1 A n with h|h
   .show gK A n<=U+d
    lia
   .exact yW λq=>h (Az _ (by show U+d<=LA-1;lia))
  by_cases c:U=0
  .exact .inl ⟨c,ae⟩
  .refine .inr ⟨ae,?_⟩
   refine tG hn (λm m1 m2=>Az m m1) (.inr λq=> ?_)
   obtain⟨U',rfl⟩: ∃U',U=U'+1:=⟨U-1,ae⟩
   rw[show U'+1+d-1=U'+d by lia,hA,c66 hB,lz _ ae,eF]at q
   have h1:=tc (u U');rw[gE,show B0 d*u U'=u U'*B0 d from eG _ _,q,bT,eC,fE (uR _).1 (uR _).2]at h1
   rcases hU with h|h
   .lia
   .exact h (by exists h1.symm)
 have hN:LA-d=U:=ae
 have r: ∀j,divL b d U A j%p=low j:=λj=>by
  rw[Cg.divL U cg j,e1,fE (lR j).1 (lR j).2]
 refine⟨ae,λj=> ?_,λj=>by rw[hN];exact r j,λm hm=> ?_⟩
 .rw[hN]
  by_cases c:j<U
  .have h1:=Cg.divQ (b:=b) (d:=d) U cg j;rw[e2 j c]at h1;rw[gE,h1,<-gE];show t*(B0 d*u j)%p=u j;rw[tc,fE (uR _).1 (uR _).2]
  .rw[b14 U A j ae,uz j ae,bT,eC]
 .rw[hN];rcases hL with⟨h1,h2⟩| ⟨h1,h2⟩
  .subst h1;show A m%p=0;rw[cJ1 (λm hm=>Az m ae) m hm]
   exact eC _
  .rw[r m];exact lz m ae
def jE:Φ:=λds Q=> ∃(n:Nat) (f:∅) (p:Int),ds=[aI<|rwF n f,.int p]/\n<=1000/\0<p/\Q (.pu<|aI<|rwF (gK (md p f) n)<|md p f)
def wX:US:=(cZ<|aR a83<|a7 (aR cJ<|a7 (eJ [1] [none,some 1,none] 2 (iK<|aC 0) (cB 0) (λρ Q=>Q true ρ)<|uOp oS (aC 0)<|aC 1) aK) aK)
theorem dN3 (Q:B->Ev->Prop)(n:Nat)(f:∅)(p:Int)(hn:n<=1000)(hp:0<p)(k:Nat->D)(kL:Ev)(x0:D)(hx:x0=aI (rwF n f)\/x0= .lst ((rwF n f).map .int))(h:Q (.ow<|(rwF n<|md p f).map .int) (some (.pu x0)::some (.pu<|.int p)::kL)) :
  (eJ [1] [none,some 1,none] 2 (iK<|aC 0) (cB 0) (λρ Q=>Q true ρ) (uOp oS (aC 0)<|aC 1):UE) (some (.pu x0)::some (.pu<|.int p)::kL) Q:=by
 refine cL (t0:=0) n (λk=>((rwF n f).map D.int).getD k .non) (some (.pu x0)::some (.pu<|.int p)::kL) ?_ ae (λx l=>[x,!p,↑l]) none rfl (λ_ _ _=>rfl) (λ_ _=>bW _) (λ_ _ _ q=>q) (λ_ _ _=>rfl) (λk=> .int (md p f k)) ?_ ?_
 .intro Q' q;rcases hx with rfl|rfl
  .simp only[aI]at q⊢;left;rw[bZ];exact q
  .left
   rw[bZ];exact q
 .intro k l Q' hk q;rw[oZ hk]at q⊢;left;refine⟨ae,?_⟩
  rw[dE _ hp];exact q
 .rw[iX];exact h
theorem bL0: Ra jE wX ["r","p"]:=by
 rintro ds Q ⟨n,f,p,rfl,hn,hp,h⟩;unfold wX;show(cZ _:US) _ [~~~aI (rwF n f),!p];rw[iI,d3,cQ,d3,cQ];refine dN3 _ n f p hn hp (λ_=> .non) [] _ (.inl rfl) ?_
 left
 exact⟨n,md p f,rfl,hn,h⟩
theorem cJ2 (u b:∅)(i N:Nat):(rwF N λm=>if m<i+0 then conv u b (i+1) m else conv u b i m)=rwF N (conv u b i):=by
 apply gG
 intro m hm
 by_cases c:m<i+0
 .rw[a8 c];show conv u b i m+u i*shF b i m=_;unfold shF;rw[a6 ae]
  lia
 .rw[a6 c]
theorem cJ3 {b:∅}{V N:Nat}(hz: ∀j,V<=j->b j=0):(rwF N λm=>if m<i+V then conv u b (i+1) m else conv u b i m)=rwF N (conv u b (i+1)):=by
 apply gG
 intro m hm
 by_cases c:m<i+V
 .rw[a8 c]
 .rw[a6 c];show _=conv u b i m+u i*shF b i m;unfold shF;rw[a8 ae,hz _ ae]
  lia
theorem cJ4 (u b:∅)(i j N:Nat):(rwF N λx=>if x=i+j then conv u b i (i+j)+u i*b j else if x<i+j then conv u b (i+1) x else conv u b i x)=rwF N λm=>if m<i+(j+1)then conv u b (i+1) m else conv u b i m:=by
 apply gG
 intro m hm
 by_cases c:m=i+j
 .subst c;rw[a8 rfl,a8 ae]
  show _=conv u b i (i+j)+u i*shF b i (i+j)
  unfold shF;rw[a8 ae,show i+j-i=j by lia]
 .rw[a6 c]
  by_cases c3:m<i+j
  .rw[a8 c3,a8 ae]
  .rw[a6 c3,a6 ae]
theorem aR7 {u b:∅}{U:Nat}: ∀n,(∀j,U<=j->j<n->u j=0)->U<=n-> ∀m,conv u b n m=conv u b U m
 | 0,h,h2,m=>by rw[show U=0 by lia]
 | n+1,h,h2,m=>by
  by_cases c:U=n+1
  .rw[c]
  .show conv u b n m+u n*shF b n m=_
   rw[h n ae ae,aR7 n (λj a c=>h j a ae) ae m]
   lia
theorem md_nat {p:Int}(h1:2<=p)(h2:p<200)(f:∅)(j:Nat):(md p f j).natAbs<=2^8:=by
 unfold md;have a1:=d5 (f j) (show p≠0 by lia)
 have a2:=d4 (f j) (show 0<p by lia)
 show _<=256
 lia
def wF:Φ:=λds Q=> ∃(n:Nat) (f:∅) (k p:Int),ds=[aI<|rwF n f,.int k,.int p]/\n<=1000/\0<=k/\k<200/\0<p/\Q (.pu<|aI<|rwF (gK (λj=>k*f j%p) n) λj=>k*f j%p)
def a84:US:=(cZ<|aR jE<|a7 (aR cJ<|a7 (eJ [1] [none,some 1,none] 2 (iK<|aC 0) (cB 0) (λρ Q=>Q true ρ)<|uOp fV (aC 1)<|aC 0) aK)<|a7 (aC 2) aK)
theorem c67: Ra wF a84 ["f","k","p"]:=by
 rintro ds Q ⟨n,f,k,p,rfl,hn,k0,k9,hp,h⟩;unfold a84;show(cZ _:US) _ [~~~aI (rwF n f),!k,!p];rw[iI,d3,cQ,d3,cQ]
 refine cL (t0:=0) n (λi=>((rwF n f).map D.int).getD i .non) [~~~aI (rwF n f),!k,!p] ?_ ae (λx l=>[x,!k,↑l]) none rfl (λ_ _ _=>rfl) (λ_ _=>bW _) (λ_ _ _ q=>q) (λ_ _ _=>rfl) (λi=> .int (k*f i)) ?_ ?_
 .intro Q' q;simp only[aI]at q⊢;left;rw[bZ];exact q
 .intro i l Q' hk q;rw[oZ hk]at q⊢;left;exact⟨cmL ae ae,q⟩
 .rw[iX];left;exact⟨n,λi=>k*f i,p,rfl,hn,hp,h⟩
def sD:Φ:=λds Q=> ∃c p:Int,ds=[.int c,.int p]/\0<=c/\c<p/\2<=p/\p<200/\Q (.pu<|.int<|bK9 c p<|p.toNat-2)
def sE:US:=(aT (bM 2<|@1)<|aT (iM (eZ<|a7 (uOp M.gSub (aC 1)<|@2) aK) (cB 3)<|bM 2<|uOp oS (uOp fV (aC 2)<|aC 0)<|aC 1)<|rP 2)
theorem b43: Ra sD sE ["c","p","v","s"]:=by
 rintro ds Q ⟨c,p,rfl,c0,c1,p2,p9,h⟩;unfold sE;show(aT _ _:US) _ [!c,!p,none,none];left;refine bJ (p.toNat-2) (λk=> .int (0+k)) [!c,!p,!1,none] ?_
  (λk ρ=> ∃z,ρ=[!c,!p,!bK9 c p k,z]) ⟨none,rfl⟩ ?_ ?_
 .intro Q' q;left;refine⟨⟨ae,ae⟩,?_⟩
  rw[show(p-2).toNat=p.toNat-2 by lia]
  exact q
 .rintro k ρ hk ⟨z,rfl⟩;have:=bC3 (c:=c) p2 k;left;refine⟨af,cmL ae ae,ae,!(0+(k:Int)),?_⟩
  rw[dE _ ae]
  rfl
 .rintro ρ ⟨z,rfl⟩;left;exact h
def sF:Φ:=λds Q=> ∃(n k d:Nat) (f g:∅) (p:Int),ds=[aI<|rwF n f,aI<|rwF k g,.int p]/\n<=50/\k<=50/\Pr p/\(∀j,k<=j->g j=0)/\d<k/\(∀j,d<j->md p g j=0)/\md p g d≠0/\
 ∀t,t*md p g d%p=1->0<=t->t<p->
  let b:=λj=>t*md p g j%p
  let LA:=gK (md p f) n
  let q:=divQ b d (LA-d) (md p f)
  let r:=divL b d (LA-d) (md p f)
  Q (.pu<|.tup [aI<|rwF (gK (λj=>t*q j%p)<|gK q<|LA-d) λj=>t*q j%p,aI<|rwF (gK (md p r)<|gK r LA)<|md p r])
def yG:US:=(cZ<|hJ<|a7 (aR wF<|a7 (aC 5)<|a7 (aC 4)<|a7 (aC 2) aK)<|a7 (aR jE<|a7 (aC 6)<|a7 (aC 2) aK) aK)
def qU:US:=(aT (d41 (aR gH<|a7 (aR jE<|a7 (aC 0)<|a7 (aC 2) aK)<|a7 (aR wF<|a7 (aC 3)<|a7 (aC 4)<|a7 (aC 2) aK) aK)<|uP<|fY 5<|fY 6 uO) yG)
def sG:US:=(aT (bM 3<|aR jE<|a7 (aC 1)<|a7 (aC 2) aK)<|aT (bM 4<|aR sD<|a7 (uIx (aS 3)<|nZ<|@1)<|a7 (aC 2) aK) qU)
theorem b44: Ra sF sG ["a","b","p","l","t","q","r"]:=by
 rintro ds Q ⟨n,k,d,f,g,p,rfl,hn,hk,pp,gz,dk,dz,d0,h⟩;have p2:=pp.lo;have p9:=pp.hi;unfold sG;show(aT _ _:US) _ [~~~aI (rwF n f),~~~aI (rwF k g),!p,none,none,none,none];have ed:gK (md p g) k=d+1:=tG ae (λm m1 m2=>dz m ae) (.inr<|by exists d0)
 have c1:=d5 (g d) (show p≠0 by lia)
 have c2:=d4 (g d) (show 0<p by lia)
 have c3:0<md p g d:=by
  have:md p g d=g d%p:=rfl
  lia
 have tR:=bC3 (c:=md p g d) p2 (p.toNat-2);have ht:=pp.inv _ c3 c2;generalize et:bK9 (md p g d) p (p.toNat-2)=t at tR ht;have bA: ∀j,0<=t*md p g j%p/\t*md p g j%p<p:=λj=>⟨d5 _ ae,d4 _ ae⟩
 have hc:gK (λj=>t*md p g j%p) (d+1)=d+1:=tG (aF _) (λm a b=>ae) (.inr (by
  show t*md p g d%p≠0
  rw[ht];decide))
 have LA9:=a17 (md p f) n;have low:aI (rwF (gK (md p g) k)<|md p g)= .tup ((rwF (d+1)<|md p g).map .int):=by rw[ed];rfl
 left
 refine⟨k,g,p,rfl,ae,ae,?_⟩
 rw[low];left;rw[b13 ae]
 left
 refine⟨md p g d,p,rfl,ae,c2,p2,p9,?_⟩
 rw[et];show qU _ [~~~aI (rwF n f),~~~aI (rwF k g),!p,~~~aI (rwF (d+1) (md p g)),!t,none,none];unfold qU;left;refine⟨n,f,p,rfl,ae,ae,?_⟩
 refine⟨d+1,md p g,t,p,rfl,ae,ae,ae,ae,?_⟩
 rw[hc];refine⟨gK (md p f) n,d,8,8,md p f,λj=>t*md p g j%p,rfl,⟨ae,ae,ht,λj hj=>by
  show t*md p g j%p=0
  rw[dz j hj,bT,eC],λm _=>md_nat p2 p9 f m,λj=>by
   have:=bA j;show(t*md p g j%p).natAbs<=256
   lia,ae,ac⟩,?_⟩
 have hh:=h t ht tR.1 tR.2;have q9:=a17 (divQ (λj=>t*md p g j%p) d (gK (md p f) n-d)<|md p f) (gK (md p f) n-d)
 have r9:=a17 (divL (λj=>t*md p g j%p) d (gK (md p f) n-d)<|md p f) (gK (md p f) n)
 simp only[]at hh;left;refine⟨af,af,trivial,?_⟩
 unfold yG;left;refine⟨_,_,t,p,rfl,ae,ae,ae,ae,?_⟩
 refine⟨_,_,p,rfl,ae,ae,?_⟩
 left
 exact⟨ac,hh⟩
theorem bX7 {tt:UT}(n:Nat)(it:Nat->D)(ρ1:Ev)(hui: ∀Q:Nat->(Nat->D)->Ev->Prop,Q n it ρ1->ui ρ Q)(hn:n<=1000)
  (G:Option B->List D->Ev) (x0:Option B) (h0:pQ (yC ρ1 js) cap last=G x0 []) (h1: ∀x l b,(G x l).set t0 (some b)=G (some b) l) (h1': ∀x l,t0< (G x l).length) (h2: ∀x l (Q:List D->Prop),Q l->mU (G x l) last Q) (h3: ∀x l l',(G x l).set last (↑l')=G x l')
  (c:Nat->Bool) (f:Nat->D) (htt: ∀i l (Q':Bool->Ev->Prop),i<n->Q' (c i) (G (~~~it i) l)->tt (G (~~~it i) l) Q')
  (hte: ∀i l (Q':B->Ev->Prop),i<n->Q' (.pu<|f i) (G (~~~it i) l)->te (G (~~~it i) l) Q') (hq:Q (.ow<|((List.range n).filter c).map f) (yC ρ1 js)) :
  eJ js cap last ui (cB t0) tt te ρ Q:=by
 refine hui _ ⟨λi ρ'=> ∃x,ρ'=G x (((List.range i).filter c).map f),⟨x0,h0⟩,?_,?_⟩
 .rintro i ρ' hi ⟨x,rfl⟩;refine⟨h1' _ _,?_⟩;rw[h1];right;refine htt i _ _ hi ?_
  by_cases hc:c i=true
  .rw[a8 hc];refine hte i _ _ hi (h2 _ _ _ ⟨?_,~~~it i,?_⟩)
   .rw[aH];exact nR (List.length_filter_le ..) (by rw[qF];exact aZ hi (aG hn ac))
   .rw[h3,b9,List.filter_append,bX];simp[hc];rfl
  .rw[a6 hc];refine⟨~~~it i,?_⟩;rw[b9,List.filter_append,bX];simp[hc]
 .rintro ρ' ⟨x,rfl⟩;exact h2 _ _ _ hq
nonrec def prB (i k:Nat):Bool:=if(2:Int)+(i:Int)=2+(k:Int)then true else not<|decide (((2:Int)+(i:Int))%(2+(k:Int))=0)
nonrec def prC (i:Nat):Bool:=((List.range 13).map<|prB i).all id
nonrec def prL:List Int:=((List.range 198).filter prC).map λi:Nat=>(2:Int)+(i:Int)
theorem c68 {c p:Nat}(hp:2<=p): ∀n,bK9 (c:Int) (p:Int) n=((c^n%p:Nat):Int)
 | 0=>by
  show(1:Int)=_
  rw[Nat.pow_zero,Nat.mod_eq_of_lt ae]
  rfl
 | n+1=>by
  show bK9 (c:Int) (p:Int) n*(c:Int)%(p:Int)=_
  rw[c68 hp n,<-aM0,<-Int.natCast_emod,qL,Nat.mod_mul_mod]
theorem pr_all:prL.all (λp=>decide (2<=p)&&decide (p<200)&&(List.range p.toNat).all λc=>decide (c=0)||decide (c^(p.toNat-2)%p.toNat*c%p.toNat=1))=true:=ag
theorem wY {p:Int}(h:p∈prL):Pr p:=by
 have h1:=dJ.mp pr_all p h;simp only[dZ,gB,dJ,d6,zR]at h1;obtain⟨⟨a,b⟩,c⟩:=h1;refine⟨a,b,λx x0 x1=> ?_⟩
 obtain⟨q,rfl⟩: ∃q:Nat,p=(q:Int):=⟨p.toNat,ae⟩
 obtain⟨y,rfl⟩: ∃y:Nat,x=(y:Int):=⟨x.toNat,ae⟩
 have h2:=c y ae
 rw[bV]at h2⊢;rw[c68 ae,<-aM0,<-Int.natCast_emod]
 rcases h2 with h2|h2
 .lia
 .rw[h2];rfl
theorem b15 {u b:∅}{V:Nat}(hb: ∀j,V<=j->b j=0): ∀n m,n+V<=m->conv u b n m=0
 | 0,_,_=>rfl
 | n+1,m,h=>by
  show conv u b n m+u n*shF b n m=0
  rw[b15 hb n m ae]
  unfold shF;rw[a8 ae,hb _ ae]
  lia
nonrec def T_SMALL_PRIMES:List Int:=[2,3,5,7,11,13,17,19,23,29,31,37,41,43,47,53,59,61,67,71,73,79,83,89,97,101,103,107,109,113,127,131,137,139,149,151,157,163,167,173,179,181,191,193,197,199]
theorem tp_ok: ∀p∈T_SMALL_PRIMES,2<=p/\p<200:=ag
theorem bX8:T_SMALL_PRIMES.length=46:=rfl
def iY:Φ:=λds Q=>ds=[]/\Q (.ow<|T_SMALL_PRIMES.map .int)
def pA:US:=(cZ<|aR aQ3<|a7 (uC<|.tup<|T_SMALL_PRIMES.map .int) aK)
theorem aR8: Ra iY pA []:=by
 rintro ds Q ⟨rfl,h⟩;unfold pA;show(cZ _:US) _ [];left;exact h
theorem a18:prL=T_SMALL_PRIMES:=ag
nonrec def ps (f:∅)(z:Int):∅
 | 0=>0
 | n+1=>ps f z n+f n*z^n
nonrec def hor (f:∅)(n:Nat)(z:Int):∅
 | 0=>0
 | k+1=>hor f n z k*z+f (n-1-k)
theorem d99 (f:∅)(n:Nat)(z:Int): ∀k,k<=n->hor f n z k*z^(n-k)+ps f z (n-k)=ps f z n
 | 0,_=>by show(0:Int)*_+_=_;rw[dA,bN];rfl
 | k+1,h=>by
  have ih:=d99 f n z k ae
  obtain⟨m,hm⟩: ∃m,n-k=m+1:=⟨n-k-1,ae⟩
  have e1:n-(k+1)=m:=ae
  have e2:n-1-k=m:=ae
  rw[hm]at ih;show(hor f n z k*z+f (n-1-k))*z^(n-(k+1))+ps f z (n-(k+1))=_;rw[e1,e2,<-ih];show _=hor f n z k*z^(m+1)+(ps f z m+f m*z^m);rw[fQ,a02];have e3:hor f n z k*z*z^m=hor f n z k*(z^m*z):=by rw[kD,eG z]
  lia
theorem dN4 (f:∅)(n:Nat)(z:Int):hor f n z n=ps f z n:=by
 have:=d99 f n z n (aF _);rw[sub_self]at this;have e:hor f n z n*z^0+ps f z 0=hor f n z n:=by
  show hor f n z n*z^0+0=_
  rw[dN,kG,eF]
 lia
theorem bQ4 {f:∅}{n a b:Nat}{z:Int}(hf: ∀j,(f j).natAbs<=2^a)(hz:z.natAbs<=2^b): ∀k,(hor f n z k).natAbs<=2^(a+(b+1)*k)
 | 0=>by simp[hor]
 | k+1=>by
  show(hor f n z k*z+f (n-1-k)).natAbs<=_
  have ih:=bQ4 (n:=n) hf hz k;have h1:(hor f n z k*z).natAbs<=2^(a+(b+1)*k)*2^b:=by rw[cH];exact eB ih hz
  have h2:=hf (n-1-k);have h3:=lH (hor f n z k*z) (f<|n-1-k);have e1:2^(a+(b+1)*(k+1))=2^(a+(b+1)*k)*2^b+2^(a+(b+1)*k)*2^b:=by
   rw[zY,<-iB,<-iB,qL,dP 2 (a+(b+1)*k) b];lia
  have h4:2^a<=2^(a+(b+1)*k)*2^b:=by
   rw[<-dP];exact cT ac ae
  lia
theorem dA0 (f g:∅)(z:Int): ∀n,ps (λj=>f j+g j) z n=ps f z n+ps g z n
 | 0=>rfl
 | n+1=>by
  show ps (λj=>f j+g j) z n+(f n+g n)*z^n=ps f z n+f n*z^n+(ps g z n+g n*z^n)
  rw[dA0 f g z n,a02]
  lia
theorem dA1 (c:Int)(f:∅)(z:Int): ∀n,ps (λj=>c*f j) z n=c*ps f z n
 | 0=>by show(0:Int)=c*0;rw[bT]
 | n+1=>by
  show ps (λj=>c*f j) z n+c*f n*z^n=c*(ps f z n+f n*z^n)
  rw[dA1 c f z n,qM,kD]
theorem bX9 {f:∅}{z:Int}{n:Nat}: ∀m,n<=m->(∀j,n<=j->j<m->f j=0)->ps f z m=ps f z n
 | 0,h,_=>by rw[show n=0 by lia]
 | m+1,h,hz=>by
  by_cases c:n=m+1
  .rw[c]
  .show ps f z m+f m*z^m=_
   rw[hz m ae ae,dA,eF]
   exact bX9 m ae λj a b=>hz j a ae
theorem bQ5 (b:∅)(z:Int)(U:Nat): ∀n,n<=U->ps (shF b U) z n=0
 | 0,_=>rfl
 | n+1,h=>by
  show ps (shF b U) z n+shF b U n*z^n=0
  rw[bQ5 b z U n aa]
  unfold shF;rw[a6 aa,dA]
  rfl
theorem c69 (b:∅)(z:Int)(U:Nat): ∀m,ps (shF b U) z (U+m)=z^U*ps b z m
 | 0=>by rw[Nat.add_zero,bQ5 b z U U<|aF _];show(0:Int)=z^U*0;rw[bT]
 | m+1=>by
  show ps (shF b U) z (U+m)+shF b U (U+m)*z^(U+m)=z^U*(ps b z m+b m*z^m)
  rw[c69 b z U m];unfold shF;rw[a8 ae,show U+m-U=m by lia,pow_add,qM,Int.mul_left_comm]
theorem cQ0 {u b:∅}{z:Int}{V:Nat}(hb: ∀j,V<=j->b j=0): ∀U N,U+V<=N->ps (conv u b U) z N=ps u z U*ps b z V
 | 0,N,_=>by
  have:ps (conv u b 0) z N=0:=by
   have e:ps (conv u b 0) z N=ps (conv u b 0) z 0:=bX9 N (dO _) λ_ _ _=>rfl
   rw[e];rfl
  rw[this];show(0:Int)=0*_;rw[dA]
 | U+1,N,h=>by
  have e:conv u b (U+1)=λm=>conv u b U m+u U*shF b U m:=rfl
  rw[e,dA0 (conv u b U) λm=>u U*shF b U m,cQ0 hb U N ae,dA1]
  obtain⟨m,rfl⟩: ∃m,N=U+m:=⟨N-U,ae⟩
  rw[c69,bX9 (n:=V) m ae λj a _=>hb j a]
  show _=(ps u z U+u U*z^U)*ps b z V
  rw[a02,kD<|u U]
structure HorOk (n a b:Nat)(f:∅)(z:Int):Prop where
 fb: ∀j,(f j).natAbs<=2^a
 zb:z.natAbs<=2^b
 room:a+(b+1)*n<8000
 b8:b<8000
 n9:n<=200
def tH:Φ:=λds Q=> ∃(n a b:Nat) (f:∅) (z:Int),ds=[aI<|rwF n f,.int z]/\HorOk n a b f z/\Q (.pu<|.int<|ps f z n)
def a19:US:=(aT (bM 2<|@0)<|aT (iM (cO8<|a7 (aC 0) aK) (cB 3)<|bM 2<|uOp fN (uOp fV (aC 2)<|aC 1)<|aC 3)<|rP 2)
theorem bY0: Ra tH a19 ["f","z","v","c"]:=by
 rintro ds Q ⟨n,a,b,f,z,rfl,ok,h⟩;unfold a19;simp only[aI];show(aT _ _:US) _ [~~~.tup ((rwF n f).map .int),!z,none,none];left;refine bJ n (λk=>((rwF n f).map D.int).getD (n-1-k) .non) [~~~.tup ((rwF n f).map .int),!z,!0,none] ?_
  (λk ρ=> ∃c,ρ=[~~~.tup ((rwF n f).map .int),!z,!hor f n z k,c]) ⟨none,rfl⟩ ?_ ?_
 .intro Q' q;left;rw[bZ];exact q
 .rintro k ρ hk ⟨c,rfl⟩;rw[oZ aa]
  left
  have room:=ok.room;have:(b+1)*k<=(b+1)*n:=tY _ aa
  exact⟨af,.inr ⟨Sm.pow (bQ4 ok.fb ok.zb k) aa,Sm.pow ok.zb (by have:=ok.b8;omega)⟩,_,rfl⟩
 .rintro ρ ⟨c,rfl⟩;left;rw[dN4];exact h
theorem cQ1 (f g:∅)(n m:Nat):shF (λj=>f j+g j) n m=shF f n m+shF g n m:=by
 unfold shF;right;split<;>lia
theorem cQ2 (c:Int)(f:∅)(n m:Nat):shF (λj=>c*f j) n m=c*shF f n m:=by
 unfold shF;right;split
 .rfl
 .rw[bT]
theorem shF_sh (h:∅)(n k m:Nat):shF (shF h n) k m=shF h (n+k) m:=by
 unfold shF
 by_cases c:k<=m
 .rw[a8 c]
  by_cases d:n<=m-k
  .rw[a8 d,a8 ae,show m-k-n=m-(n+k)by lia]
  .rw[a6 d,a6 ae]
 .rw[a6 c,a6 ae]
theorem bQ6 (f g b:∅)(m:Nat): ∀n,conv (λj=>f j+g j) b n m=conv f b n m+conv g b n m
 | 0=>rfl
 | n+1=>by
  show conv (λj=>f j+g j) b n m+(f n+g n)*shF b n m=conv f b n m+f n*shF b n m+(conv g b n m+g n*shF b n m)
  rw[bQ6 f g b m n,a02]
  lia
theorem aX2 (c:Int)(f b:∅)(m:Nat): ∀n,conv (λj=>c*f j) b n m=c*conv f b n m
 | 0=>by show(0:Int)=c*0;rw[bT]
 | n+1=>by
  show conv (λj=>c*f j) b n m+c*f n*shF b n m=c*(conv f b n m+f n*shF b n m)
  rw[aX2 c f b m n,qM,kD]
theorem c70 (f b:∅)(k m:Nat): ∀n,conv (shF f k) b (k+n) m=shF (conv f b n) k m
 | 0=>by
  have e: ∀j,j<=k->conv (shF f k) b j m=0:=by
   intro j
   induction j with
   | zero=>intro _;rfl
   | succ j ih=>
    intro hj;show conv (shF f k) b j m+shF f k j*shF b j m=0;rw[ih ae]
    unfold shF;rw[a6 ae,dA]
    rfl
  rw[Nat.add_zero,e k<|aF _];unfold shF;split<;>rfl
 | n+1=>by
  show conv (shF f k) b (k+n) m+shF f k (k+n)*shF b (k+n) m=shF (λm=>conv f b n m+f n*shF b n m) k m
  rw[c70 f b k m n,cQ1,cQ2,shF_sh,add_comm n k]
  congr 2
  unfold shF;rw[a8 ae,show k+n-k=n by lia]
theorem bC4 {u b c:∅}{V:Nat}(hb: ∀j,V<=j->b j=0)(m:Nat): ∀U,conv u (conv b c V) U m=conv (conv u b U) c (U+V) m
 | 0=>by
  have e: ∀n,conv (conv u b 0) c n m=0:=by
   intro n
   induction n with
   | zero=>rfl
   | succ n ih=>
    show conv (conv u b 0) c n m+0*shF c n m=0
    rw[ih,dA];rfl
  rw[e];rfl
 | U+1=>by
  show conv u (conv b c V) U m+u U*shF (conv b c V) U m=conv (λm=>conv u b U m+u U*shF b U m) c (U+1+V) m
  rw[bQ6,aX2,bC4 hb m U];have z1: ∀j,U+V<=j->j<U+1+V->conv u b U j=0:=λj h1 h2=>by
   have: ∀i,V<i+1->b i=0:=λi hi=>hb i ae
   by_cases v:V=0
   .subst v;have e:b=λ_=>0:=funext λj=>hb j (dO _)
    rw[e];have nul: ∀n,conv u (λ_=>0) n j=0:=by
     intro n
     induction n with
     | zero=>rfl
     | succ n ih=>
      show conv u (λ_=>0) n j+u n*shF (λ_=>0) n j=0
      rw[ih];unfold shF;split<;>rw[bT]<;>rfl
    exact nul U
   .exact oJ (d:=V-1) (λi hi=>hb i ae) U j ae
  rw[aR7 (u:=conv u b U) (b:=c) (U:=U+V) (U+1+V) z1 ae]
  have z2: ∀j,U+V<=j->j<U+1+V->shF b U j=0:=λj h1 h2=>by
   unfold shF;rw[a8 ae]
   exact hb _ ae
  rw[aR7 (u:=shF b U) (b:=c) (U:=U+V) (U+1+V) z2 ae,c70]
theorem aX3 (u f g:∅)(m:Nat): ∀n,conv u (λj=>f j+g j) n m=conv u f n m+conv u g n m
 | 0=>rfl
 | n+1=>by
  show conv u (λj=>f j+g j) n m+u n*shF (λj=>f j+g j) n m=conv u f n m+u n*shF f n m+(conv u g n m+u n*shF g n m)
  rw[aX3 u f g m n,cQ1,qM]
  lia
theorem aR9 (c:Int)(k:Nat)(hu: ∀j,n<=j->u j=0)(m:Nat):conv u (λj=>if j=k then c else 0) n m=c*shF u k m:=by
 have e: ∀n,conv u (λj=>if j=k then c else 0) n m=if k<=m/\m-k<n then c*u (m-k)else 0:=by
  intro n
  induction n with
  | zero=>rw[a6 aa];rfl
  | succ n ih=>
   show conv u (λj=>if j=k then c else 0) n m+u n*shF (λj=>if j=k then c else 0) n m=_
   have sh:shF (λj=>if j=k then c else 0) n m=if n<=m/\m-n=k then c else 0:=by
    unfold shF;right
    by_cases h3:n<=m
    .rw[a8 h3]
     by_cases h4:m-n=k
     .rw[a8 h4,a8 ⟨h3,h4⟩]
     .rw[a6 h4,a6 λz=>h4 z.2]
    .rw[a6 h3,a6 λz=>h3 z.1]
   rw[ih,sh]
   by_cases h1:k<=m/\m-k<n
   .rw[a8 h1,a6<|show ¬(n<=m/\m-n=k)by omega,a8<|show k<=m/\m-k<n+1 by omega,bT,eF]
   .rw[a6 h1]
    by_cases h2:k<=m/\m-k=n
    .rw[a8<|show n<=m/\m-n=k by omega,a8<|show k<=m/\m-k<n+1 by omega,h2.2,bN,eG]
    .rw[a6<|show ¬(n<=m/\m-n=k)by omega,a6<|show ¬(k<=m/\m-k<n+1)by omega,bT]
     rfl
 rw[e n];unfold shF
 by_cases h1:k<=m
 .rw[a8 h1]
  by_cases h2:m-k<n
  .rw[a8 ⟨h1,h2⟩]
  .rw[a6 aa,hu _ aa,bT]
 .rw[a6 h1,a6 aa,bT]
theorem bQ7 {b:∅}{V:Nat}(hu: ∀j,U<=j->u j=0)(hb: ∀j,V<=j->b j=0)(m:Nat):conv u b U m=conv b u V m:=by
 have e: ∀n,conv u b n m=conv b (λj=>if j<n then u j else 0) V m:=by
  intro n
  induction n with
  | zero=>
   have:(λj=>if j<0 then u j else 0)=λj=>if j=0 then(0:Int)else 0:=funext λj=>af
   rw[this,aR9 0 0 hb,dA];rfl
  | succ n ih=>
   have:(λj=>if j<n+1 then u j else 0)=λj=>(if j<n then u j else 0)+(if j=n then u n else 0):=funext λj=>by
    by_cases h1:j<n
    .rw[a8 ae,a8 h1,a6 ae,eF]
    .by_cases h2:j=n
     .subst h2;rw[a8 ae,a6 h1,a8 rfl,bN]
     .rw[a6 ae,a6 h1,a6 h2];rfl
   rw[this,aX3 b (λj=>if j<n then u j else 0) λj=>if j=n then u n else 0,aR9 _ _ hb,<-ih]
   rfl
 rw[e U]
 congr 1
 funext j
 by_cases h:j<U
 .rw[a8 h]
 .rw[a6 h,hu j ae]
theorem emL (a b p:Int):a%p*b%p=a*b%p:=by rw[gE,kE,<-gE]
theorem emR (a b p:Int):a*(b%p)%p=a*b%p:=by rw[gE,kE,<-gE]
structure MP (p:Int)(n:Nat)(f:∅):Prop where
 top:f n=1
 hi: ∀j,n<j->f j=0
 rng: ∀j,0<=f j/\f j<p
nonrec def tm (p:Int)(a b:Nat×∅):Nat×∅:=(a.1+b.1,md p<|conv a.2 b.2 (a.1+1))
theorem c71 {p:Int}(u b:∅)(n m:Nat):conv (md p u) b n m%p=conv u b n m%p:=aR6 (λi j=>by show u i%p*b j%p=_;rw[emL]) n m
theorem dA2 {p:Int}(u b:∅)(n m:Nat):conv u (md p b) n m%p=conv u b n m%p:=aR6 (λi j=>by show u i*(b j%p)%p=_;rw[emR]) n m
theorem MP.tm {p:Int}{a b:Nat×∅}(hp:2<=p)(ha:MP p a.1 a.2)(hb:MP p b.1 b.2):MP p (M.tm p a b).1 (M.tm p a b).2:=by
 refine⟨?_,λj hj=> ?_,λj=>⟨d5 _ ae,d4 _ ae⟩⟩
 .show conv a.2 b.2 (a.1+1) (a.1+b.1)%p=1
  rw[c66 hb.hi,ha.top,hb.top];exact fE ac ae
 .show conv a.2 b.2 (a.1+1) j%p=0
  have hj':a.1+b.1<j:=hj;rw[oJ (d:=b.1) hb.hi (a.1+1) j ae,eC]
theorem a85 {p:Int}{a b c:Nat×∅}(hb: ∀j,b.1<j->b.2 j=0):tm p a (tm p b c)=tm p (tm p a b) c:=by
 refine kJ (iB _ _ _).symm (funext λm=> ?_)
 show conv a.2 (md p<|conv b.2 c.2 (b.1+1)) (a.1+1) m%p=conv (md p<|conv a.2 b.2 (a.1+1)) c.2 (a.1+b.1+1) m%p
 rw[dA2,c71,bC4 (V:=b.1+1) (λj hj=>hb j hj) m<|a.1+1]
 rw[aR7 (u:=conv a.2 b.2 (a.1+1)) (b:=c.2) (U:=a.1+b.1+1) (a.1+1+(b.1+1)) (λj h1 h2=>oJ (d:=b.1) hb (a.1+1) j ae) ae]
theorem b73 {p:Int}{a b:Nat×∅}(ha: ∀j,a.1<j->a.2 j=0)(hb: ∀j,b.1<j->b.2 j=0):tm p a b=tm p b a:=by
 refine kJ (add_comm _ _) (funext λm=> ?_)
 show conv a.2 b.2 (a.1+1) m%p=conv b.2 a.2 (b.1+1) m%p
 rw[bQ7 (U:=a.1+1) (V:=b.1+1) (λj hj=>ha j hj) λj hj=>hb j hj]
nonrec def tI:Nat×∅:=(0,λj=>if j=0 then 1 else 0)
theorem MP.one {p:Int}(hp:2<=p):MP p tI.1 tI.2:=⟨rfl,λj hj=>a6 (by have:0<j:=hj;lia),λj=>by show 0<=(if j=0 then(1:Int)else 0)/\(if j=0 then(1:Int)else 0)<p;split<;>lia⟩
theorem dA3 {p:Int}{a:Nat×∅}(ha:MP p a.1 a.2):tm p tI a=a:=by
 refine kJ (Nat.zero_add _) (funext λm=> ?_)
 show(0+(if(0:Nat)=0 then(1:Int)else 0)*shF a.2 0 m)%p=a.2 m
 rw[a8 rfl,kI,bN];unfold shF;rw[a8<|dO _,zX];exact fE (ha.rng m).1 (ha.rng m).2
nonrec def uY (c:Int):Nat×∅:=(1,λj=>if j=0 then c else if j=1 then 1 else 0)
theorem MP.lin {p:Int}(hp:2<=p)(h0:0<=c)(h1:c<p):MP p (uY c).1 (uY c).2:=⟨rfl,λj hj=>by
  have:1<j:=hj;show(if j=0 then c else if j=1 then 1 else 0)=0;rw[a6 ae,a6 ae],λj=>by
  show 0<=(if j=0 then c else if j=1 then 1 else 0)/\(if j=0 then c else if j=1 then 1 else 0)<p
  split
  .lia
  .split<;>lia⟩
nonrec def va (p:Int)(a:Nat×∅)(z:Int):Int:=ps a.2 z (a.1+1)%p
theorem dU2 (p:Int)(f:∅)(z:Int): ∀n,ps (md p f) z n%p=ps f z n%p
 | 0=>rfl
 | n+1=>by
  show(ps (md p f) z n+f n%p*z^n)%p=(ps f z n+f n*z^n)%p
  rw[iC,dU2 p f z n,emL,<-iC]
theorem va_tm {p:Int}{a b:Nat×∅}(hb: ∀j,b.1<j->b.2 j=0)(z:Int):va p (tm p a b) z=va p a z*va p b z%p:=by
 show ps (md p<|conv a.2 b.2 (a.1+1)) z (a.1+b.1+1)%p=ps a.2 z (a.1+1)%p*(ps b.2 z (b.1+1)%p)%p
 rw[dU2,<-gE];have h:=cQ0 (u:=a.2) (b:=b.2) (z:=z) (V:=b.1+1) (λj hj=>hb j hj) (a.1+1) (a.1+1+(b.1+1)) (aF _)
 rw[<-h,bX9 (n:=a.1+b.1+1) (a.1+1+(b.1+1)) ae λj h1 h2=>oJ (d:=b.1) hb (a.1+1) j ae]
nonrec def hqA (c:Int)(f:∅)(n:Nat):∅
 | 0=>f n
 | k+1=>f (n-1-k)-c*hqA c f n k
nonrec def hq (c:Int)(f:∅)(n:Nat):∅:=λj=>if j<n then hqA c f n (n-1-j)else 0
theorem cQ3 (hf: ∀j,n<j->f j=0)(j:Nat)(hj:1<=j):f j=hq c f n (j-1)+c*hq c f n j:=by
 unfold hq
 by_cases h1:j<n
 .rw[a8<|show j-1<n by lia,a8 h1,show n-1-(j-1)=(n-1-j)+1 by lia]
  show f j=f (n-1-(n-1-j))-c*hqA c f n (n-1-j)+c*hqA c f n (n-1-j)
  rw[show n-1-(n-1-j)=j by lia]
  lia
 .by_cases h2:j=n
  .subst h2;rw[a8<|show j-1<j by lia,a6 h1,show j-1-(j-1)=0 by lia,bT,eF]
   rfl
  .rw[a6<|show ¬j-1<n by lia,a6 h1,hf j ae,bT]
   rfl
theorem dU3 {c:Int}{f:∅}{n:Nat}(hf: ∀j,n<j->f j=0): ∀m,ps f (-c) (m+1)=f 0-c*hq c f n 0+c*hq c f n m*(-c)^m
 | 0=>by
  show 0+f 0*(-c)^0=_
  rw[dN,kG,kG]
  lia
 | m+1=>by
  show ps f (-c) (m+1)+f (m+1)*(-c)^(m+1)=_
  rw[dU3 hf m,cQ3 (c:=c) hf (m+1) ae,qD,fQ]
  grind
theorem hq_at (hf: ∀j,n<j->f j=0):ps f (-c) (n+1)=f 0-c*hq c f n 0:=by
 rw[dU3 hf n];have:hq c f n n=0:=by unfold hq;rw[a6<|d7 _]
 rw[this,bT,dA,eF]
theorem dA4 (c:Int)(hu: ∀j,n<=j->u j=0)(m:Nat):conv u (uY c).2 n m=c*u m+(if m=0 then 0 else u (m-1)):=by
 have e:(uY c).2=λj=>(if j=0 then c else 0)+(if j=1 then 1 else 0):=funext λj=>by
  show(if j=0 then c else if j=1 then 1 else 0)=_
  by_cases h0:j=0
  .subst h0;simp
  .rw[a6 h0,a6 h0,bN]
 rw[e,aX3 u (λj=>if j=0 then c else 0) λj=>if j=1 then 1 else 0,aR9 c 0 hu,aR9 1 1 hu,kI]
 unfold shF;rw[a8<|dO _,zX]
 congr 1
 by_cases h0:m=0
 .rw[a8 h0,a6 ae]
 .rw[a6 h0,a8 ae]
theorem dN5 (hf: ∀j,n<j->f j=0)(m:Nat):f m=conv (hq c f n) (uY c).2 n m+(if m=0 then f 0-c*hq c f n 0 else 0):=by
 rw[dA4 c (λj hj=>by unfold hq;rw[a6 ae])]
 by_cases h0:m=0
 .subst h0;rw[a8 rfl,a8 rfl];lia
 .rw[a6 h0,a6 h0,cQ3 (c:=c) hf m ae];lia
structure PrI (P:Int):Prop where
 lo:2<=P
 or: ∀x y:Int,P∣x*y->P∣x\/P∣y
theorem c72 {u b:∅}{i j:Nat}(hu: ∀k,k<i->u k=0)(hb: ∀k,k<j->b k=0): ∀n,conv u b n (i+j)=if i<n then u i*b j else 0
 | 0=>rfl
 | n+1=>by
  show conv u b n (i+j)+u n*shF b n (i+j)=_
  rw[c72 hu hb n];unfold shF;rcases Nat.lt_trichotomy n i with h|h|h
  .rw[hu n h,dA,eF,a6<|show ¬i<n by lia,a6<|show ¬i<n+1 by lia]
  .subst h;rw[a6<|show ¬n<n by lia,a8<|show n<=n+j by lia,a8<|show n<n+1 by lia,show n+j-n=j by lia,bN]
  .rw[a8 h,a8<|show i<n+1 by lia]
   by_cases c:n<=i+j
   .rw[a8 c,hb (i+j-n) ae,bT,eF]
   .rw[a6 c,bT,eF]
theorem bQ8 {a:∅}{d:Nat}(h: ¬ ∀j,j<=d->P∣a j): ∃i,i<=d/\ ¬P∣a i/\ ∀k,k<i->P∣a k:=by
 induction d with
 | zero=>exact⟨0,aF _,λz=>h λj hj=>by rw[show j=0 by lia];exact z,λk hk=>absurd hk (aM2 _)⟩
 | succ d ih=>
  by_cases c: ∀j,j<=d->P∣a j
  .exact⟨d+1,aF _,λz=>h λj hj=>by
    by_cases e:j=d+1
    .rw[e];exact z
    .exact c j ae,λk hk=>c k ae⟩
  .obtain⟨i,h1,h2,h3⟩:=ih c;exact⟨i,ae,h2,h3⟩
theorem dN6 (pr:PrI P){a q:∅}{d:Nat}(hd: ∀m,P∣conv a q (d+1) m):(∀j,j<=d->P∣a j)\/ ∀j,j<=e->P∣q j:=by
 by_cases ca: ∀j,j<=d->P∣a j
 .exact .inl ca
 .by_cases cq: ∀j,j<=e->P∣q j
  .exact .inr cq
  .exfalso
   obtain⟨i,i1,i2,i3⟩:=bQ8 ca;obtain⟨j,j1,j2,j3⟩:=bQ8 cq;have lo:=pr.lo;have e1:conv (λk=>if k<i then 0 else a k) (λk=>if k<j then 0 else q k) (d+1) (i+j)%P=conv a q (d+1) (i+j)%P:=by
    refine aR6 (λx y=> ?_) (d+1) (i+j)
    try right
    by_cases cx:x<i
    .rw[a8 cx,dA,eC,jY<|Int.dvd_mul_of_dvd_left<|i3 x cx]
    .rw[a6 cx]
     by_cases cy:y<j
     .rw[a8 cy,bT,eC,jY<|Int.dvd_mul_of_dvd_right<|j3 y cy]
     .rw[a6 cy]
   rw[c72 (λk hk=>a8 hk) λk hk=>a8 hk,a8 ae,jY<|hd _]at e1
   try dsimp only at e1
   rw[a6<|d7 _,a6<|d7 _]at e1;rcases pr.or _ _ (l6 e1)with z|z
   .exact i2 z
   .exact j2 z
theorem cQ4 {a:∅}{d:Nat}(ha: ∀j,d<j->a j=0)(h: ∀j,j<=d->P∣a j): ∃b:∅,(∀j,d<j->b j=0)/\ ∀j,a j=P*b j:=by
 refine⟨λj=>if j<=d then a j/P else 0,λj hj=>a6 ae,λj=> ?_⟩
 right
 by_cases c:j<=d
 .rw[a8 c,Int.mul_ediv_cancel'<|h j c]
 .rw[a6 c,ha j ae,bT]
theorem bQ9 (c:Int)(u b:∅)(m:Nat): ∀n,conv u (λj=>c*b j) n m=c*conv u b n m
 | 0=>by show(0:Int)=c*0;rw[bT]
 | n+1=>by
  show conv u (λj=>c*b j) n m+u n*shF (λj=>c*b j) n m=c*(conv u b n m+u n*shF b n m)
  rw[bQ9 c u b m n,cQ2,qM]
  congr 1
  rw[<-kD,<-kD,eG<|u n]
nonrec def powT (p:Int)(a g:Nat×∅):Nat->Nat×∅
 | 0=>a
 | k+1=>tm p (powT p a g k) g
theorem MP.powT {p:Int}{a g:Nat×∅}(hp:2<=p)(ha:MP p a.1 a.2)(hg:MP p g.1 g.2): ∀k,MP p (M.powT p a g k).1 (M.powT p a g k).2
 | 0=>ha
 | k+1=>MP.tm hp (MP.powT hp ha hg k) hg
theorem aS0 (p:Int)(a g:Nat×∅): ∀k,(powT p a g k).1=a.1+g.1*k
 | 0=>rfl
 | k+1=>by
  show(powT p a g k).1+g.1=_
  rw[aS0 p a g k,zY,iB]
nonrec def allT (p:Int)(a:Nat×∅):List ((Nat×∅)×Nat)->Nat×∅
 | []=>a
 | x::l=>allT p (powT p a x.1 x.2) l
theorem wG (p:Int): ∀(l m:List ((Nat×∅)×Nat)) (a:Nat×∅),allT p a (l++m)=allT p (allT p a l) m
 | [],m,a=>rfl
 | x::l,m,a=>wG p l m _
theorem MP.allT {p:Int}(hp:2<=p): ∀(l:List ((Nat×∅)×Nat)) {a:Nat×∅},MP p a.1 a.2->(∀x∈l,MP p x.1.1 x.1.2)->MP p (M.allT p a l).1 (M.allT p a l).2
 | [],a,ha,_=>ha
 | x::l,a,ha,h=>MP.allT hp l (MP.powT hp ha (h x<|.head _) x.2) λy hy=>h y (.tail _ hy)
theorem c73 (p:Int): ∀(l:List ((Nat×∅)×Nat)) (a:Nat×∅) (x:(Nat×∅)×Nat),x∈l->a.1+x.1.1*x.2<=(allT p a l).1
 | y::l,a,x,hx=>by
  show _<=(allT p (powT p a y.1 y.2) l).1
  have mono: ∀(l:List ((Nat×∅)×Nat)) (a:Nat×∅),a.1<=(allT p a l).1:=by
   intro l
   induction l with
   | nil=>intro a;exact aF _
   | cons z l ih=>intro a;exact aG (by rw[aS0];lia) (ih<|powT p a z.1 z.2)
  rcases aY.mp hx with rfl|hx
  .have:=mono l (powT p a x.1 x.2);rw[aS0]at this;exact this
  .have:=c73 p l (powT p a y.1 y.2) x hx;rw[aS0]at this
   lia
nonrec def a86 (x:(Nat×∅)×Nat):D:= .tup [aI<|rwF (x.1.1+1) x.1.2,.int (x.2:Int)]
nonrec def lnP (x:Int×Nat):(Nat×∅)×Nat:=(uY x.1,x.2)
structure LK (p:Int)(F:Nat×∅)(C:Nat)(cs:List (Int×Nat))(L:Nat×∅):Prop where
 prod:F=tm p (allT p tI<|cs.map lnP) L
 mp:MP p L.1 L.2
 asc:cs.Pairwise λa b=>a.1<b.1
 mem: ∀x∈cs,0<=x.1/\x.1< (C:Int)/\1<=x.2
 nr: ∀c:Nat,c<C->va p L (-(c:Int))≠0
 len:cs.length<=C
theorem cQ5 {p:Int}(hp:2<=p){cs:List (Int×Nat)}(h: ∀x∈cs,0<=x.1/\x.1<p): ∀y∈cs.map lnP,MP p y.1.1 y.1.2:=by
 intro y hy;obtain⟨x,hx,rfl⟩:=d8.mp hy;exact MP.lin hp (h x hx).1 (h x hx).2
def uZ:Φ:=λds Q=> ∃(n:Nat) (f:∅) (p:Int),ds=[aI<|rwF (n+1) f,.int p]/\n<=40/\Pr p/\MP p n f/\ ∀cs L,LK p (n,f) p.toNat cs L->Q (.pu<|.tup [.lst<|cs.map λx=>a86 (lnP x),aI<|rwF (L.1+1) L.2])
def a49:US:=(cZ<|hJ<|a7 (aC 2)<|a7 (aC 3) aK)
def a50:US:=(aT (iM (eZ<|a7 (aC 1) aK) (cB 4)<|aT (bM 5<|@0)<|aT (bV0 (fG<|uOp (kR false) (uOp oS (aR tH<|a7 (aC 3)<|a7 (nZ<|aC 4) aK)<|aC 1)<|@0)<|aT (bM 3<|uIx (uV<|aR sF<|a7 (aC 3)<|a7 (hJ<|a7 (aC 4)<|a7 @1 aK)<|a7 (aC 1) aK)<|@0)<|c42 5 (gI2 λi j Q=>Q (.pu<|.int<|i+j))<|@1)<|iL (fG<|uOp (vW λi j=>decide (j<i)) (aC 5)<|@0) (a67 2<|hJ<|a7 (hJ<|a7 (aC 4)<|a7 @1 aK)<|a7 (aC 5) aK) fJ) a49)
def a51:US:=(aT (bM 3<|aC 0) a50)
def v4:US:=(aT (bM 2<|eR aK) a51)
theorem dA5 {p:Int}(pp:Pr p){L:Nat×∅}(mp:MP p L.1 L.2)(c0:0<=c)(c1:c<p)(hz:va p L (-c)=0){t:Int}(ht:t*md p (uY c).2 1%p=1)(t0:0<=t)(t1:t<p) :
  1<=L.1/\ ∃u:∅,MP p (L.1-1) u/\L=tm p (L.1-1,u) (uY c)/\
   (let b:=λj=>t*md p (uY c).2 j%p
    let LA:=gK (md p L.2) (L.1+1)
    let q:=divQ b 1 (LA-1) (md p L.2)
    rwF (gK (λj=>t*q j%p)<|gK q<|LA-1) (λj=>t*q j%p)=rwF L.1 u):=by
 have p2:=pp.lo;have mdL:md p L.2=L.2:=funext λj=>fE (mp.rng j).1 (mp.rng j).2
 have ml:=MP.lin p2 c0 c1;have mdG:md p (uY c).2=(uY c).2:=funext λj=>fE (ml.rng j).1 (ml.rng j).2
 have l1:1<=L.1:=by
  refine Nat.pos_of_ne_zero λz=> ?_
  unfold va at hz;rw[z]at hz;have e:ps L.2 (-c) (0+1)=L.2 0*(-c)^0:=by show 0+L.2 0*(-c)^0=_;lia
  have e2:L.2 0=1:=by have:=mp.top;rw[z]at this;exact this
  rw[e,e2,dN,kG,fE ac ae]at hz
  cases hz
 have r0:(L.2 0-c*hq c L.2 L.1 0)%p=0:=by rw[<-hq_at mp.hi];exact hz
 have fm: ∀m,L.2 m=conv (md p<|hq c L.2 L.1) (uY c).2 L.1 m%p:=λm=>by
  have h:=dN5 (c:=c) mp.hi m;rw[c71];have e:L.2 m%p=L.2 m:=fE (mp.rng m).1 (mp.rng m).2;rw[<-e]
  conv=>lhs;rw[h]
  by_cases h0:m=0
  .rw[a8 h0,iC,r0,eF,kE]
  .rw[a6 h0,eF]
 have ut:md p (hq c L.2 L.1) (L.1-1)=1:=by
  show hq c L.2 L.1 (L.1-1)%p=1
  unfold hq;rw[a8 ae,sub_self]
  show L.2 L.1%p=1
  rw[mp.top];exact fE ac ae
 have uz: ∀j,L.1<=j->md p (hq c L.2 L.1) j=0:=λj hj=>by
  show hq c L.2 L.1 j%p=0
  unfold hq;rw[a6 ae,eC]
 have ur: ∀j,0<=md p (hq c L.2 L.1) j/\md p (hq c L.2 L.1) j<p:=λj=>⟨d5 _ ae,d4 _ ae⟩
 refine⟨l1,md p<|hq c L.2 L.1,⟨ut,λj hj=>uz j ae,ur⟩,?_,?_⟩
 .refine kJ (show L.1=L.1-1+1 by lia) (funext λm=> ?_)
  show L.2 m=conv (md p<|hq c L.2 L.1) (uY c).2 (L.1-1+1) m%p
  rw[show L.1-1+1=L.1 by lia]
  exact fm m
 .have mm:=d98 (p:=p) (t:=t) (B0:=md p (uY c).2) (u:=md p (hq c L.2 L.1)) (low:=λ_=>0) (A:=md p L.2) (d:=1) (U:=L.1) (n:=L.1+1) p2 (λj hj=>by rw[mdG];exact ml.hi j hj) (.inr (by rw[ut];decide)) ur uz (λ_ _=>rfl) (λ_=>⟨ac,ae⟩) ht (λm=>by rw[mdL,mdG,eF];exact fm m) (aF _)
  obtain⟨_,e1,_,_⟩:=mm;have eLA:gK (md p L.2) (L.1+1)=L.1+1:=tG (aF _) (λm h1 h2=>ae) (.inr (by rw[mdL,qD,mp.top];decide))
  rw[eLA]at e1⊢;have eu:(λj=>t*divQ (λj=>t*md p (uY c).2 j%p) 1 (L.1+1-1) (md p L.2) j%p)=md p (hq c L.2 L.1):=funext e1
  right;rw[eu];have eq:gK (divQ (λj=>t*md p (uY c).2 j%p) 1 (L.1+1-1)<|md p L.2) (L.1+1-1)=L.1:=by
   rw[qD];refine tG (aF _) (λm h1 h2=>ae) (.inr λz=> ?_)
   have h:=e1 (L.1-1);rw[qD]at h;rw[z,bT,eC,ut]at h;cases h
  rw[eq,tG (k:=L.1) (aF _) (λm h1 h2=>ae)<|.inr (by rw[ut];decide)]
theorem dA6 {p:Int}{a b:Nat×∅}(hb: ∀j,b.1<j->b.2 j=0)(h:va p (tm p a b) z≠0):va p a z≠0/\va p b z≠0:=by
 rw[va_tm hb]at h;refine⟨λe=>h ?_,λe=>h ?_⟩
 .rw[e,dA,eC]
 .rw[e,bT,eC]
theorem dA7 {p:Int}(pp:Pr p)(h:MP p n f)(j:Nat):(f j).natAbs<=2^8:=by
 have h1:=h.rng j;have h2:=pp.hi;have:(2:Nat)^8=256:=rfl
 lia
theorem bC5: Ra uZ v4 ["f","p","a","l","c","o"]:=by
 rintro ds Q ⟨n,f,p,rfl,n4,pp,mp,h⟩;have p2:=pp.lo;have p3:=pp.hi;unfold v4;show(aT _ _:US) _ [~~~aI (rwF (n+1) f),!p,none,none,none,none];rw[aO];left;refine⟨ac,?_⟩
 unfold a51;rw[aO];left;unfold a50;rw[aO];refine bJ p.toNat (λi=> .int (0+i)) [~~~aI (rwF (n+1) f),!p,↑[],~~~aI (rwF (n+1) f),none,none] ?_
  (λi ρ=> ∃(cs:List (Int×Nat)) (L:Nat×∅) (x y:Option B),ρ=[~~~aI (rwF (n+1) f),!p,some<|.ow<|cs.map λx=>a86 (lnP x),~~~aI (rwF (L.1+1) L.2),x,y]/\LK p (n,f) i cs L)
  ⟨[],(n,f),none,none,rfl,(dA3 (p:=p) (a:=(n,f)) mp).symm,mp,.nil,af,af,aF _⟩ ?_ ?_
 .intro Q' q;left;refine⟨⟨ae,ae⟩,?_⟩
  exact q
 .rintro i ρ hi ⟨cs,L,x,y,rfl,lk⟩;have hLn:L.1<=n:=by
   have:=cR Prod.fst lk.prod;have e:n=(allT p tI<|cs.map lnP).1+L.1:=this
   lia
  have mcs:=cQ5 p2 (cs:=cs) (λx hx=>⟨(lk.mem x hx).1,by have:=(lk.mem x hx).2.1;lia⟩)
  have mA:=MP.allT p2 (cs.map lnP) (MP.one p2) mcs;have mlin:=MP.lin p2 (c:=(i:Int)) ae ae
  rw[bN];left;refine⟨af,?_⟩
  refine⟨λk ρ=> ∃(o:Nat) (L':Nat×∅),ρ=[~~~aI (rwF (n+1) f),!p,some<|.ow<|cs.map λx=>a86 (lnP x),~~~aI (rwF (L'.1+1) L'.2),!(i:Int),!(o:Int)]/\k=L'.1/\L'.1<=n/\(n,f)=tm p (powT p (allT p tI<|cs.map lnP) (uY (i:Int)) o) L'/\MP p L'.1 L'.2/\ ∀c:Nat,c<i->va p L' (-(c:Int))≠0,⟨L.1,0,L,rfl,rfl,hLn,lk.prod,lk.mp,lk.nr⟩,?_⟩
  rintro k ρ ⟨o,L',rfl,rfl,hL',e,mp',nr⟩;left;refine⟨L'.1+1,8,8,L'.2,-(i:Int),rfl,⟨dA7 pp mp',by have:(2:Nat)^8=256:=rfl;lia,ae,ac,ae⟩,?_⟩
  left
  refine⟨ae,?_⟩
  rw[dE _ ae]
  by_cases c:va p L' (-(i:Int))=0
  .rw[a8<|show ps L'.2 (-(i:Int)) (L'.1+1)%p=0 from c]
   refine⟨ac,L'.1+1,2,1,L'.2,(uY (i:Int)).2,p,rfl,ae,ac,pp,λj hj=>mlin.hi j hj,ac,λj hj=>by show(uY (i:Int)).2 j%p=0;rw[mlin.hi j hj,eC],by show(1:Int)%p≠0;rw[fE ac ae];decide,λt ht t0 t1=> ?_⟩
   obtain⟨l1,u,mu,eu,er⟩:=dA5 pp mp' (c:=(i:Int)) ae ae c ht t0 t1
   dsimp only at er⊢;rw[er,a80];right;have eL:rwF L'.1 u=rwF (L'.1-1+1) u:=by rw[show L'.1-1+1=L'.1 by lia]
   rw[eL];refine⟨L'.1-1,ae,o+1,(L'.1-1,u),by rw[Int.natCast_succ],rfl,by show L'.1-1<=n;lia,?_,mu,λc' hc'=> ?_⟩
   .show(n,f)=tm p (tm p (powT p (allT p tI<|cs.map lnP) (uY (i:Int)) o)<|uY (i:Int)) (L'.1-1,u)
    rw[e]
    conv=>lhs;rw[eu]
    rw[b73 (a:=(L'.1-1,u)) (λj hj=>mu.hi j hj) mlin.hi,a85 mlin.hi]
   .have:=nr c' hc';rw[eu]at this;exact(dA6 mlin.hi this).1
  .rw[a6<|show ¬ps L'.2 (-(i:Int)) (L'.1+1)%p=0 from c]
   have nr': ∀c:Nat,c<i+1->va p L' (-(c:Int))≠0:=λc' hc'=>by
    by_cases h1:c'<i
    .exact nr c' h1
    .rw[show c'=i by lia];exact c
   by_cases c2:(0:Int)< (o:Int)
   .rw[a8 c2];refine⟨ac,ac,?_,cs++[((i:Int),o)],L',_,_,by rw[bX];rfl,?_,mp',?_,?_,nr',?_⟩
    .rw[aH];exact nR lk.len (aZ hi<|aG (show p.toNat<=200 by lia) ac)
    .rw[bX,wG];exact e
    .rw[List.pairwise_append];refine⟨lk.asc,yZ _ _,λa ha b hb=> ?_⟩
     rw[j7.mp hb];exact(lk.mem a ha).2.1
    .intro z hz;rcases fF.mp hz with hz|hz
     .have:=lk.mem z hz;exact⟨this.1,ae,this.2.2⟩
     .rw[j7.mp hz];exact⟨by show(0:Int)<=(i:Int);lia,by show(i:Int)< ((i+1:Nat):Int);lia,by show 1<=o;lia⟩
    .rw[cM];exact aL8 lk.len
   .rw[a6 c2];have o0:o=0:=ae
    subst o0;exact⟨cs,L',_,_,rfl,e,mp',lk.asc,λz hz=>⟨(lk.mem z hz).1,by have:=(lk.mem z hz).2.1;lia,(lk.mem z hz).2.2⟩,nr',aL4 lk.len⟩
 .rintro ρ ⟨cs,L,x,y,rfl,lk⟩;right;unfold a49;left;exact⟨ac,h cs L lk⟩
nonrec def quF (v u:Int):Nat×∅:=(2,λj=>if j=0 then v else if j=1 then u else if j=2 then 1 else 0)
theorem MP.qu {p u:Int}(hp:2<=p)(v0:0<=v)(v1:v<p)(u0:0<=u)(u1:u<p):MP p (quF v u).1 (quF v u).2:=⟨rfl,λj hj=>by
  have:2<j:=hj;show(if j=0 then v else if j=1 then u else if j=2 then 1 else 0)=0;rw[a6 ae,a6 ae,a6 ae],λj=>by
  show 0<=(if j=0 then v else if j=1 then u else if j=2 then 1 else 0)/\(if j=0 then v else if j=1 then u else if j=2 then 1 else 0)<p
  split
  .lia
  .split
   .lia
   .split<;>lia⟩
theorem dN7 (v u w s:Int):conv (quF v u).2 (quF w s).2 3 0=v*w/\conv (quF v u).2 (quF w s).2 3 1=v*s+u*w/\conv (quF v u).2 (quF w s).2 3 2=v+u*s+w/\conv (quF v u).2 (quF w s).2 3 3=u+s:=by
 refine⟨?_,?_,?_,?_⟩<;>simp[conv,shF,quF]
theorem dU4 {p:Int}(mp:MP p 4 f){u:Int}(m1:MP p (quF v u).1 (quF v u).2)(m2:MP p (quF w s).1 (quF w s).2)(hp:2<=p) :
  ((4,f):Nat×∅)=tm p (quF v u) (quF w s)↔f 0=v*w%p/\f 1=(v*s+u*w)%p/\f 2=(v+u*s+w)%p/\f 3=(u+s)%p:=by
 obtain⟨e0,e1,e2,e3⟩:=dN7 v u w s;have mt:=MP.tm hp m1 m2;constructor
 .intro e;have h: ∀m,f m=conv (quF v u).2 (quF w s).2 3 m%p:=λm=>congrFun (cR Prod.snd e) m
  exact⟨by rw[h 0,e0],by rw[h 1,e1],by rw[h 2,e2],by rw[h 3,e3]⟩
 .rintro⟨h0,h1,h2,h3⟩;refine kJ rfl (funext λm=> ?_)
  show f m=conv (quF v u).2 (quF w s).2 3 m%p
  match m with
  | 0=>rw[h0,e0]
  | 1=>rw[h1,e1]
  | 2=>rw[h2,e2]
  | 3=>rw[h3,e3]
  | 4=>exact mp.top.trans mt.top.symm
  | m+5=>exact(mp.hi _ ae).trans (mt.hi (m+5)<|show 2+2<m+5 by lia).symm
def NoQ (p:Int)(F:Nat×∅):Prop:= ∀v u w s:Int,0<=v->v<p->0<=u->u<p->0<=w->w<p->0<=s->s<p->F≠tm p (quF v u) (quF w s)
def sH:Φ:=λds Q=> ∃(f:∅) (p:Int),ds=[aI<|rwF 5 f,.int p]/\Pr p/\MP p 4 f/\
 (∀v u w s:Int,0<=v->v<p->0<=u->u<p->0<=w->w<p->0<=s->s<p->((4,f):Nat×∅)=tm p (quF v u) (quF w s)->Q (.ow [aI [v,u,1],aI [w,s,1]]))/\(NoQ p (4,f)->Q (.ow []))
def yH:US:=(cZ<|eR aK)
def sI:US:=(aT (iM (eZ<|a7 (aC 1) aK) (cB 2)<|aT (bM 3<|uOp oS (uOp M.gSub (uIx (aS 0)<|@3)<|aC 2)<|aC 1)<|aT (bM 4<|uOp M.gSub (uIx (aS 0)<|@2)<|uOp fV (aC 2)<|aC 3)<|iM (eZ<|a7 (aC 1) aK) (cB 5)<|aT (bM 6<|uOp oS (uOp M.gSub (aC 4)<|aC 5)<|aC 1)<|iL (cV3 (fG<|uOp (kR false) (uOp oS (uOp fV (aC 5)<|aC 6)<|aC 1)<|uIx (aS 0)<|@0)<|fG<|uOp (kR false) (uOp oS (uOp fN (uOp fV (aC 2)<|aC 6)<|uOp fV (aC 5)<|aC 3)<|aC 1)<|uIx (aS 0)<|@1) (cZ<|eR<|a7 (hJ<|a7 (aC 5)<|a7 (aC 2)<|a7 @1 aK)<|a7 (hJ<|a7 (aC 6)<|a7 (aC 3)<|a7 @1 aK) aK) fJ) yH)
def cX5 (p:Int)(f:∅)(u v:Int):Prop:=v*((f 2-u*((f 3-u)%p)-v)%p)%p=f 0/\(u*((f 2-u*((f 3-u)%p)-v)%p)+v*((f 3-u)%p))%p=f 1
theorem c74 {p:Int}(h0:0<=a)(h1:a<p)(h:x=(a+b)%p):(x-b)%p=a:=by
 rw[h,zZ,kE,<-zZ,Int.add_sub_cancel];exact fE h0 h1
theorem b45: Ra sH sI ["f","p","u","s","t","v","w"]:=by
 rintro ds Q ⟨f,p,rfl,pp,mp,yes,no⟩;have p2:=pp.lo;have p3:=pp.hi;have a0:atI ((rwF 5 f).map D.int) 0=some (.int<|f 0):=iD (i:=0) ac
 have a1:atI ((rwF 5 f).map D.int) 1=some (.int<|f 1):=iD (i:=1) ac
 have a2:atI ((rwF 5 f).map D.int) 2=some (.int<|f 2):=iD (i:=2) ac
 have a3:atI ((rwF 5 f).map D.int) 3=some (.int<|f 3):=iD (i:=3) ac
 unfold sI;simp only[aI];show(aT _ _:US) _ [~~~.tup ((rwF 5 f).map .int),!p,none,none,none,none,none];rw[aO];refine bJ p.toNat (λi=> .int (0+i)) [~~~.tup ((rwF 5 f).map .int),!p,none,none,none,none,none] ?_
  (λi ρ=> ∃x y z a b,ρ=[~~~.tup ((rwF 5 f).map .int),!p,x,y,z,a,b]/\ ∀u v:Nat,u<i->v<p.toNat-> ¬cX5 p f (u:Int) (v:Int))
  ⟨none,none,none,none,none,rfl,λu v hu=>ae⟩ ?_ ?_
 .intro Q' q;left;refine⟨⟨ae,ae⟩,?_⟩
  exact q
 .rintro i ρ hi ⟨x,y,z,a,b,rfl,nh⟩;rw[bN];left;rw[a3];right;refine⟨af,ae,?_⟩
  rw[dE _ ae,a2]
  right;have s0:=d5 (f 3-(i:Int)) (show p≠0 by lia)
  have s1:=d4 (f 3-(i:Int)) (show 0<p by lia)
  generalize hS:(f 3-(i:Int))%p=S at *;refine⟨cmL ae ae,?_⟩
  refine bJ p.toNat (λi=> .int (0+i)) [~~~.tup ((rwF 5 f).map .int),!p,!(i:Int),!S,!(f 2-(i:Int)*S),a,b] ?_
   (λj ρ=> ∃a b,ρ=[~~~.tup ((rwF 5 f).map .int),!p,!(i:Int),!S,!(f 2-(i:Int)*S),a,b]/\ ∀v:Nat,v<j-> ¬cX5 p f (i:Int) (v:Int))
   ⟨a,b,rfl,λv hv=>ae⟩ ?_ ?_
  .intro Q' q;left;refine⟨⟨ae,ae⟩,?_⟩
   exact q
  .rintro j ρ hj ⟨a,b,rfl,nj⟩;rw[bN];left;refine⟨af,ae,?_⟩
   rw[dE _ ae]
   have w0:=d5 (f 2-(i:Int)*S-(j:Int)) (show p≠0 by lia)
   have w1:=d4 (f 2-(i:Int)*S-(j:Int)) (show 0<p by lia)
   generalize hW:(f 2-(i:Int)*S-(j:Int))%p=W at *;refine⟨cmL ae ae,ae,?_⟩
   rw[dE _ ae,a0]
   right
   have step: ¬cX5 p f (i:Int) (j:Int)-> ∃a b,[some<|B.pu<|.tup<|(rwF 5 f).map .int,!p,!(i:Int),!S,!(f 2-(i:Int)*S),!(j:Int),!W]=[~~~.tup ((rwF 5 f).map .int),!p,!(i:Int),!S,!(f 2-(i:Int)*S),a,b]/\ ∀v:Nat,v<j+1-> ¬cX5 p f (i:Int) (v:Int):=λnh'=>⟨_,_,rfl,λv hv=>by
    by_cases h1:v<j
    .exact nj v h1
    .rw[show v=j by lia];exact nh'⟩
   by_cases c1:(j:Int)*W%p=f 0
   .rw[a8 c1];refine⟨cmL ae ae,cmL ae ae,ae,?_⟩
    rw[dE _ ae,a1]
    right
    by_cases c2:((i:Int)*W+(j:Int)*S)%p=f 1
    .rw[a8 c2];refine⟨ac,ac,ac,yes (j:Int) (i:Int) W S ae ae ae ae w0 w1 s0 s1<|(dU4 mp (MP.qu p2 ae ae ae ae) (MP.qu p2 w0 w1 s0 s1) p2).mpr ⟨c1.symm,by rw[<-c2,a00],?_,?_⟩⟩
     .rw[<-hW,iC,kE,<-iC];have:(j:Int)+(i:Int)*S+(f 2-(i:Int)*S-(j:Int))=f 2:=ae
      rw[this];exact(fE (mp.rng 2).1 (mp.rng 2).2).symm
     .rw[<-hS,iC,kE,<-iC];have:(i:Int)+(f 3-(i:Int))=f 3:=ae
      rw[this];exact(fE (mp.rng 3).1 (mp.rng 3).2).symm
    .rw[a6 c2];exact step λz=>c2 (by have:=z.2;unfold cX5 at z;rw[hS,hW]at this;exact this)
   .rw[a6 c1];exact step λz=>c1 (by have:=z.1;rw[hS,hW]at this;exact this)
  .rintro ρ ⟨a,b,rfl,nj⟩;refine⟨_,_,_,_,_,rfl,λu v hu hv=> ?_⟩
   by_cases h1:u<i
   .exact nh u v h1 hv
   .rw[show u=i by lia];exact nj v hv
 .rintro ρ ⟨x,y,z,a,b,rfl,nh⟩;right;unfold yH;left;refine⟨ac,no ?_⟩
  intro v u w s v0 v1 u0 u1 w0 w1 s0 s1 e;obtain⟨h0,h1,h2,h3⟩:=(dU4 mp (MP.qu p2 v0 v1 u0 u1) (MP.qu p2 w0 w1 s0 s1) p2).mp e;obtain⟨v',rfl⟩: ∃v':Nat,v=(v':Int):=⟨v.toNat,ae⟩
  obtain⟨u',rfl⟩: ∃u':Nat,u=(u':Int):=⟨u.toNat,ae⟩
  refine nh u' v' ae ae ?_
  have es:(f 3-(u':Int))%p=s:=c74 s0 s1 (by rw[h3,a00])
  have ew:(f 2-(u':Int)*s-(v':Int))%p=w:=by
   have:=c74 (x:=f 2) (b:=(v':Int)+(u':Int)*s) w0 w1 (by rw[h2,a00 w])
   rw[<-this]
   congr 1
   lia
  unfold cX5;rw[es,ew];exact⟨h0.symm,by rw[h1,a00]⟩
theorem at0 {a b:D}:atI [a,b] 0=some a:=bK (j:=0) rfl
theorem at1 {a b:D}:atI [a,b] 1=some b:=bK (j:=1) rfl
def NoR (p:Int)(F:Nat×∅):Prop:= ∀c:Nat,c<p.toNat->va p F (-(c:Int))≠0
def ltP (x y:(Nat×∅)×Nat):Prop:=x.1.1<y.1.1\/(x.1.1=y.1.1/\ltL (rwF (x.1.1+1) x.1.2) (rwF (y.1.1+1) y.1.2)=true)
structure RL (p:Int)(F:Nat×∅)(rs:List ((Nat×∅)×Nat)):Prop where
 prod: ∀a:Nat×∅,MP p a.1 a.2->allT p a rs=tm p a F
 mem: ∀x∈rs,MP p x.1.1 x.1.2/\2<=x.1.1/\x.1.1<=4/\1<=x.2/\x.2<=2/\NoR p x.1/\(x.1.1=4->NoQ p x.1)
 ord:rs.Pairwise ltP
 len:rs.length<=2
theorem dN8 {p:Int}(hp:2<=p){a:Nat×∅}(ha:MP p a.1 a.2):tm p a tI=a:=by
 rw[b73 ha.hi (MP.one hp).hi,dA3 ha]
theorem RL.single {p:Int}{F:Nat×∅}(mp:MP p F.1 F.2)(h2:2<=F.1)(h4:F.1<=4)(nr:NoR p F)(nq:F.1=4->NoQ p F):RL p F [(F,1)]:=
 ⟨λa _=>rfl,λx hx=>by rw[j7.mp hx];exact⟨mp,h2,h4,aF _,show 1<=2 by decide,nr,nq⟩,yZ _ _,show 1<=2 by decide⟩
theorem row_lt {u:Int}(h: ¬(v=w/\u=s)):ltL [w,s,1] [v,u,1]=false->ltL [v,u,1] [w,s,1]=true:=by
 unfold ltL
 by_cases c:v=w
 .rw[a8 c,a8 c.symm];unfold ltL;have:u≠s:=λz=>h ⟨c,z⟩
  rw[a6 this,a6 λz=>this z.symm]
  simp only[aI9,gB]
  lia
 .rw[a6 c,a6 λz=>c z.symm]
  simp only[aI9,gB]
  lia
def mY:Φ:=λds Q=> ∃(n:Nat) (f:∅) (p:Int),ds=[aI<|rwF (n+1) f,.int p]/\n<=4/\Pr p/\MP p n f/\NoR p (n,f)/\ ∀rs,RL p (n,f) rs->Q (.ow<|rs.map a86)
def rR:US:=(cZ<|eJ [] [none,none] 1 (iK<|aR cH7<|a7 (aC 2) aK) (cB 0) (λρ Q=>Q true ρ)<|hJ<|a7 (aC 0)<|a7 @1 aK)
def rS:US:=(aT (iL (fG<|uOp (gEqD false) (uIx (aS 2)<|@0)<|uIx (aS 2)<|@1) (cZ<|eR<|a7 (hJ<|a7 (uIx (aS 2)<|@0)<|a7 @2 aK) aK) fJ) rR)
def iZ:US:=(aT (iL (fG<|uOp (kR false) (jU<|aS 2)<|@0) (cZ<|eR<|a7 (hJ<|a7 (aC 0)<|a7 @1 aK) aK) fJ) rS)
def rT:US:=(aT (bM 2<|uIf (fG<|uOp (kR false) (jU<|aS 0)<|@5) (aR sH<|a7 (aC 0)<|a7 (aC 1) aK)<|eR aK) iZ)
def mZ:US:=(aT (iL (fG<|uOp (kR false) (jU<|aS 0)<|@1) (cZ<|eR aK) fJ) rT)
theorem dA8 {p:Int}(pp:Pr p){F:Nat×∅}(mp:MP p F.1 F.2)(h1:F.1=1)(nr:NoR p F):False:=by
 have p2:=pp.lo;have r:=mp.rng 0;refine nr (F.2 0).toNat ae ?_
 unfold va;rw[h1,show(((F.2 0).toNat:Nat):Int)=F.2 0 by lia]
 have t:F.2 1=1:=by have:=mp.top;rw[h1]at this;exact this
 show(0+F.2 0*(-F.2 0)^0+F.2 1*(-F.2 0)^1)%p=0
 rw[t,dN,fQ,dN];have:0+F.2 0*1+1*(1* -F.2 0)=0:=ae
 rw[this,eC]
theorem aF0: Ra mY mZ ["f","p","a"]:=by
 rintro ds Q ⟨n,f,p,rfl,n4,pp,mp,nr,h⟩;have p2:=pp.lo;unfold mZ;simp only[aI];show(aT _ _:US) _ [~~~.tup ((rwF (n+1) f).map .int),!p,none];rw[aO];left;rw[bZ]
 by_cases n0:n=0
 .rw[a8 ae]
  subst n0;refine⟨ac,h [] ⟨λa ha=> ?_,af,.nil,ac⟩⟩
  have e:((0,f):Nat×∅)=tI:=kJ rfl (funext λj=>by
   show f j=if j=0 then 1 else 0
   by_cases c:j=0
   .rw[a8 c,c];exact mp.top
   .rw[a6 c];exact mp.hi j ae)
  rw[e,dN8 p2 ha];rfl
 rw[a6 ae]
 have n1:n≠1:=λz=>dA8 pp (F:=(n,f)) mp z nr
 have alone:(n=4->NoQ p (n,f))->iZ {Q with} [~~~.tup ((rwF (n+1) f).map .int),!p,↑[]]:=λnq=>by
  unfold iZ;rw[aO];left;rw[a8<|by rfl]
  exact⟨ac,ac,h [((n,f),1)]<|RL.single mp (by show 2<=n;lia) n4 nr nq⟩
 unfold rT;rw[aO];left;simp only[uIf,jU,aS,c39,uC,isB,B.d,pP,kR,tV,bZ]
 by_cases c:n=4
 .subst c;rw[a8<|by rfl]
  refine⟨f,p,rfl,pp,mp,λv u w s v0 v1 u0 u1 w0 w1 s0 s1 e=> ?_,λnq=> ?_⟩
  .have m1:=MP.qu p2 v0 v1 u0 u1;have m2:=MP.qu p2 w0 w1 s0 s1;have k1:NoR p (quF v u):=λc hc=>by have:=nr c hc;rw[e]at this;exact(dA6 m2.hi this).1
   have k2:NoR p (quF w s):=λc hc=>by have:=nr c hc;rw[e]at this;exact(dA6 m2.hi this).2
   right;simp only[aI];unfold iZ;rw[aO];left;rw[a6 ac]
   unfold rS;rw[aO];left;rw[at0,at1];right;refine d95 ?_
   by_cases c:[v,u,(1:Int)]=[w,s,1]
   .have c1:v=w:=by simp at c;exact c.1
    have c2:u=s:=by simp at c;exact c.2
    subst c1 c2;rw[kC rfl];right;rw[a8 ac]
    refine⟨ac,ac,h [(quF v u,2)] ⟨λa ha=> ?_,λx hx=> ?_,yZ _ _,show 1<=2 by decide⟩⟩
    .show tm p (tm p a<|quF v u) (quF v u)=tm p a (4,f)
     rw[e,a85 m1.hi]
    .rw[j7.mp hx];exact⟨m1,aF _,show 2<=4 by decide,show 1<=2 by decide,aF _,k1,λz=>by cases z⟩
   .rw[gC c];right;rw[a6 ac]
    have nc: ¬(v=w/\u=s):=λz=>c (by rw[z.1,z.2])
    unfold rR;rw[iI];have fin2: ∀(v u w s:Int),MP p (quF v u).1 (quF v u).2->MP p (quF w s).1 (quF w s).2->NoR p (quF v u)->NoR p (quF w s)->((4,f):Nat×∅)=tm p (quF v u) (quF w s)->ltL [v,u,1] [w,s,1]=true->Q (.ow [.tup [.tup<|[v,u,1].map D.int,.int 1],.tup [.tup<|[w,s,1].map D.int,.int 1]]):=λv u w s m1 m2 k1 k2 e lt=>by
     refine h [(quF v u,1),(quF w s,1)] ⟨λa ha=> ?_,λx hx=> ?_,?_,aF _⟩
     .show tm p (tm p a<|quF v u) (quF w s)=tm p a (4,f)
      rw[e,a85 m1.hi]
     .rcases aY.mp hx with rfl|hx
      .exact⟨m1,aF _,show 2<=4 by decide,aF _,show 1<=2 by decide,k1,λz=>by cases z⟩
      .rw[j7.mp hx];exact⟨m2,aF _,show 2<=4 by decide,aF _,show 1<=2 by decide,k2,λz=>by cases z⟩
     .refine List.pairwise_cons.mpr ⟨λy hy=> ?_,yZ _ _⟩
      rw[j7.mp hy];exact .inr ⟨rfl,lt⟩
    refine cL (t0:=0) 2 (λk=>(if ltL [w,s,1] [v,u,1]=true then [D.tup<|[w,s,1].map D.int,.tup<|[v,u,1].map D.int]else [.tup<|[v,u,1].map D.int,.tup<|[w,s,1].map D.int]).getD k .non) [~~~.tup ((rwF (4+1) f).map .int),!p,~~~.lst [.tup<|[v,u,1].map D.int,.tup<|[w,s,1].map D.int]] ?_ ac (λx l'=>[x,↑l']) none rfl (λ_ _ _=>rfl) (λ_ _=>bW _) (λ_ _ _ q=>q) (λ_ _ _=>rfl)
     (λk=> .tup [(if ltL [w,s,1] [v,u,1]=true then [D.tup<|[w,s,1].map D.int,.tup<|[v,u,1].map D.int]else [.tup<|[v,u,1].map D.int,.tup<|[w,s,1].map D.int]).getD k .non,.int 1]) ?_ ?_
    .intro Q' q;left;refine⟨v,w,[u,1],[s,1],rfl,?_⟩;cases l:ltL [w,s,1] [v,u,1]
     .rw[l]at q;exact q
     .rw[l]at q;exact q
    .intro k l' Q' hk q;left;exact⟨ac,q⟩
    .cases l:ltL [w,s,1] [v,u,1]
     .exact fin2 v u w s m1 m2 k1 k2 e (row_lt nc l)
     .exact fin2 w s v u m2 m1 k2 k1 (by rw[e,b73 m1.hi m2.hi]) l
  .exact alone λ_=>nq
 .rw[a6 (by simp;lia)]
  refine⟨ac,?_⟩
  exact alone λz=>absurd z c
structure SP (p:Int)(F:Nat×∅)(xs:List ((Nat×∅)×Nat)):Prop where
 prod:allT p tI xs=F
 mem: ∀x∈xs,MP p x.1.1 x.1.2/\1<=x.1.1/\x.1.1<=4/\1<=x.2/\x.2<=4/\(2<=x.1.1->NoR p x.1)/\(x.1.1=4->NoQ p x.1)
 ord:xs.Pairwise ltP
 len:xs.length<=300
theorem SP.of {p:Int}(pp:Pr p){F L:Nat×∅}{cs:List (Int×Nat)}{rs:List ((Nat×∅)×Nat)}(h4:F.1<=4)(lk:LK p F p.toNat cs L)(rl:RL p L rs):SP p F (cs.map lnP++rs):=by
 have p2:=pp.lo;have p3:=pp.hi;have rg: ∀x∈cs,0<=x.1/\x.1<p:=λx hx=>⟨(lk.mem x hx).1,by have:=(lk.mem x hx).2.1;lia⟩
 have mcs:=cQ5 p2 rg;have mA:=MP.allT p2 (cs.map lnP) (MP.one p2) mcs;refine⟨by rw[wG,rl.prod _ mA];exact lk.prod.symm,λx hx=> ?_,?_,?_⟩
 .rcases fF.mp hx with hx|hx
  .obtain⟨y,hy,rfl⟩:=d8.mp hx;have hd:=c73 p (cs.map lnP) tI (lnP y) hx;have e:F.1=(allT p tI<|cs.map lnP).1+L.1:=cR Prod.fst lk.prod;have hd':0+1*y.2<=(allT p tI<|cs.map lnP).1:=hd;refine⟨mcs _ hx,aF _,show 1<=4 by decide,(lk.mem y hy).2.2,show y.2<=4 by lia,λz=> ?_,λz=> ?_⟩
   .have:2<=1:=z
    lia
   .have:1=4:=z
    lia
  .obtain⟨a,b,c,d,e,f,g⟩:=rl.mem x hx;exact⟨a,ae,c,d,ae,λ_=>f,g⟩
 .rw[List.pairwise_append];refine⟨?_,rl.ord,λx hx y hy=> ?_⟩
  .rw[List.pairwise_map];refine lk.asc.imp λ{a b} h=> .inr ⟨rfl,?_⟩
   show ltL [a.1,1] [b.1,1]=true
   unfold ltL;rw[a6 ae,kC h]
  .obtain⟨z,hz,rfl⟩:=d8.mp hx;have:=(rl.mem y hy).2.1;exact .inl (show 1<y.1.1 by lia)
 .have a:=lk.len;have b:=rl.len;rw[cM,aH]
  lia
def wZ:Φ:=λds Q=> ∃(n:Nat) (g:∅) (p:Int),ds=[aI<|rwF (n+1) g,.int p]/\n<=4/\p∈prL/\MP p n (md p g)/\ ∀xs,SP p (n,md p g) xs->Q (.ow<|xs.map a86)
def a87:US:=(cZ<|uOp fN (aC 2)<|aR mY<|a7 (aC 3)<|a7 (aC 1) aK)
def a88:US:=(aT (d41 (aR uZ<|a7 (aR jE<|a7 (aC 0)<|a7 (aC 1) aK)<|a7 (aC 1) aK)<|uP<|fY 2<|fY 3 uO) a87)
def x8:US:=(aT (iL (fG<|uOp (gIn true) (aC 1)<|aR iY aK) (λ_ _=>False) fJ) a88)
theorem bL1: Ra wZ x8 ["f","p","a","l"]:=by
 rintro ds Q ⟨n,g,p,rfl,n4,hp,mp,h⟩;have pp:=wY hp;have p2:=pp.lo;unfold x8;show(aT _ _:US) _ [~~~aI (rwF (n+1) g),!p,none,none];rw[aO];left;refine⟨rfl,p,T_SMALL_PRIMES,rfl,.inr<|.inl rfl,?_⟩;rw[kC (show p∈T_SMALL_PRIMES by rw[<-a18];exact hp)]
 right;rw[a6 ac]
 unfold a88;rw[aO];left;refine⟨n+1,g,p,rfl,ae,ae,?_⟩
 left
 have e:gK (md p g) (n+1)=n+1:=tG (aF _) (λm h1 h2=>ae) (.inr (by rw[qD,mp.top];decide))
 rw[e];refine⟨n,md p g,p,rfl,ae,pp,mp,λcs L lk=> ?_⟩
 left
 refine⟨ac,ac,trivial,?_⟩
 unfold a87;rw[iI,bB8];left;have hL:L.1<=4:=by
  have e:n=(allT p tI<|cs.map lnP).1+L.1:=cR Prod.fst lk.prod
  lia
 refine⟨L.1,L.2,p,rfl,hL,pp,lk.mp,lk.nr,λrs rl=> ?_⟩
 have sp:=SP.of pp (F:=(n,md p g)) n4 lk rl;have e2:(cs.map λx=>a86 (lnP x))++rs.map a86=(cs.map lnP++rs).map a86:=by rw[bX,gD];rfl
 left
 rw[e2];refine⟨?_,h _ sp⟩;rw[<-cM,e2,aH];exact aG sp.len ac
nonrec def stB (xs:List ((Nat×∅)×Nat)):Bool:=match xs with
 | [x]=>decide (x.2=1)
 | _=>false
theorem bR0 {p:Int}(hp:2<=p){g a h:Nat×∅}(ma:MP p a.1 a.2)(mh:MP p h.1 h.2): ∀k,powT p (tm p g a) h k=tm p g (powT p a h k)
 | 0=>rfl
 | k+1=>by
  show tm p (powT p (tm p g a) h k) h=tm p g (tm p (powT p a h k) h)
  rw[bR0 hp ma mh k,a85 (MP.powT hp ma mh k).hi]
theorem bR1 {p:Int}(hp:2<=p){g:Nat×∅}: ∀(l:List ((Nat×∅)×Nat)) {a:Nat×∅},MP p a.1 a.2->(∀x∈l,MP p x.1.1 x.1.2)->allT p (tm p g a) l=tm p g (allT p a l)
 | [],a,_,_=>rfl
 | x::l,a,ma,h=>by
  show allT p (powT p (tm p g a) x.1 x.2) l=tm p g (allT p (powT p a x.1 x.2) l)
  rw[bR0 hp ma<|h x<|.head _,bR1 hp l (MP.powT hp ma (h x<|.head _) x.2) λy hy=>h y (.tail _ hy)]
theorem mp_two {p:Int}{F:Nat×∅}(mp:MP p F.1 F.2)(h2:F.1=2):F=quF (F.2 0) (F.2 1):=by
 refine kJ h2 (funext λj=> ?_)
 show F.2 j=if j=0 then F.2 0 else if j=1 then F.2 1 else if j=2 then 1 else 0
 by_cases c0:j=0
 .rw[a8 c0,c0]
 .by_cases c1:j=1
  .rw[a6 c0,a8 c1,c1]
  .by_cases c2:j=2
   .rw[a6 c0,a6 c1,a8 c2,c2];have:=mp.top;rw[h2]at this;exact this
   .rw[a6 c0,a6 c1,a6 c2];exact mp.hi j ae
theorem c75 {t1:Nat}(n:Nat)(it i1 i2:Nat->D)(hit: ∀i,i<n->it i= .tup [i1 i,i2 i])(ρ1:Ev)(hui: ∀Q:Nat->(Nat->D)->Ev->Prop,Q n it ρ1->ui ρ Q)(hn:n<=1000000)
  (G:Option B->Option B->List D->Ev) (x0 y0:Option B) (h0:pQ (yC ρ1 js) cap last=G x0 y0 []) (h1: ∀x y l b c,((G x y l).set t0<|some b).set t1 (some c)=G (some b) (some c) l) (h1': ∀x y l,t0< (G x y l).length/\t1< (G x y l).length)
  (h2: ∀x y l (Q:List D->Prop),Q l->mU (G x y l) last Q) (h3: ∀x y l l',(G x y l).set last (↑l')=G x y l')
  (f:Nat->D) (hte: ∀i l (Q':B->Ev->Prop),i<n->Q' (.pu<|f i) (G (~~~i1 i) (~~~i2 i) l)->te (G (~~~i1 i) (~~~i2 i) l) Q') (hq:Q (.ow<|(List.range n).map f) (yC ρ1 js)) :
  eJ js cap last ui (uP<|fY t0<|fY t1 uO) (λρ Q=>Q true ρ) te ρ Q:=by
 refine hui _ ⟨λi ρ'=> ∃x y,ρ'=G x y ((List.range i).map f),⟨x0,y0,h0⟩,?_,?_⟩
 .rintro i ρ' hi ⟨x,y,rfl⟩;rw[hit i hi];refine⟨(h1' _ _ _).1,by rw[dM];exact(h1' _ _ _).2,rfl,?_⟩
  rw[h1];right;rw[a8 rfl];refine hte i _ _ hi (h2 _ _ _ _ ⟨?_,~~~i1 i,~~~i2 i,?_⟩)
  .rw[aH,qF];exact aZ hi (aG hn ac)
  .rw[h3,b9,bX];rfl
 .rintro ρ' ⟨x,y,rfl⟩;exact h2 _ _ _ _ hq
theorem c76 {tt:UT}(n:Nat)(it:Nat->D)(ρ1:Ev)(hui: ∀Q:Nat->(Nat->D)->Ev->Prop,Q n it ρ1->ui ρ Q)(hn:n<=1000)
  (G:Option B->List D->Ev) (x0:Option B) (h0:pQ (yC ρ1 js) cap last=G x0 []) (h1: ∀x l b,(G x l).set t0 (some b)=G (some b) l) (h1': ∀x l,t0< (G x l).length) (h2: ∀x l (Q:List D->Prop),Q l->mU (G x l) last Q) (h3: ∀x l l',(G x l).set last (↑l')=G x l')
  (c:Nat->Bool) (P:D->Prop) (htt: ∀i l (Q':Bool->Ev->Prop),i<n->Q' (c i) (G (~~~it i) l)->tt (G (~~~it i) l) Q')
  (hte: ∀i l (Q':B->Ev->Prop),i<n->c i=true->(∀d,P d->Q' (.pu d) (G (~~~it i) l))->te (G (~~~it i) l) Q') (hq: ∀l:List D,l.length<=n->(∀d∈l,P d)->Q (.ow l) (yC ρ1 js)) :
  eJ js cap last ui (cB t0) tt te ρ Q:=by
 refine hui _ ⟨λi ρ'=> ∃x l,l.length<=i/\(∀d∈l,P d)/\ρ'=G x l,⟨x0,[],aF _,af,h0⟩,?_,?_⟩
 .rintro i ρ' hi ⟨x,l,hl,hP,rfl⟩;refine⟨h1' _ _,?_⟩;rw[h1];right;refine htt i _ _ hi ?_
  by_cases hc:c i=true
  .rw[a8 hc];refine hte i _ _ hi hc λd hd=>h2 _ _ _ ⟨?_,~~~it i,l++[d],?_,?_,?_⟩
   .exact nR hl (aZ hi<|aG hn ac)
   .rw[cM];exact aL8 hl
   .intro e he;rcases fF.mp he with he|he
    .exact hP e he
    .have:e=d:=by exists he
     rw[this];exact hd
   .rw[h3];rfl
  .rw[a6 hc];exact⟨~~~it i,l,aL4 hl,hP,rfl⟩
 .rintro ρ' ⟨x,l,hl,hP,rfl⟩;exact h2 _ _ _ (hq l hl hP)
nonrec def bC6 (n:Nat)(f:∅)(g:Nat×∅):List Int:=rwF (gK (divL g.2 g.1 (n+1-g.1) f)<|n+1) (divL g.2 g.1 (n+1-g.1) f)
nonrec def ptD (n:Nat)(f:∅)(x:(Nat×∅)×Nat):D:= .tup [aI<|rwF (x.1.1+1) x.1.2,.int (x.2:Int),aI<|bC6 n f x.1]
def xA:Φ:=λds Q=> ∃(n:Nat) (f:∅) (p:Int),ds=[aI<|rwF (n+1) f,.int p]/\n<=4/\p∈prL/\MP p n (md p f)/\(∀j,(f j).natAbs<=2^9)/\ ∀xs,SP p (n,md p f) xs->Q (.ow<|xs.map<|ptD n f)
def xB:US:=(cZ<|eJ [0] [none,none,some 0,none] 3 (iK<|aR wZ<|a7 (aC 0)<|a7 (aC 1) aK) (uP<|fY 0<|fY 1 uO) (λρ Q=>Q true ρ)<|hJ<|a7 (aC 0)<|a7 (aC 1)<|a7 (uIx (uV<|aR gH<|a7 (aC 2)<|a7 (aC 0) aK)<|@1) aK)
theorem cQ6 {p:Int}(pp:Pr p)(n4:n<=4)(fb: ∀j,(f j).natAbs<=2^9){g:Nat×∅}(mg:MP p g.1 g.2)(g4:g.1<=4):d97 (n+1) g.1 9 8 f g.2:=
 ⟨ae,ae,mg.top,mg.hi,λm _=>fb m,λj=>dA7 pp mg j,ae,ac⟩
theorem bL2: Ra xA xB ["f","p"]:=by
 rintro ds Q ⟨n,f,p,rfl,n4,hp,mp,fb,h⟩;have pp:=wY hp;unfold xB;show(cZ _:US) _ [~~~aI (rwF (n+1) f),!p];rw[iI]
 have key: ∀xs,SP p (n,md p f) xs->eJ [0] [none,none,some 0,none] 3 (λρ Q=>Q (xs.map a86).length (λi=>(xs.map a86).getD i .non) ρ) (uP<|fY 0<|fY 1 uO) (λρ Q=>Q true ρ) (hJ<|a7 (aC 0)<|a7 (aC 1)<|a7 (uIx (uV<|aR gH<|a7 (aC 2)<|a7 (aC 0) aK)<|@1) aK) [~~~aI (rwF (n+1) f),!p] λb _=>Q b:=by
  intro xs sp
  refine c75 (t0:=0) (t1:=1) xs.length (λi=>(xs.map a86).getD i .non) (λi=>aI (rwF ((xs.getD i (tI,0)).1.1+1) (xs.getD i (tI,0)).1.2)) (λi=> .int ((xs.getD i (tI,0)).2:Int)) (λi hi=> ?_) [~~~aI (rwF (n+1) f),!p] (λQ' q=> ?_) (aG sp.len ac) (λx y l=>[x,y,~~~aI (rwF (n+1) f),↑l]) none none rfl (λ_ _ _ _ _=>rfl) (λ_ _ _=>⟨af,af⟩) (λ_ _ _ _ q=>q) (λ_ _ _ _=>rfl) (λi=>ptD n f (xs.getD i (tI,0))) ?_ ?_
  .rw[aJ,bG,aJ,aP hi];rfl
  .rw[aH];exact q
  .intro i l Q' hi q;have hm:xs.getD i (tI,0)∈xs:=by
    rw[aJ,aP hi];exact cV hi
   obtain⟨mx,x1,x4,_⟩:=sp.mem _ hm;generalize xs.getD i (tI,0)=x at *;left;refine⟨n+1,x.1.1,9,8,f,x.1.2,rfl,cQ6 pp n4 fb mx x4,?_⟩;left;rw[at1];exact⟨ac,q⟩
  .have e:(List.range xs.length).map (λi=>ptD n f (xs.getD i (tI,0)))=xs.map (ptD n f):=by
    apply j9
    .simp
    .intro i h1 h2;simp at h1;simp[aJ,h1]
   rw[e];exact h xs sp
 exact⟨n,f,p,rfl,n4,hp,mp,λxs sp=>key xs sp⟩
structure RF (n:Nat)(f:∅):Prop where
 n1:1<=n
 n4:n<=4
 top:f n=1
 hi: ∀j,n<j->f j=0
 fb: ∀j,(f j).natAbs<=2^9
theorem RF.mp (h:RF n f){p:Int}(hp:2<=p):MP p n (md p f):=by
 refine⟨?_,λj hj=> ?_,λj=>⟨d5 _ ae,d4 _ ae⟩⟩
 .show f n%p=1
  rw[h.top];exact fE ac ae
 .show f j%p=0
  rw[h.hi j hj,eC]
def PRow (n:Nat)(f:∅)(size:Int)(d:D):Prop:= ∃(p:Int) (xs:List ((Nat×∅)×Nat)),p∈prL/\size%(p*p)=0/\SP p (n,md p f) xs/\d= .tup [.int p,.lst<|xs.map<|ptD n f]
def v5:Φ:=λds Q=> ∃(n:Nat) (f:∅) (size:Int),ds=[aI<|rwF (n+1) f,.int size]/\RF n f/\ ∀l:List D,l.length<=46->(∀d∈l,PRow n f size d)->Q (.ow l)
def v6:US:=(cZ<|eJ [0,1] [none,some 0,some 1,none] 3 (iK<|aR iY aK) (cB 0) (fG<|uOp (kR false) (uOp oS (aC 2)<|uOp fV (aC 0)<|aC 0)<|@0)<|hJ<|a7 (aC 0)<|a7 (aR xA<|a7 (aC 1)<|a7 (aC 0) aK) aK)
theorem bC7: Ra v5 v6 ["f","s"]:=by
 rintro ds Q ⟨n,f,size,rfl,rf,h⟩;unfold v6;show(cZ _:US) _ [~~~aI (rwF (n+1) f),!size];rw[iI]
 refine c76 (t0:=0) 46 (λi=>(T_SMALL_PRIMES.map D.int).getD i .non) [~~~aI (rwF (n+1) f),!size] (λQ' q=> ?_) ac (λx l=>[x,~~~aI (rwF (n+1) f),!size,↑l]) none rfl (λ_ _ _=>rfl) (λ_ _=>bW _) (λ_ _ _ q=>q) (λ_ _ _=>rfl)
  (λi=>decide (size%(T_SMALL_PRIMES.getD i 0*T_SMALL_PRIMES.getD i 0)=0)) (PRow n f size) ?_ ?_ (λl hl hP=>h l hl hP)
 .exact⟨rfl,q⟩
 .intro i l Q' hi q;have e:(T_SMALL_PRIMES.map D.int).getD i .non= .int (T_SMALL_PRIMES.getD i 0):=by
   have hi':i<T_SMALL_PRIMES.length:=by rw[bX8];exact hi
   rw[aJ,bG,aJ,aP hi'];rfl
  have hm:T_SMALL_PRIMES.getD i 0∈T_SMALL_PRIMES:=by
   have hi':i<T_SMALL_PRIMES.length:=by rw[bX8];exact hi
   rw[aJ,aP hi'];exact cV hi'
  obtain⟨p2,p3⟩:=tp_ok _ hm;rw[e]at q⊢;generalize T_SMALL_PRIMES.getD i 0=p at *;have pq:0<p*p:=Int.mul_pos ae ae
  left
  refine⟨cmL ae ae,ae,?_⟩
  rw[dE _ pq];exact q
 .intro i l Q' hi hc q;have e:(T_SMALL_PRIMES.map D.int).getD i .non= .int (T_SMALL_PRIMES.getD i 0):=by
   have hi':i<T_SMALL_PRIMES.length:=by rw[bX8];exact hi
   rw[aJ,bG,aJ,aP hi'];rfl
  have hm:T_SMALL_PRIMES.getD i 0∈prL:=by
   have hi':i<T_SMALL_PRIMES.length:=by rw[bX8];exact hi
   rw[a18,aJ,aP hi'];exact cV hi'
  have pp:=wY hm;have hc':=zK hc;rw[e]at q⊢;generalize T_SMALL_PRIMES.getD i 0=p at *;left;refine⟨n,f,p,rfl,rf.n4,hm,rf.mp pp.lo,rf.fb,λxs sp=> ?_⟩
  left
  exact⟨ac,q _ ⟨p,xs,hm,hc',sp,rfl⟩⟩
theorem cX6 {p:Int}(hp:2<=p){F:Nat×∅}{xs:List ((Nat×∅)×Nat)}(sp:SP p F xs){x:(Nat×∅)×Nat}(hx:x∈xs)(h2:2<=x.2): ∃R:Nat×∅,MP p R.1 R.2/\F=tm p (tm p x.1 x.1) R:=by
 obtain⟨l,m,rfl⟩:=List.append_of_mem hx;obtain⟨k,hk⟩: ∃k,x.2=k+2:=⟨x.2-2,aa⟩
 have mx:=(sp.mem x hx).1;have ml: ∀y∈l,MP p y.1.1 y.1.2:=λy hy=>(sp.mem y<|aJ7 _ hy).1
 have mm: ∀y∈m,MP p y.1.1 y.1.2:=λy hy=>(sp.mem y<|i8 _<|.tail _ hy).1
 have mA:=MP.allT hp l (MP.one hp) ml;have mP:=MP.powT hp mA mx k;have mxx:=MP.tm hp mx mx;refine⟨allT p (powT p (allT p tI l) x.1 k) m,MP.allT hp m mP mm,?_⟩;rw[<-sp.prod,wG];show allT p (powT p (allT p tI l) x.1 x.2) m=_;rw[hk];show allT p (tm p (tm p (powT p (allT p tI l) x.1 k) x.1) x.1) m=_;rw[<-a85 mx.hi,b73 mP.hi mxx.hi,bR1 hp m mP mm]
structure dN9 (n:Nat)(f:∅)(size p:Int)(g:Nat×∅):Prop where
 pr:p∈prL
 sq:size%(p*p)=0
 mg:MP p g.1 g.2
 g1:1<=g.1
 g4:g.1<=4
 tw: ∃R:Nat×∅,MP p R.1 R.2/\(n,md p f)=tm p (tm p g g) R
 all: ∀c∈bC6 n f g,c%(p*p)=0
nonrec def dO0 (n:Nat)(f:∅)(g:Nat×∅):List Int:=rwF (gK (divQ g.2 g.1 (n+1-g.1) f)<|n+1-g.1) (divQ g.2 g.1 (n+1-g.1) f)
def sJ:Φ:=λds Q=> ∃(n:Nat) (f:∅) (size:Int) (l:List D),ds=[aI<|rwF (n+1) f,.lst l]/\RF n f/\l.length<=46/\(∀d∈l,PRow n f size d)/\Q (.pu .non)/\ ∀p g,dN9 n f size p g->Q (.pu<|.tup [.int p,aI<|dO0 n f g])
def aX4:US:=(cZ<|uC .non)
def sK:US:=(aT (iM (iK<|aC 1) (uP<|fY 2<|fY 3 uO)<|iM (iK<|aC 3) (uP<|fY 4<|fY 5<|fY 6 uO)<|iL (cV3 (fG<|uOp (vW λi j=>decide (j<=i)) (aC 5)<|@2)<|fG<|aR cH0<|a7 (eJ [2] [none,some 2,none] 2 (iK<|aC 6) (cB 0) (λρ Q=>Q true ρ)<|uOp (kR false) (uOp oS (aC 0)<|uOp fV (aC 1)<|aC 1)<|@0) aK) (cZ<|hJ<|a7 (aC 2)<|a7 (uIx (uV<|aR gH<|a7 (aC 0)<|a7 (aC 4) aK)<|@0) aK) fJ) aX4)
theorem b46: Ra sJ sK ["f","r","p","a","g","o","c"]:=by
 rintro ds Q ⟨n,f,size,l,rfl,rf,l46,hP,h0,h1⟩;unfold sK;show(aT _ _:US) _ [~~~aI (rwF (n+1) f),~~~.lst l,none,none,none,none,none];rw[aO];refine bJ l.length (λi=>l.getD i .non) [~~~aI (rwF (n+1) f),~~~.lst l,none,none,none,none,none] (λQ' q=>q)
  (λi ρ=> ∃a b c d e,ρ=[~~~aI (rwF (n+1) f),~~~.lst l,a,b,c,d,e]) ⟨none,none,none,none,none,rfl⟩ ?_ ?_
 .rintro i ρ hi ⟨a,b,c,d,e,rfl⟩;have hm:l.getD i .non∈l:=by
   rw[aJ,aP hi];exact cV hi
  obtain⟨p,xs,hp,hs,sp,e1⟩:=hP _ hm;have pp:=wY hp;rw[e1];refine⟨af,af,rfl,?_⟩
  show(iM _ _ _:US) _ [~~~aI (rwF (n+1) f),~~~.lst l,!p,~~~.lst (xs.map (ptD n f)),c,d,e]
  refine bJ xs.length (λi=>(xs.map<|ptD n f).getD i .non) [~~~aI (rwF (n+1) f),~~~.lst l,!p,~~~.lst (xs.map (ptD n f)),c,d,e] (λQ' q=> ?_)
   (λj ρ=> ∃c d e,ρ=[~~~aI (rwF (n+1) f),~~~.lst l,!p,~~~.lst (xs.map (ptD n f)),c,d,e]) ⟨c,d,e,rfl⟩ ?_ ?_
  .left
   rw[aH];exact q
  .rintro j ρ hj ⟨c,d,e,rfl⟩;have hx:xs[j]∈xs:=cV hj;have e2:(xs.map<|ptD n f).getD j .non=ptD n f xs[j]:=by
    rw[aJ,bG,aP hj];rfl
   rw[e2];obtain⟨mx,x1,x4,_⟩:=sp.mem _ hx;have tw:2<=xs[j].2->_:=λh2=>cX6 pp.lo sp hx h2
   generalize xs[j]=x at *;refine⟨af,af,af,rfl,?_⟩
   show(iL _ _ _:US) _ [~~~aI (rwF (n+1) f),~~~.lst l,!p,~~~.lst (xs.map (ptD n f)),~~~aI (rwF (x.1.1+1) x.1.2),!(x.2:Int),~~~aI (bC6 n f x.1)]
   simp only[aI];left
   by_cases c2:(2:Int)<=(x.2:Int)
   .rw[a8 c2];have p2:=pp.lo;have p3:=pp.hi;have pq:0<p*p:=Int.mul_pos ae ae
    generalize hr:bC6 n f x.1=r at *;have rl:r.length<=1000:=by
     rw[<-hr];unfold bC6;rw[nM];have:=a17 (divL x.1.2 x.1.1 (n+1-x.1.1) f) (n+1);have:=rf.n4
     lia
    refine cL (t0:=0) r.length (λk=>(r.map D.int).getD k .non) [~~~.tup ((rwF (n+1) f).map .int),~~~.lst l,!p,~~~.lst (xs.map (ptD n f)),~~~.tup ((rwF (x.1.1+1) x.1.2).map .int),!(x.2:Int),~~~.tup (r.map .int)] (λQ' q=> ?_) ae (λx l'=>[x,!p,↑l']) none rfl (λ_ _ _=>rfl) (λ_ _=>bW _) (λ_ _ _ q=>q) (λ_ _ _=>rfl) (λk=> .bl (decide (r.getD k 0%(p*p)=0))) ?_ ?_
    .left
     rw[aH];exact q
    .intro k l' Q' hk q;have e3:(r.map D.int).getD k .non= .int (r.getD k 0):=by
      rw[aJ,bG,aJ,aP hk];rfl
     rw[e3]at q⊢;left;refine⟨cmL ae ae,ae,?_⟩
     rw[dE _ pq];exact q
    .have e4:(List.range r.length).map (λk=>D.bl (decide (r.getD k 0%(p*p)=0)))=((List.range r.length).map λk=>decide (r.getD k 0%(p*p)=0)).map D.bl:=by rw[gD];rfl
     rw[e4];right;rw[qQ];right
     by_cases c3:(((List.range r.length).map λk=>decide (r.getD k 0%(p*p)=0)).all id)=true
     .rw[a8 c3];left;refine⟨n+1,x.1.1,9,8,f,x.1.2,rfl,cQ6 pp rf.n4 rf.fb mx x4,?_⟩;left;rw[at0];refine⟨ac,h1 p x.1 ⟨hp,hs,mx,x1,x4,tw ae,λc hc=> ?_⟩⟩
      rw[hr]at hc;obtain⟨k,hk,rfl⟩:=List.mem_iff_getElem.mp hc;rw[dJ]at c3;have:=c3 (decide (r.getD k 0%(p*p)=0)) (d8.mpr ⟨k,d6.mpr hk,rfl⟩);have:=zK (show decide (r.getD k 0%(p*p)=0)=true from this)
      rw[aJ,aP hk]at this;exact this
     .rw[a6 c3];exact⟨_,_,_,rfl⟩
   .rw[a6 c2];exact⟨_,_,_,rfl⟩
  .rintro ρ ⟨c,d,e,rfl⟩;exact⟨_,_,_,_,_,rfl⟩
 .rintro ρ ⟨a,b,c,d,e,rfl⟩;exact h0
theorem dA9 (t:UE)(D:UD)(ρ:Ev):aQ6 t D ρ=t ρ (λ_ ρ1=>D.nx ρ1):=rfl
structure dG (p:List Int):Prop where
 ok:b70 p
 one: ∃q,p=q++[1]
nonrec def c77 (c:Int):Bool:=decide ((if c<0 then -c else c)<=499)
nonrec def dB0 (p:List Int):Bool:=decide (3<=p.length)&&(decide (p.length<=5)&&(decide (p.getD (p.length-1) 0=1)&&p.all c77))
theorem aX5: ∀(q:List Int) (x:Int),(q++[x]).getD ((q++[x]).length-1) 0=x:=λq x=>by
 rw[cM,aJ,tT af]
 simp
theorem bC8 (p:List Int):dB0 p=true↔dG p:=by
 unfold dB0;simp only[dZ,gB,dJ];constructor
 .rintro⟨h1,h2,h3,h4⟩;refine⟨⟨h1,h2,λx hx=> ?_⟩,?_⟩
  .have:=zK (h4 x hx);split at this<;>lia
  .rcases List.eq_nil_or_concat p with rfl| ⟨q,x,rfl⟩
   .simp at h1
   .rw[List.concat_eq_append]at h3⊢;rw[aX5]at h3;exact⟨q,by rw[h3]⟩
 .intro h;refine⟨h.ok.lo,h.ok.hi,?_,λx hx=>kC ?_⟩
  .obtain⟨q,rfl⟩:=h.one;exact aX5 q 1
  .have:=h.ok.small x hx;split<;>lia
theorem dO1 (h: ¬dG p):dB0 p=false:=u4.mpr λz=>h ((bC8 p).mp z)
theorem cX7 (h:0<p.length):atI (p.map D.int) (-1)=some (.int<|p.getD (p.length-1) 0):=by
 rcases List.eq_nil_or_concat p with rfl| ⟨q,x,rfl⟩
 .simp at h
 .rw[List.concat_eq_append,aX5,bX];exact d30 _ _
def kX:Φ:=λds Q=> ∃p:List Int,ds=[aI p]/\p.length<=1000/\Q (.pu<|.bl<|dB0 p)
def v7:US:=(cZ<|aR cH0<|a7 (eJ [] [none,none] 1 (iK<|aC 0) (cB 0) (λρ Q=>Q true ρ)<|uOp (vW λi j=>decide (i<=j)) (aR cV4<|a7 (aC 0) aK)<|@499) aK)
def pB:US:=(aT (iL (uOr (fG<|uOp (vW λi j=>decide (i<j)) (jU<|aS 0)<|@3)<|uOr (fG<|uOp (vW λi j=>decide (j<i)) (jU<|aS 0)<|@5)<|fG<|uOp (kR true) (uIx (aS 0)<|nZ<|@1)<|@1) (cZ<|uC<|.bl false) fJ) v7)
theorem aS1: Ra kX pB ["r"]:=by
 rintro ds Q ⟨p,rfl,hn,h⟩;have lp:(p.map D.int).length=p.length:=aH _;unfold pB;simp only[aI];show(aT _ _:US) _ [~~~.tup (p.map .int)];rw[aO];left;rw[lp];unfold dB0 at h
 by_cases h3:(p.length:Int)<3
 .rw[a8 h3];rw[gC ae]at h
  exact h
 rw[a6 h3];rw[kC<|show 3<=p.length by lia,Bool.true_and]at h
 by_cases h5:(5:Int)< (p.length:Int)
 .rw[a8 h5];rw[gC<|show ¬p.length<=5 by lia]at h
  exact h
 rw[a6 h5];rw[kC<|show p.length<=5 by lia,Bool.true_and]at h
 rw[cX7 ae]
 right
 by_cases h1:p.getD (p.length-1) 0=1
 .rw[kC h1,Bool.true_and]at h;rw[a6 λz=>z h1]
  unfold v7;rw[iI,d3,cQ];refine cL (t0:=0) p.length (λk=>(p.map D.int).getD k .non) [~~~.tup (p.map .int)] ?_ ae (λx l=>[x,↑l]) none rfl (λ_ _ _=>rfl) (λ_ _=>bW _) (λ_ _ _ q=>q) (λ_ _ _=>rfl) (λk=> .bl (c77<|p.getD k 0)) ?_ ?_
  .intro Q' q;simp only[iK];left;rw[lp];exact q
  .intro k l Q' hk q;have ek:(p.map D.int).getD k .non= .int (p.getD k 0):=by
    rw[aJ,bG,aJ,aP hk];rfl
   rw[ek]at q⊢;left;exact q
  .have e:((List.range p.length).map λk=>D.bl (c77<|p.getD k 0))=(p.map c77).map D.bl:=by
    rw[gD];refine j9 af λi h1 h2=> ?_
    simp at h1
    simp[h1]
   rw[e];left;rw[qQ];show Q (.pu<|.bl<|(p.map c77).all id);rw[all_map];exact h
 .rw[gC h1]at h;rw[a8 h1];exact h
def gW:Φ:=λds Q=> ∃p:List Int,ds=[aI p]/\dG p/\Q (.pu .non)
def n6:US:=(iL (d35<|fG<|aR kX<|a7 (aC 0) aK) (λ_ _=>False) fJ)
theorem aF1: Ra gW n6 ["r"]:=by
 rintro ds Q ⟨p,rfl,hp,h⟩;have hi:=hp.ok.hi;unfold n6;show(iL _ _ _:US) _ [~~~aI p];left;refine⟨p,rfl,ae,?_⟩
 rw[(bC8 p).mpr hp]
 exists h
nonrec def iP (p:List Int):List (List Int):=(List.range<|p.length-1).map λi=>((eU p<|2*(p.length-1)-2).drop i).take (p.length-1)
def a20:Φ:=λds Q=> ∃p:List Int,ds=[aI p]/\dG p/\Q (.pu<|.int<|jG 4<|iP p)
def a21:US:=(aT (aQ6<|aR gW<|a7 (aC 0) aK)<|aT (bM 1<|uOp M.gSub (jU<|aS 0)<|@1)<|aT (bM 2<|aR uW<|a7 (aC 0)<|a7 (uOp M.gSub (uOp fV @2<|aC 1)<|@1) aK)<|cZ<|aR (gM 4)<|a7 (aR cJ<|a7 (eJ [1] [none,some 2,some 1,none] 3 (eZ<|a7 (aC 1) aK) (cB 0) (λρ Q=>Q true ρ)<|aR cJ<|a7 (uSl (aS 1) (nF<|aC 0)<|nF<|uOp fN (aC 0)<|aC 2) aK) aK) aK)
theorem cX8 (hp:b70 p):Sq 4 (iP p):=by
 have hlo:=hp.lo;have hhi:=hp.hi;have bn:=a16 hp (2*(p.length-1)-2) aa
 have nl:=uU p (2*(p.length-1)-2);have hl:(iP p).length=p.length-1:=by unfold iP;simp
 refine⟨aa,aa,λr hr=> ?_,λr hr x hx=> ?_⟩
 .unfold iP at hr;obtain⟨i,hi,rfl⟩:=d8.mp hr;have:=d6.mp hi;rw[hl,lJ,qH,nl];omega
 .unfold iP at hr;obtain⟨i,hi,rfl⟩:=d8.mp hr;refine nR (bn x<|aK3<|List.mem_of_mem_take hx) ?_;exact aK2 ac aa
theorem dO2 (l:List D)(i n:Nat)(h:i+n<=l.length):cutD l (some (i:Int)) (some ((i+n:Nat):Int))=(l.drop i).take n:=by
 unfold cutD;rw[HT.sIx_nat,HT.sIx_nat,u7<|show i<=l.length by lia,u7 h]
 congr 1
 lia
theorem bY1: Ra a20 a21 ["p","n","s"]:=by
 rintro ds Q ⟨p,rfl,hp,h⟩;have hlo:=hp.ok.lo;have hhi:=hp.ok.hi;have lp:(p.map D.int).length=p.length:=aH _;have en:(p.length:Int)-1=((p.length-1:Nat):Int):=ae
 have nl:=uU p (2*(p.length-1)-2);have fin:(cZ (aR (gM 4)<|a7 (aR cJ<|a7 (eJ [1] [none,some 2,some 1,none] 3 (eZ<|a7 (aC 1) aK) (cB 0) (λρ Q=>Q true ρ)<|aR cJ<|a7 (uSl (aS 1) (nF<|aC 0)<|nF<|uOp fN (aC 0)<|aC 2) aK) aK) aK):US) {Q with}
   [~~~.tup (p.map .int),!((p.length-1:Nat):Int),↑((eU p<|2*(p.length-1)-2).map .int)]:=by
  rw[iI,d3,cQ,d3,cQ];refine cL (t0:=0) (p.length-1) (λi=> .int (0+i)) [~~~.tup (p.map .int),!((p.length-1:Nat):Int),↑((eU p<|2*(p.length-1)-2).map .int)] ?_ ae
   (λx l=>[x,some<|.bo<|(eU p<|2*(p.length-1)-2).map .int,!((p.length-1:Nat):Int),↑l]) none rfl (λ_ _ _=>rfl) (λ_ _=>bW _) (λ_ _ _ q=>q) (λ_ _ _=>rfl)
   (λi=>aI (((eU p<|2*(p.length-1)-2).drop i).take<|p.length-1)) ?_ ?_
  .intro Q' q;simp only[eZ];left;refine⟨ae,?_⟩
   rw[bV];exact q
  .intro i l Q' hi q;left;have e:cutD ((eU p<|2*(p.length-1)-2).map D.int) (some<|0+(i:Int)) (some<|0+(i:Int)+((p.length-1:Nat):Int))=(((eU p<|2*(p.length-1)-2).drop i).take<|p.length-1).map D.int:=by
    rw[bN,show(i:Int)+((p.length-1:Nat):Int)=((i+(p.length-1):Nat):Int)by lia,dO2 _ _ _ (by rw[aH,nl];lia),lN,uB]
   rw[e];exact q
  .simp only[cJ,g1,B.d,aK,pP];refine⟨iP p,?_,cX8 hp.ok,h⟩;unfold cX4 iP;rw[gD];rfl
 unfold a21;show(aT _ _:US) _ [~~~.tup (p.map .int),none,none];rw[aO,dA9,d3,cQ];simp only[aC,b10,aK,B.d,tV];refine⟨p,rfl,hp,?_⟩;rw[aO,nK];simp only[uOp,jU,aS,c39,uC,pP,M.gSub,gI2,B.d,tV,lp,b82,b81,en];rw[aO,nK,d3];simp only[a7,aK,uOp,aC,b10,uC,M.gSub,fV,gI2,B.d,tV,List.getElem?_cons_succ];refine⟨cmL ac ac,?_⟩
 refine⟨p,2*(p.length-1)-1,?_,hp.ok,ae,ae,?_⟩
 .rw[show(2:Int)*((p.length-1:Nat):Int)-1=((2*(p.length-1)-1:Nat):Int)by lia];rfl
 .rw[show 2*(p.length-1)-1-1=2*(p.length-1)-2 by lia]
  exact fin
nonrec def one4 (e d c b:Int):Int:=12*e-3*b*d+c*c
nonrec def two4 (e d c b:Int):Int:=72*c*e+9*b*c*d-27*d*d-27*b*b*e-2*c*c*c
nonrec def dO3:List Int->Int
 | [c0,c1,_]=>c1*c1-4*c0
 | [d,c,b,_]=>b*b*c*c-4*c*c*c-4*b*b*b*d-27*d*d+18*b*c*d
 | [e,d,c,b,_]=>(4*one4 e d c b*one4 e d c b*one4 e d c b-two4 e d c b*two4 e d c b).fdiv 27
 | _=>0
nonrec def hkD2 (a b c:Int):Int:=1*a*c+(-1*b*b+0)
nonrec def hkD3 (s t u v w:Int):Int:=1*s*hkD2 u v w+(-1*t*(1*t*w+(-1*v*u+0))+(1*u*(1*t*v+(-1*u*u+0))+0))
theorem hk2 (c b:Int):jG 4 (iP [c,b,1])=hkD2 2 (-(0+1*b)) (-((b* -(0+1*b)+0)+2*c)):=by kernel_rfl
nonrec def dO4 (b:Int):Int:= -(0+1*b)
nonrec def hkNb (c b:Int):Int:= -((b*dO4 b+0)+2*c)
nonrec def hkNc (d c b:Int):Int:= -((b*hkNb c b+(c*dO4 b+0))+3*d)
nonrec def hkNd (d c b:Int):Int:= -((b*hkNc d c b+(c*hkNb c b+(d*dO4 b+0)))+0)
theorem hk3 (d c b:Int):jG 4 (iP [d,c,b,1])=hkD3 3 (dO4 b) (hkNb c b) (hkNc d c b) (hkNd d c b):=by kernel_rfl
nonrec def rts3 (a b c:Int):List Int:=[-(a*b*c),a*b+a*c+b*c,-a-b-c]
nonrec def sqIn (rs:List Int)(i:Nat)(t:Int):∅
 | 0=>t
 | j+1=>sqIn rs i t j*(rs.getD i 0-rs.getD j 0)*(rs.getD i 0-rs.getD j 0)
nonrec def sqK (rs:List Int):∅
 | 0=>1
 | i+1=>sqIn rs i (sqK rs i) i
nonrec def okR (q rs:List Int):Bool:=(q.all λx=>decide (x.natAbs<=499))&&decide (dO3 (q++[1])=sqK rs rs.length)
nonrec def sh3 (a b c s:Int):List Int:=[a+s*b+s*s*c+s*s*s,b+2*s*c+3*s*s,c+3*s]
nonrec def sh4 (a b c d s:Int):List Int:=[a+s*b+s*s*c+s*s*s*d+s*s*s*s,b+2*s*c+3*s*s*d+4*s*s*s,c+3*s*d+6*s*s,d+4*s]
nonrec def dO5 (row:List Int)(r:Int):Nat->List Int
 | 0=>0::row
 | k+1=>(dO5 row r k).set k ((dO5 row r k).getD k 0-r*row.getD k 0)
nonrec def dU5 (rs:List Int):List Int:=rs.foldl (λrow r=>dO5 row r row.length) [1]
theorem fr3 (a b c:Int):dU5 [a,b,c]=rts3 a b c++[1]:=by
 simp[dU5,dO5,rts3]
 grind
nonrec def aX6 (row:List Int)(s:Int):Nat->List Int
 | 0=>row
 | k+1=>(aX6 row s k).set (row.length-2-k) ((aX6 row s k).getD (row.length-2-k) 0+s*(aX6 row s k).getD (row.length-1-k) 0)
nonrec def shK (p:List Int)(s:Int):Nat->List Int
 | 0=>p
 | low+1=>aX6 (shK p s low) s (p.length-1-low)
theorem she3 (a b c s:Int):shK [a,b,c,1] s 3=sh3 a b c s++[1]:=by
 simp[shK,aX6,sh3]
 grind
theorem she4 (a b c d s:Int):shK [a,b,c,d,1] s 4=sh4 a b c d s++[1]:=by
 simp[shK,aX6,sh4]
 grind
theorem amgm (h1:g+(q+1)<=2*(b+1))(hg:0<=g)(hq:0<=q)(h2:m<g*(q+1)):m< (b+1)*(b+1):=by
 have a1:0<=(g-(q+1))*(g-(q+1)):=by
  rcases le_total 0 (g-(q+1))with h|h
  .exact mul_nonneg h h
  .exact Int.mul_nonneg_of_nonpos_of_nonpos h h
 have a2:(g+(q+1))*(g+(q+1))<=(2*(b+1))*(2*(b+1)):=zS h1 h1 ae ae
 grind
theorem cJ5 (hg:1<=g)(h:g<=(g+m/g)/2):g*g<=m:=by
 have h1:g<=m/g:=ae
 have h2:g*(m/g)<=m:=by
  have:=zC m g;have:=d5 m (show g≠0 by lia)
  lia
 exact Int.le_trans (Int.mul_le_mul_of_nonneg_left h1 ae) h2
theorem c78 (hg:1<=g)(hm:0<=m):m< ((g+m/g)/2+1)*((g+m/g)/2+1):=by
 have e:=zC m g;have l:=d4 m (show 0<g by lia)
 have q0:0<=m/g:=Int.ediv_nonneg hm ae
 refine amgm (g:=g) (q:=m/g) ae ae q0 ?_
 rw[qM,kG]
 lia
def aX7:Φ:=λds Q=> ∃m:Int,ds=[.int m]/\0<=m/\Sm m/\ ∀r:Int,0<=r->r*r<=m->m< (r+1)*(r+1)->Q (.pu<|.int r)
def aX8:US:=(aT (bM 1<|aC 0)<|aT (bM 2<|uOp b39 (uOp fN (aC 0)<|@1)<|@2)<|aT (bV0 (fG<|uOp (vW λi j=>decide (i<j)) (aC 2)<|aC 1)<|aT (bM 1<|aC 2)<|bM 2<|uOp b39 (uOp fN (aC 1)<|uOp b39 (aC 0)<|aC 1)<|@2)<|rP 1)
theorem Sm.le {i:Int}(h:Sm m)(h0:0<=i)(h1:i<=m):Sm i:=by
 unfold Sm at h⊢;exact nR ae h
theorem cX9: Ra aX7 aX8 ["m","g","b"]:=by
 rintro ds Q ⟨m,rfl,m0,ms,h⟩;unfold aX8;show(aT _ _:US) _ [!m,none,none];left;rw[rQ _ ac]
 refine⟨⟨ac,bK7 ac ac⟩,?_⟩
 refine⟨λn ρ=> ∃g b:Int,ρ=[!m,!g,!b]/\n=g.toNat/\0<=g/\g<=m/\m< (g+1)*(g+1)/\((m=0/\b=0)\/(1<=g/\b=(g+m/g)/2)),⟨_,m,(m+1)/2,rfl,rfl,m0,Int.le_refl _,?_,?_⟩,?_⟩
 .have:m*1<=m*m+m:=by
   rcases le_total m 0 with z|z
   .have:m=0:=ae
    subst this;decide
   .have:=mul_nonneg z z
    lia
  grind
 .by_cases z:m=0
  .subst z;exact .inl ⟨rfl,rfl⟩
  .right
   rw[Int.ediv_self z];exact⟨ae,rfl⟩
 .rintro n ρ ⟨g,b,rfl,rfl,g0,gm,hg,hb⟩;left;split
  .rename_i hlt
   rcases hb with⟨rfl,rfl⟩| ⟨g1,rfl⟩
   .lia
   .have b1:1<=(g+m/g)/2:=by
     have:1<=m/g:=Int.le_ediv_of_mul_le ae ae
     lia
    rw[rQ _<|show 0< (g+m/g)/2 by lia,rQ _ ac]
    refine⟨⟨ae,ms.le ae ae⟩,⟨ac,bK7 ac ac⟩,_,?_,_,_,rfl,rfl,ae,ae,c78 g1 m0,.inr ⟨b1,rfl⟩⟩
    lia
  .rename_i hge
   refine h g g0 ?_ hg
   rcases hb with⟨rfl,rfl⟩| ⟨g1,rfl⟩
   .have:g=0:=ae
    subst this;decide
   .exact cJ5 g1 ae
nonrec def ev (p:List Int)(z:Int):Int:=ps (λj=>p.getD j 0) z p.length
theorem ev2 (a b z:Int):ev [a,b,1] z=a+b*z+z*z:=by simp[ev,ps];grind
theorem ev3 (a b c z:Int):ev [a,b,c,1] z=a+b*z+c*(z*z)+z*z*z:=by simp[ev,ps];grind
theorem ev4 (a b c d z:Int):ev [a,b,c,d,1] z=a+b*z+c*(z*z)+d*(z*z*z)+z*z*z*z:=by simp[ev,ps];grind
nonrec def qq (v u w s:Int):List Int:=[v*w,u*w+v*s,v+w+u*s,u+s,1]
def Red (p:List Int):Prop:=(∃z,ev p z=0)\/ ∃v u w s,p=qq v u w s
structure Fac (p l r:List Int):Prop where
 l2:2<=l.length
 r2:2<=r.length
 l4:l.length<=4
 r4:r.length<=4
 l1:l.getD (l.length-1) 0=1
 r1:r.getD (r.length-1) 0=1
 pr:rwF (l.length+r.length-1) (conv (λj=>l.getD j 0) (λj=>r.getD j 0) l.length)=p
 bl: ∀x∈l,x.natAbs<=2^40
 br: ∀x∈r,x.natAbs<=2^40
theorem dG.cs (h:dG p):(∃a b,p=[a,b,1])\/(∃a b c,p=[a,b,c,1])\/ ∃a b c d,p=[a,b,c,d,1]:=by
 obtain⟨q,rfl⟩:=h.one;have lo:=h.ok.lo;have hi:=h.ok.hi;rw[cM,aJ5]at lo hi
 match q,lo,hi with
 | [a,b],_,_=>exact .inl ⟨a,b,rfl⟩
 | [a,b,c],_,_=>exact .inr (.inl ⟨a,b,c,rfl⟩)
 | [a,b,c,d],_,_=>exact .inr (.inr ⟨a,b,c,d,rfl⟩)
 | [],h,_=>simp at h
 | [_],h,_=>simp at h
 | _::_::_::_::_::_,_,h=>simp at h
theorem dB1 (h:dG p)(hz:ev p z=0):z∣p.getD 0 0:=by
 rcases h.cs with⟨a,b,rfl⟩| ⟨a,b,c,rfl⟩| ⟨a,b,c,d,rfl⟩
 .rw[ev2]at hz;exact⟨-(b+z),by show a=_;grind⟩
 .rw[ev3]at hz;exact⟨-(b+c*z+z*z),by show a=_;grind⟩
 .rw[ev4]at hz;exact⟨-(b+c*z+d*(z*z)+z*z*z),by show a=_;grind⟩
theorem cQ7 (h:dG p):ev p 0=p.getD 0 0:=by
 rcases h.cs with⟨a,b,rfl⟩| ⟨a,b,c,rfl⟩| ⟨a,b,c,d,rfl⟩
 .rw[ev2];simp
 .rw[ev3];simp
 .rw[ev4];simp
nonrec def vZ (z:Int):∅:=λj=>[-z,1].getD j 0
theorem jF {m:Nat}(h1:a.natAbs<=m)(h2:b.natAbs<=n):(a*b).natAbs<=m*n:=by rw[cH];exact eB h1 h2
set_option maxHeartbeats 2000000 in
theorem l3 (h:a=a')(h2:b=b')(h3:c=c'):[a,b,c]=[a',b',c']:=by rw[h,h2,h3]
theorem l4 {d d':Int}(h:a=a')(h2:b=b')(h3:c=c')(h4:d=d'):[a,b,c,d]=[a',b',c',d']:=by rw[h,h2,h3,h4]
theorem l5 {d e d' e':Int}(h:a=a')(h2:b=b')(h3:c=c')(h4:d=d')(h5:e=e'):[a,b,c,d,e]=[a',b',c',d',e']:=by rw[h,h2,h3,h4,h5]
theorem cvA2 (s z:Int):rwF 3 (λm=>conv (λj=>([s,1]:List Int).getD j 0) (vZ z) 2 m+0)=[0+s*(-z)+1*0+0,0+s*1+1*(-z)+0,0+s*0+1*1+0]:=by kernel_rfl
theorem cvB2 (s z:Int):rwF 3 (conv (λj=>([-z,1]:List Int).getD j 0) (λj=>([s,1]:List Int).getD j 0) 2)=[0+(-z)*s+1*0,0+(-z)*1+1*s,0+(-z)*0+1*1]:=by kernel_rfl
theorem cvA3 (s t z:Int):rwF 4 (λm=>conv (λj=>([s,t,1]:List Int).getD j 0) (vZ z) 3 m+0)=[0+s*(-z)+t*0+1*0+0,0+s*1+t*(-z)+1*0+0,0+s*0+t*1+1*(-z)+0,0+s*0+t*0+1*1+0]:=by kernel_rfl
theorem cvB3 (s t z:Int):rwF 4 (conv (λj=>([-z,1]:List Int).getD j 0) (λj=>([s,t,1]:List Int).getD j 0) 2)=[0+(-z)*s+1*0,0+(-z)*t+1*s,0+(-z)*1+1*t,0+(-z)*0+1*1]:=by kernel_rfl
theorem cvA4 (s t u z:Int):rwF 5 (λm=>conv (λj=>([s,t,u,1]:List Int).getD j 0) (vZ z) 4 m+0)=[0+s*(-z)+t*0+u*0+1*0+0,0+s*1+t*(-z)+u*0+1*0+0,0+s*0+t*1+u*(-z)+1*0+0,0+s*0+t*0+u*1+1*(-z)+0,0+s*0+t*0+u*0+1*1+0]:=by kernel_rfl
theorem cvB4 (s t u z:Int):rwF 5 (conv (λj=>([-z,1]:List Int).getD j 0) (λj=>([s,t,u,1]:List Int).getD j 0) 2)=[0+(-z)*s+1*0,0+(-z)*t+1*s,0+(-z)*u+1*t,0+(-z)*1+1*u,0+(-z)*0+1*1]:=by kernel_rfl
theorem m2 {P:Int->Prop}(h:P a)(h2:P b): ∀x∈[a,b],P x:=λx hx=>by
 rcases aY.mp hx with rfl|hx
 .exact h
 .rw[j7.mp hx];exact h2
theorem m3 {P:Int->Prop}(h:P a)(h2: ∀x∈l,P x): ∀x∈a::l,P x:=λx hx=>by
 rcases aY.mp hx with rfl|hx
 .exact h
 .exact h2 x hx
theorem na2 {A B:Nat}(h:a.natAbs<=A)(h2:b.natAbs<=B):(a+b).natAbs<=A+B:=aG (lH a b) (Nat.add_le_add h h2)
theorem quo (h:dG p)(hz:ev p z=0)(z9:z.natAbs<=499): ∃r:List Int,r.length+1=p.length/\2<=r.length/\r.getD (r.length-1) 0=1/\p=rwF p.length (λm=>conv (λj=>r.getD j 0) (vZ z) r.length m+0)/\(∀x∈r,x.natAbs<=2^40)/\Fac p [-z,1] r:=by
 have sm:=h.ok.small;have le: ∀{a b:Nat},Nat.ble a b=true->a<=b:=Nat.le_of_ble_eq_true;have k1:(1:Int).natAbs<=2^40:=ac
 have bl: ∀x∈[-z,1],x.natAbs<=2^40:=m2 (by rw[lM];exact aG z9 ac) k1
 have m1:(z*z).natAbs<=499*499:=jF z9 z9;rcases h.cs with⟨a,b,rfl⟩| ⟨a,b,c,rfl⟩| ⟨a,b,c,d,rfl⟩
 .rw[ev2]at hz;have s1:=sm b af
  have bd: ∀x∈[b+z,1],x.natAbs<=2^40:=m2 (aG (na2 s1 z9) ac) k1
  exact⟨[b+z,1],rfl,le rfl,rfl,(cvA2 (b+z) z).trans (l3 (by grind) (by grind)<|by grind) |>.symm,bd,⟨le rfl,le rfl,le rfl,le rfl,rfl,rfl,(cvB2 (b+z) z).trans<|l3 (by grind) (by grind)<|by grind,bl,bd⟩⟩
 .rw[ev3]at hz;have s1:=sm b af
  have s2:=sm c af
  have m2':(c*z).natAbs<=499*499:=jF s2 z9;have bd: ∀x∈[b+c*z+z*z,c+z,1],x.natAbs<=2^40:=m3 (aG (na2 (na2 s1 m2') m1) ac) (m2 (aG (na2 s2 z9) ac) k1)
  exact⟨[b+c*z+z*z,c+z,1],rfl,le rfl,rfl,(cvA3 _ (c+z) z).trans (l4 (by grind) (by grind) (by grind)<|by grind) |>.symm,bd,⟨le rfl,le rfl,le rfl,le rfl,rfl,rfl,(cvB3 _ (c+z) z).trans<|l4 (by grind) (by grind) (by grind)<|by grind,bl,bd⟩⟩
 .rw[ev4]at hz;have s1:=sm b af
  have s2:=sm c af
  have s3:=sm d af
  have m2':(c*z).natAbs<=499*499:=jF s2 z9;have m3':(d*(z*z)).natAbs<=499*(499*499):=jF s3 m1;have m4:(z*z*z).natAbs<=499*499*499:=jF m1 z9;have m5:(d*z).natAbs<=499*499:=jF s3 z9;have bd: ∀x∈[b+c*z+d*(z*z)+z*z*z,c+d*z+z*z,d+z,1],x.natAbs<=2^40:=m3 (aG (na2 (na2 (na2 s1 m2') m3') m4) ac) (m3 (aG (na2 (na2 s2 m5) m1) ac)<|m2 (aG (na2 s3 z9) ac) k1)
  exact⟨[b+c*z+d*(z*z)+z*z*z,c+d*z+z*z,d+z,1],rfl,le rfl,rfl,(cvA4 _ _ (d+z) z).trans (l5 (by grind) (by grind) (by grind) (by grind)<|by grind) |>.symm,bd,⟨le rfl,le rfl,le rfl,le rfl,rfl,rfl,(cvB4 _ _ (d+z) z).trans<|l5 (by grind) (by grind) (by grind) (by grind)<|by grind,bl,bd⟩⟩
theorem fac_qq {u:Int}(h: ∀x∈[v,u,w,s],x.natAbs<=2^40):Fac (qq v u w s) [v,u,1] [w,s,1]:=by
 simp only[nP]at h;have k1:(1:Int).natAbs<=2^40:=ac
 refine⟨af,af,af,af,rfl,rfl,?_,?_,?_⟩
 .simp[rwF,conv,shF,qq,b9]
  grind
 .simp only[nP];exact⟨h.1,h.2.1,k1,af⟩
 .simp only[nP];exact⟨h.2.2.1,h.2.2.2.1,k1,af⟩
def rL:Φ:=λds Q=> ∃m:Int,ds=[.int m]/\m.natAbs<=499/\ ∀l:List Int,l.length<=1000->(m=0->l=[0])->(m≠0-> ∀x,x∈l↔x∣m)->(∀x∈l,x.natAbs<=499)->Q (.ow<|l.map .int)
def a89:US:=(aT (bM 1<|eR aK)<|aT (iM (a66<|a7 @1<|a7 (uOp fN (aR cV4<|a7 (aC 0) aK)<|@1) aK) (cB 2)<|iL (fG<|uOp (kR false) (uOp oS (aC 0)<|aC 2)<|@0) (aT (a67 1<|aC 2)<|a67 1<|nZ<|aC 2) fJ)<|rP 1)
def xC:US:=(aT (iL (fG<|uOp (kR false) (aC 0)<|@0) (cZ<|eR<|a7 @0 aK) fJ) a89)
theorem aG0 (h:x∣m)(hm:m≠0):x.natAbs<=m.natAbs/\1<=x.natAbs:=by
 have h1:=Int.natAbs_dvd_natAbs.mpr h;refine⟨Nat.le_of_dvd ae h1,?_⟩
 rcases Nat.eq_zero_or_pos x.natAbs with z|z
 .rw[z]at h1;have:=Nat.zero_dvd.mp h1
  lia
 .exact z
theorem bL3: Ra rL xC ["m","f","d"]:=by
 rintro ds Q ⟨m,rfl,m9,h⟩;unfold xC;show(aT _ _:US) _ [!m,none,none];rw[aO];left
 by_cases m0:m=0
 .rw[a8 m0];exact⟨ac,h [0] af (λ_=>rfl) (λz=>absurd m0 z) af⟩
 rw[a6 m0];unfold a89;rw[aO];left;refine⟨ac,?_⟩
 refine bJ m.natAbs (λk=> .int (1+k)) [!m,↑[],none] ?_
  (λi ρ=> ∃(l:List Int) (z:Option B),ρ=[!m,↑(l.map .int),z]/\l.length<=2*i/\ ∀x,x∈l↔(x∣m/\1<=x.natAbs/\x.natAbs<=i)) ⟨[],none,rfl,af,λx=> ?_⟩ ?_ ?_
 .intro Q' q;left;have e:(if m<0 then -m else m)=(m.natAbs:Int):=by split<;>lia
  rw[e];refine⟨ae,?_⟩
  rw[show((m.natAbs:Int)+1-1).toNat=m.natAbs by lia]
  exact q
 .simp;lia
 .rintro i ρ hi ⟨l,z,rfl,ll,hl⟩;left;refine⟨af,ae,?_⟩
  rw[dE _<|show(0:Int)<1+(i:Int)by lia]
  split
  .rename_i hd
   have dv:(1+(i:Int))∣m:=l6 hd;refine⟨?_,?_,l++[1+(i:Int),-(1+(i:Int))],!(1+(i:Int)),?_,?_,λx=> ?_⟩
   .rw[aH];exact aZ (show _<2000 by lia) ac
   .rw[cM,aH];exact aZ (show _<2000 by simp;lia) ac
   .rw[bX];simp
   .rw[cM];simp;lia
   .rw[fF,hl];constructor
    .rintro(⟨h1,h2,h3⟩|hx)
     .exact⟨h1,h2,ae⟩
     .simp at hx
      rcases hx with rfl|rfl
      .exact⟨dv,ae,ae⟩
      .exact⟨by first|exact Int.neg_dvd.mpr dv| (rw[show -1+ -(i:Int)= -(1+(i:Int))by lia];exact Int.neg_dvd.mpr dv),ae,ae⟩
    .rintro⟨h1,h2,h3⟩
     by_cases c:x.natAbs<=i
     .exact .inl ⟨h1,h2,c⟩
     .refine .inr ?_
      simp
      lia
  .rename_i hd
   have dv: ¬(1+(i:Int))∣m:=λz=>hd (jY z)
   refine⟨l,_,rfl,ae,λx=> ?_⟩
   rw[hl];constructor
   .rintro⟨h1,h2,h3⟩;exact⟨h1,h2,ae⟩
   .rintro⟨h1,h2,h3⟩;refine⟨h1,h2,?_⟩
    by_cases c:x.natAbs<=i
    .exact c
    .exfalso
     have:x=1+(i:Int)\/x= -(1+(i:Int)):=ae
     rcases this with rfl|rfl
     .exact dv h1
     .exact dv (Int.neg_dvd.mp h1)
 .rintro ρ ⟨l,z,rfl,ll,hl⟩;left;refine h l ae (λz=>absurd z m0) (λ_ x=> ?_) λx hx=> ?_
  .rw[hl];exact⟨λq=>q.1,λq=>⟨q,(aG0 q m0).2,(aG0 q m0).1⟩⟩
  .have:=(hl x).mp hx
   lia
def o7:Φ:=λds Q=> ∃p:List Int,ds=[aI p]/\dG p/\((∀z,ev p z≠0)->Q (.pu .non))/\ ∀l r,Fac p l r->Red p->Q (.pu<|.tup [aI l,aI r])
def sW:US:=(cZ<|uC .non)
def o8:US:=(aT (iM (iK<|aR rL<|a7 (uIx (aS 0)<|@0) aK) (cB 1)<|iL (fG<|uOp (kR false) (aR tH<|a7 (aC 0)<|a7 (aC 1) aK)<|@0) (aT (bM 2<|hJ<|a7 (nZ<|aC 1)<|a7 @1 aK)<|cZ<|hJ<|a7 (aC 2)<|a7 (uIx (uV<|aR gH<|a7 (aC 0)<|a7 (aC 2) aK)<|@0) aK) fJ) sW)
theorem b16 (p:List Int)(j:Nat)(h:p.length<=j):p.getD j 0=0:=by rw[aJ,i9 h];rfl
theorem aM8: Ra o7 o8 ["p","z","l"]:=by
 rintro ds Q ⟨p,rfl,hp,hn,hy⟩;have hlo:=hp.ok.lo;have hhi:=hp.ok.hi;unfold o8;show(aT _ _:US) _ [~~~.tup (p.map .int),none,none];rw[aO];have p0:(p.getD 0 0).natAbs<=499:=cP hp.ok.small 0;have key: ∀l:List Int,(p.getD 0 0=0->l=[0])->(p.getD 0 0≠0-> ∀x,x∈l↔x∣p.getD 0 0)->(∀x∈l,ev p x≠0)-> ∀z,ev p z≠0:=λl l0 l1 hl z hz=>by
  by_cases c:p.getD 0 0=0
  .have:=hl 0 (by rw[l0 c];simp)
   rw[cQ7 hp]at this;exact this c
  .exact hl z ((l1 c z).mpr<|dB1 hp hz) hz
 unfold iM;simp only[iK];left;rw[bB6 ae]
 refine⟨p.getD 0 0,rfl,p0,λl l9 l0 l1 lb=> ?_⟩
 right;rw[aH];refine⟨λi ρ=> ∃z1 z2,ρ=[~~~.tup (p.map .int),z1,z2]/\ ∀k,k<i->ev p (l.getD k 0)≠0,⟨none,none,rfl,λk hk=>ae⟩,?_,?_⟩
 .rintro i ρ hi ⟨z1,z2,rfl,hk⟩;have e3:(l.map D.int).getD i .non= .int (l.getD i 0):=by
   rw[aJ,bG,aP hi,aJ,aP hi];rfl
  rw[e3];have mem:l.getD i 0∈l:=by rw[aJ,aP hi];exact cV hi
  have zb:=lb _ mem;generalize ez:l.getD i 0=z at zb;left;refine⟨af,?_⟩
  refine⟨p.length,9,9,λj=>p.getD j 0,z,by rw[<-aX0];rfl,⟨λj=>aG (cP hp.ok.small j) ac,aG zb ac,ae,ac,ae⟩,?_⟩
  show(if ev p z=0 then _ else _)
  by_cases c:ev p z=0
  .rw[a8 c];refine⟨ac,?_⟩
   obtain⟨r,r1,r2,r3,r4,r5,fac⟩:=quo hp c zb;refine⟨p.length,1,9,9,λm=>conv (λj=>r.getD j 0) (vZ z) r.length m+0,vZ z,?_,⟨ae,ac,rfl,λj hj=> ?_,λm hm=> ?_,λj=> ?_,ae,ac⟩,?_⟩
   .rw[<-r4];rfl
   .unfold vZ;rw[b16];simp;lia
   .have e:p.getD m 0=conv (λj=>r.getD j 0) (vZ z) r.length m+0:=by
     have:p[m]? =some (conv (λj=>r.getD j 0) (vZ z) r.length m+0):=by
      conv=>lhs;rw[r4]
      rw[b71 hm]
     rw[aJ,this];rfl
    rw[<-e];exact aG (cP hp.ok.small m) ac
   .unfold vZ;refine cP (b:=2^9) (λx hx=> ?_) j
    simp at hx
    rcases hx with rfl|rfl
    .rw[lM];exact aG zb ac
    .decide
   .have dc:=bC2 (u:=λj=>r.getD j 0) (b:=vZ z) (low:=λ_=>0) (d:=1) rfl (λj hj=>by unfold vZ;rw[b16];simp;lia) (λ_ _=>rfl) r.length
    have el:p.length-1=r.length:=ae
    rw[el];have qe:rwF (gK (divQ (vZ z) 1 r.length λm=>conv (λj=>r.getD j 0) (vZ z) r.length m+0) r.length) (divQ (vZ z) 1 r.length λm=>conv (λj=>r.getD j 0) (vZ z) r.length m+0)=r:=by
     have cn:gK (divQ (vZ z) 1 r.length λm=>conv (λj=>r.getD j 0) (vZ z) r.length m+0) r.length=r.length:=tG (aF _) (λm a b=>ae) (.inr (by
      rw[dc.2 (r.length-1) ae,r3];decide))
     rw[cn]
     conv=>rhs;rw[aX0 r]
     exact gG λj hj=>dc.2 j hj
    rw[qe];left;rw[show atI [aI r,aI<|rwF (gK (divL (vZ z) 1 r.length λm=>conv (λj=>r.getD j 0) (vZ z) r.length m+0) p.length)<|divL (vZ z) 1 r.length λm=>conv (λj=>r.getD j 0) (vZ z) r.length m+0] 0=some (aI r)from bK (j:=0) rfl]
    refine⟨ac,hy [-z,1] r fac<|.inl ⟨z,c⟩⟩
  .rw[a6 c];refine⟨_,_,rfl,λk hk2=> ?_⟩
   by_cases ck:k<i
   .exact hk k ck
   .have:k=i:=ae
    rw[this,ez];exact c
 .rintro ρ ⟨z1,z2,rfl,hk⟩;unfold sW;left;refine hn (key l l0 l1 λx hx=> ?_)
  obtain⟨k,hk2,rfl⟩:=zF hx;have:=hk k hk2;rw[aJ,aP hk2]at this;exact this
def xD:Φ:=λds Q=> ∃t m:Int,ds=[.int t,.int m]/\t.natAbs<=2^20/\m.natAbs<=2^20/\ ∀l:List Int,l.length<=2->(∀u,u∈l↔u*(t-u)=m)->Q (.ow<|l.map .int)
def a90:US:=(aT (iL (fG<|uOp (kR true) (uOp fV (aC 3)<|aC 3)<|aC 2) (cZ<|eR aK) fJ)<|cZ<|eR<|a7 (uOp b39 (uOp fN (aC 0)<|aC 3)<|@2)<|a7 (uOp b39 (uOp M.gSub (aC 0)<|aC 3)<|@2) aK)
def a91:US:=(aT (bM 3<|aR aX7<|a7 (aC 2) aK) a90)
def a92:US:=(aT (iL (fG<|uOp (vW λi j=>decide (i<j)) (aC 2)<|@0) (cZ<|eR aK) fJ) a91)
def xE:US:=(aT (bM 2<|uOp M.gSub (uOp fV (aC 0)<|aC 0)<|uOp fV @4<|aC 1) a92)
theorem sq_nn (x:Int):0<=x*x:=by
 rcases le_total 0 x with h|h
 .exact mul_nonneg h h
 .exact Int.mul_nonneg_of_nonpos_of_nonpos h h
theorem dB2 (ha:0<=a)(h:a<=b):a*a<=b*b:=zS h h ha ae
theorem dU6 (hg:0<=g)(h1:g*g<=x*x)(h2:x*x< (g+1)*(g+1)):x=g\/x= -g:=by
 have e:(x.natAbs:Int)*(x.natAbs:Int)=x*x:=Int.natAbs_mul_self;have a1:(x.natAbs:Int)<=g:=by
  by_cases c:(x.natAbs:Int)<=g
  .exact c
  .have:=dB2 (a:=g+1) (b:=(x.natAbs:Int)) ae ae
   lia
 have a2:g<=(x.natAbs:Int):=by
  by_cases c:g<=(x.natAbs:Int)
  .exact c
  .have:=dB2 (a:=(x.natAbs:Int)+1) (b:=g) ae ae
   have h3:(x.natAbs:Int)*(x.natAbs:Int)< ((x.natAbs:Int)+1)*((x.natAbs:Int)+1):=by
    have:((x.natAbs:Int)+1)*((x.natAbs:Int)+1)=(x.natAbs:Int)*(x.natAbs:Int)+2*(x.natAbs:Int)+1:=by grind
    lia
   lia
 lia
theorem par {t:Int}(h:g*g=t*t-4*m):(t+g)%2=0/\(t-g)%2=0:=by
 have h1:(t-g)*(t+g)=4*m:=by grind
 rcases Int.emod_two_eq (t+g)with c|c
 .exact⟨c,ae⟩
 .exfalso
  obtain⟨a,ha⟩: ∃a,t+g=2*a+1:=⟨(t+g)/2,ae⟩
  obtain⟨b,hb⟩: ∃b,t-g=2*b+1:=⟨(t-g)/2,ae⟩
  rw[ha,hb]at h1;have:2*(2*(b*a)+b+a-2*m)+1=0:=by grind
  lia
theorem bL4: Ra xD xE ["t","m","s","g"]:=by
 rintro ds Q ⟨t,m,rfl,ht,hm,h⟩;have p20:(2:Nat)^20=1048576:=ac
 have tt:(t*t).natAbs<=2^20*2^20:=jF ht ht;unfold xE;show(aT _ _:US) _ [!t,!m,none,none];rw[aO];left;refine⟨cmL aa aa,cmL ac ac,?_⟩
 have id1: ∀u:Int,u*(t-u)=m↔(2*u-t)*(2*u-t)=t*t-4*m:=λu=>by
  constructor
  .intro q;grind
  .intro q;have:4*(u*(t-u))=4*m:=by grind
   omega
 generalize esq:t*t-4*m=sq at id1;have sqb:sq.natAbs<=2^60:=by
  have:(2:Nat)^60=1152921504606846976:=ac
  have:(2:Nat)^20*2^20=1099511627776:=ac
  omega
 unfold a92;rw[aO];left
 by_cases s0:sq<0
 .rw[a8 s0];refine⟨ac,h [] af λu=> ?_⟩
  rw[id1];simp;intro q;have:=sq_nn (2*u-t);omega
 rw[a6 s0];unfold a91;rw[aO];left;refine⟨sq,rfl,aa,Sm.pow sqb ac,λg g0 g1 g2=> ?_⟩
 have g30:g<=2^30:=by
  by_cases c:g<=2^30
  .exact c
  .have:=dB2 (a:=2^30+1) (b:=g) ac aa
   have:((2:Int)^30+1)*(2^30+1)>2^60:=ac
   have:((2^60:Nat):Int)=2^60:=ac
   omega
 have k30:(2:Int)^30=1073741824:=ac
 unfold a90;right;rw[aO];left;refine⟨cmL aa aa,?_⟩
 by_cases c:g*g=sq
 .rw[a6 λz=>z c]
  rw[rQ _ ac,rQ _ ac]
  have pp:=par (t:=t) (g:=g) (m:=m) (by rw[c,esq])
  refine⟨⟨ac,bK7 ac ac⟩,⟨ac,bK7 ac ac⟩,ac,?_⟩
  refine h [(t+g)/2,(t-g)/2] af λu=> ?_
  rw[id1];simp;constructor
  .rintro(rfl|rfl)
   .have:2*((t+g)/2)-t=g:=aa
    rw[this];exact c
   .have:2*((t-g)/2)-t= -g:=aa
    rw[this,Int.neg_mul_neg];exact c
  .intro q;have:=dU6 (g:=g) (x:=2*u-t) g0 aa aa
   omega
 .rw[a8 c];refine⟨ac,h [] af λu=> ?_⟩
  rw[id1];simp;intro q;rw[<-q]at g1 g2 c;rcases dU6 g0 g1 g2 with z|z
  .rw[z]at c;exact c rfl
  .rw[z,Int.neg_mul_neg]at c;exact c rfl
def dB3 (g:UG)(tb:US)(E:UD)(b:B)(ρ1:Ev):Prop:=match pP b.d with
 | some l=> ∃Pv:Nat->Ev->Prop,Pv 0 ρ1/\(∀i ρ,i<l.length->Pv i ρ->g (.pu<|l.getD i .non) ρ λρ2=>tb {E with nx:=Pv (i+1),ct:=Pv (i+1),bk:=E.nx} ρ2)/\ ∀ρ,Pv l.length ρ->E.nx ρ
 | none=>False
theorem bC9 {φ:Φ}{t:UA}{g:UG}:iM (iK<|aR φ t) g tb E ρ=t ρ λds ρ1=>φ ds λb=>dB3 g tb E b ρ1:=rfl
theorem b17 {g:UG}{ρ1:Ev}(l:List Int)(Pv:Nat->Ev->Prop)(h0:Pv 0 ρ1)(hs: ∀i ρ,i<l.length->Pv i ρ->g (.pu<|.int<|l.getD i 0) ρ λρ2=>tb {E with nx:=Pv (i+1),ct:=Pv (i+1),bk:=E.nx} ρ2)(hd: ∀ρ,Pv l.length ρ->E.nx ρ):dB3 g tb E (.ow<|l.map .int) ρ1:=by
 show ∃Pv:Nat->Ev->Prop,Pv 0 ρ1/\(∀i ρ,i< (l.map D.int).length->Pv i ρ->g (.pu<|(l.map D.int).getD i .non) ρ λρ2=>tb {E with nx:=Pv (i+1),ct:=Pv (i+1),bk:=E.nx} ρ2)/\ ∀ρ,Pv (l.map D.int).length ρ->E.nx ρ
 rw[aH];refine⟨Pv,h0,λi ρ hi hp=> ?_,hd⟩
 have e3:(l.map D.int).getD i .non= .int (l.getD i 0):=by
  rw[aJ,bG,aP hi,aJ,aP hi];rfl
 rw[e3];exact hs i ρ hi hp
theorem bR2 (hi:i<l.length):l.getD i 0∈l:=by rw[aJ,aP hi];exact cV hi
theorem c79 {P:Int->Prop}(h: ∀k,k<l.length->P (l.getD k 0)): ∀x∈l,P x:=λx hx=>by
 obtain⟨k,hk,rfl⟩:=zF hx;have:=h k hk;rw[aJ,aP hk]at this;exact this
def kS:Φ:=λds Q=> ∃a b c d:Int,ds=[aI [a,b,c,d,1]]/\(∀x∈[a,b,c,d],x.natAbs<=499)/\a≠0/\((∀v u w s,[a,b,c,d,1]≠qq v u w s)->Q (.pu .non))/\
 ∀v u w s,[a,b,c,d,1]=qq v u w s->(∀x∈[v,u,w,s],x.natAbs<=2^40)->Q (.pu<|.tup [aI [v,u,1],aI [w,s,1]])
def kT:US:=(aT (iM (iK<|aR rL<|a7 (uIx (aS 0)<|@0) aK) (cB 1)<|aT (bM 2<|uOp b39 (uIx (aS 0)<|@0)<|aC 1)<|iM (iK<|aR xD<|a7 (uIx (aS 0)<|@3)<|a7 (uOp M.gSub (uOp M.gSub (uIx (aS 0)<|@2)<|aC 1)<|aC 2) aK) (cB 3)<|aT (bM 4<|uOp M.gSub (uIx (aS 0)<|@3)<|aC 3)<|iL (fG<|uOp (kR false) (uOp fN (uOp fV (aC 3)<|aC 2)<|uOp fV (aC 1)<|aC 4)<|uIx (aS 0)<|@1) (cZ<|hJ<|a7 (hJ<|a7 (aC 1)<|a7 (aC 3)<|a7 @1 aK)<|a7 (hJ<|a7 (aC 2)<|a7 (aC 4)<|a7 @1 aK) aK) fJ)<|cZ<|uC .non)
theorem cY0 {u t:Int}(h:u*(t-u)=m)(ht:t.natAbs<=2^20)(hm:m.natAbs<=2^20):u.natAbs<=2^20:=by
 by_cases c:t-u=0
 .have:u=t:=ae
  rw[this];exact ht
 .have h1:m.natAbs=u.natAbs*(t-u).natAbs:=by rw[<-h,cH]
  have h2:u.natAbs*1<=u.natAbs*(t-u).natAbs:=tY _ ae
  lia
theorem a58: Ra kS kT ["p","v","w","u","s"]:=by
 rintro ds Q ⟨a,b,c,d,rfl,hs,a0,hn,hy⟩;simp only[nP]at hs;obtain⟨ha,hb,hc,hd,_⟩:=hs;have p20:(2:Nat)^20=1048576:=ac
 have p40:(2:Nat)^40=1099511627776:=ac
 unfold kT;show(aT _ _:US) _ [~~~.tup [.int a,.int b,.int c,.int d,.int 1],none,none,none,none];have i0:atI [D.int a,.int b,.int c,.int d,.int 1] 0=some (.int a):=bK (j:=0) rfl;have i1:atI [D.int a,.int b,.int c,.int d,.int 1] 1=some (.int b):=bK (j:=1) rfl;have i2:atI [D.int a,.int b,.int c,.int d,.int 1] 2=some (.int c):=bK (j:=2) rfl
 have i3:atI [D.int a,.int b,.int c,.int d,.int 1] 3=some (.int d):=bK (j:=3) rfl;rw[aO,bC9];left;rw[i0];refine⟨a,rfl,ha,λl l9 _ l1 lb=> ?_⟩
 have ld:=l1 a0;refine b17 l (λi ρ=> ∃z1 z2 z3 z4,ρ=[~~~.tup [.int a,.int b,.int c,.int d,.int 1],z1,z2,z3,z4]/\ ∀k,k<i-> ∀u w s,[a,b,c,d,1]≠qq (l.getD k 0) u w s) ⟨none,none,none,none,rfl,λk hk=>ae⟩ ?_ ?_
 .rintro i ρ hi ⟨z1,z2,z3,z4,rfl,hk⟩;have mem:=bR2 hi;have vb:=lb _ mem;have vd:=(ld _).mp mem;generalize ev':l.getD i 0=v at vb vd;obtain⟨w,rfl⟩:=vd;have v0:v≠0:=λz=>a0 (by rw[z,dA])
  have wb:w.natAbs<=499:=by
   rw[cH]at ha;have:1*w.natAbs<=v.natAbs*w.natAbs:=lB _ ae
   lia
  refine⟨af,?_⟩
  show(aT _ _:US) _ [~~~.tup [.int<|v*w,.int b,.int c,.int d,.int 1],!v,z2,z3,z4]
  rw[aO,nK];left;rw[i0];right;rw[Int.mul_fdiv_cancel_left _ v0];refine⟨⟨v0,bK7 ae ae⟩,?_⟩
  rw[bC9];left;rw[i3,i2];right;have cv:(c-v-w).natAbs<=2^20:=by
   have:=na2 (na2 hc (B:=499) (b:= -v) (by rw[lM];exact vb)) (B:=499) (b:= -w) (by rw[lM];exact wb)
   exact aG this ac
  have d2:d.natAbs<=2^20:=aG hd ac
  refine⟨d,c-v-w,rfl,d2,cv,λus _ hus=> ?_⟩
  refine b17 us (λj ρ=> ∃z3 z4,ρ=[~~~.tup [.int<|v*w,.int b,.int c,.int d,.int 1],!v,!w,z3,z4]/\ ∀k,k<j->us.getD k 0*w+v*(d-us.getD k 0)≠b) ⟨_,_,rfl,λk hk=>ae⟩ ?_ ?_
  .rintro j ρ hj ⟨z3,z4,rfl,hk2⟩;have um:=(hus _).mp (bR2 hj);generalize eu:us.getD j 0=u at um;have ub:=cY0 um d2 cv;refine⟨af,?_⟩
   show(aT _ _:US) _ [~~~.tup [.int<|v*w,.int b,.int c,.int d,.int 1],!v,!w,!u,z4]
   rw[aO];left;rw[i3];right;rw[i1];refine⟨cmL ae ae,cmL ae ae,?_⟩
   right
   by_cases q:u*w+v*(d-u)=b
   .rw[a8 q];refine⟨ac,ac,ac,hy v u w (d-u) ?_ ?_⟩
    .unfold qq;rw[<-q];have e1:v+w+u*(d-u)=c:=by rw[um];lia
     have e2:u+(d-u)=d:=ae
     rw[e1,e2]
    .simp only[nP];exact⟨ae,ae,ae,ae,af⟩
   .rw[a6 q];refine⟨_,_,rfl,λk hk3=> ?_⟩
    by_cases ck:k<j
    .exact hk2 k ck
    .have:k=j:=ae
     rw[this,eu];exact q
  .rintro ρ ⟨z3,z4,rfl,hk2⟩;have no:=c79 (P:=λu=>u*w+v*(d-u)≠b) hk2
   refine⟨_,_,_,_,rfl,λk hk3=> ?_⟩
   by_cases ck:k<i
   .exact hk k ck
   .have:k=i:=ae
    rw[this,ev'];intro u w' s q;unfold qq at q
    injection q with q0 q;injection q with q1 q;injection q with q2 q;injection q with q3 q
    have ww:w'=w:=by
     have:=Int.eq_of_mul_eq_mul_left v0 q0
     lia
    subst ww;have us':s=d-u:=ae
    subst us';exact no u ((hus u).mpr ae) q1.symm
 .rintro ρ ⟨z1,z2,z3,z4,rfl,hk⟩;left;refine hn λv u w s q=> ?_
  have no:=c79 (P:=λv=> ∀u w s,[a,b,c,d,1]≠qq v u w s) hk
  refine no v ((ld v).mpr ?_) u w s q
  unfold qq at q
  injection q with q0 q
  exact⟨w,q0⟩
def v8:Φ:=λds Q=> ∃p:List Int,ds=[aI p]/\dG p/\(¬Red p->Q (.pu .non))/\ ∀l r,Fac p l r->Red p->Q (.pu<|.tup [aI l,aI r])
def rV:US:=(rP 1)
def a93:US:=(aT (iL (cV3 (fG<|aW8 false<|aC 1)<|fG<|uOp (kR false) (jU<|aS 0)<|@5) (bM 1<|aR kS<|a7 (aC 0) aK) fJ) rV)
def b18:US:=(aT (bM 1<|aR o7<|a7 (aC 0) aK) a93)
def aM9:US:=(aT (aQ6<|aR gW<|a7 (aC 0) aK) b18)
theorem cJ6: Ra v8 aM9 ["p","q"]:=by
 rintro ds Q ⟨p,rfl,hp,hn,hy⟩;unfold aM9;show(aT _ _:US) _ [~~~.tup (p.map .int),none];rw[aO];left;refine⟨p,rfl,hp,?_⟩;try right
 unfold b18;rw[aO];left;refine⟨p,rfl,hp,λnr=> ?_,λl r fac red=> ?_⟩
 .try right
  unfold a93;rw[aO];left;rw[aH]
  by_cases c:(p.length:Int)=5
  .simp only[c,dR];have sm:=hp.ok.small;rcases hp.cs with⟨a,b,rfl⟩| ⟨a,b,c',rfl⟩| ⟨a,b,c',d,rfl⟩
   .simp at c
   .simp at c
   .simp only[nP]at sm;refine⟨a,b,c',d,rfl,by simp only[nP];exact⟨sm.1,sm.2.1,sm.2.2.1,sm.2.2.2.1,af⟩,λz=> ?_,λnq=> ?_,λv u w s q bd=> ?_⟩
    .refine nr 0 ?_
     rw[cQ7 hp];exact z
    .unfold rV;left;refine hn λrd=> ?_
     rcases rd with⟨z,hz⟩| ⟨v,u,w,s,q⟩
     .exact nr z hz
     .exact nq v u w s q
    .unfold rV;left;exact hy _ _ (by rw[q];exact fac_qq bd) (.inr ⟨v,u,w,s,q⟩)
  .simp only[c,dR,fS];unfold rV;left;refine hn λrd=> ?_
   rcases rd with⟨z,hz⟩| ⟨v,u,w,s,q⟩
   .exact nr z hz
   .rw[q]at c;exact c rfl
 .try right
  unfold a93;rw[aO];left;unfold rV;left;exact hy l r fac red
nonrec def fOf (p:List Int):∅:=λj=>p.getD j 0
theorem dG.rf (h:dG p):RF (p.length-1) (fOf p):=by
 have lo:=h.ok.lo;have hi:=h.ok.hi;refine⟨aa,aa,?_,λj hj=> ?_,λj=> ?_⟩
 .obtain⟨q,rfl⟩:=h.one;show(q++[1]).getD _ 0=1;rw[cM,aJ,tT af]
  simp
 .show p.getD j 0=0
  rw[aJ,i9 aa]
  rfl
 .exact aG (cP h.ok.small j) ac
theorem dG.row (h:dG p):aI p=aI (rwF (p.length-1+1)<|fOf p):=by
 have lo:=h.ok.lo;have e:=aX0 p;rw[show p.length-1+1=p.length by omega]
 exact cR aI e
def wH:Φ:=λds Q=> ∃(r:List Int) (k:Int),ds=[aI r,.int k]/\r.length<=1000/\ -1000<=k/\k<=1000/\Q (.pu<|aI<|r++replicate (k-(r.length:Int)).toNat 0)
def a94:US:=(cZ<|uOp fN (aC 0)<|uOp c53 (hJ<|a7 @0 aK)<|uOp M.gSub (aC 1)<|jU<|aS 0)
theorem c80: Ra wH a94 ["r","s"]:=by
 rintro ds Q ⟨r,k,rfl,hr,k0,k1,h⟩;unfold a94;simp only[aI];show(cZ _:US) _ [~~~.tup (r.map .int),!k];left;rw[aH];have e:(replicate (k-(r.length:Int)).toNat [D.int 0]).flatten=(replicate (k-(r.length:Int)).toNat 0).map D.int:=aR3 _ _;rw[e,<-bX];refine⟨ac,⟨af,ae,ae,aG (show 1*(k-(r.length:Int)).toNat<=1000 by lia) ac⟩,?_,h⟩
 rw[aH,l7];exact aG (show r.length+(k-(r.length:Int)).toNat<=3000 by lia) ac
def jI:ΦX:=λds Q Ex=> ∃p:List Int,ds=[aI p]/\dG p/\(¬Red p->Q (.pu .non))/\(Red p-> ∀l r,Fac p l r->Ex "FallsApart" [aI l,aI r])
def n8:USX:=(λEx=>aT ((λ_=>(bM 1<|aR v8<|a7 (aC 0) aK)) Ex) ((λEx=>iL (fG<|aW8 true<|aC 1) ((aR1 "FallsApart" (uIx (aS 1)<|@0)<|uIx (aS 1)<|@1) Ex) ((λ_=>fJ) Ex)) Ex))
theorem a95: ∀ds Q Ex,jI ds Q Ex->ds.length=1:=by rintro ds Q Ex ⟨p,rfl,_⟩;rfl
theorem aF2: ∀ds Q Ex,jI ds Q Ex->n8 Ex {Q with} (init ["p","q"] ds):=by
 rintro ds Q Ex ⟨p,rfl,rp,h0,h1⟩;unfold n8;right;show(aT _ _:US) _ [~~~aI p,none];rw[aO];left;refine⟨p,rfl,rp,λnr=> ?_,λl r fac red=> ?_⟩
 .left
  simpa using h0 nr
 .left
  simp only[at0,at1];exact h1 red l r fac
def mH:ΦX:=λds Q Ex=> ∃(p:List Int) (size:Int),ds=[aI p,.int size]/\dG p/\Q (.pu .non)/\((∃q g,dN9 (p.length-1) (fOf p) size q g)-> ∀es,Ex "NotWhole" es)
def qV:USX:=(λEx=>aT ((λ_=>(bM 2<|aR sJ<|a7 (aC 0)<|a7 (aR v5<|a7 (aC 0)<|a7 (aC 1) aK) aK)) Ex) ((λEx=>iL (fG<|aW8 true<|aC 2) ((λEx=>aT ((λ_=>(d41 (aC 2)<|uP<|fY 3<|fY 4 uO)) Ex) ((aR1 "NotWhole" (aC 3)<|aR wH<|a7 (aR cJ<|a7 (eJ [3] [none,some 3,none] 2 (iK<|aC 4) (cB 0) (λρ Q=>Q true ρ)<|uOp oS (aC 0)<|aC 1) aK)<|a7 (uOp M.gSub (jU<|aS 0)<|@1) aK) Ex)) Ex) ((λ_=>fJ) Ex)) Ex))
theorem aS2: ∀ds Q Ex,mH ds Q Ex->ds.length=2:=by rintro ds Q Ex ⟨p,size,rfl,_⟩;rfl
theorem aX9: ∀ds Q Ex,mH ds Q Ex->qV Ex {Q with} (init ["p","s","o","q","f"] ds):=by
 rintro ds Q Ex ⟨p,size,rfl,rp,h0,h1⟩;have rf:=rp.rf;rw[rp.row];generalize p.length-1=n at *;generalize fOf p=f at *;unfold qV;right;show(aT _ _:US) _ [~~~aI (rwF (n+1) f),!size,none,none,none];rw[aO];left;refine⟨n,f,size,rfl,rf,λl hl hP=>⟨n,f,size,l,rfl,rf,hl,hP,?_,λq g outs=> ?_⟩⟩
 .left
  exists h0
 .have pp:=wY outs.pr;have p2:=pp.lo;have p3:=pp.hi;have ql:(dO0 n f g).length<=5:=by
   unfold dO0;rw[nM];have:=a17 (divQ g.2 g.1 (n+1-g.1) f) (n+1-g.1);have:=rf.n4
   lia
  generalize dO0 n f g=r at *;simp only[aI];left;refine⟨ac,ac,trivial,?_⟩
  refine cL (t0:=0) r.length (λk=>(r.map D.int).getD k .non) [~~~.tup ((rwF (n+1) f).map .int),!size,~~~.tup [.int q,.tup<|r.map .int],!q,~~~.tup (r.map .int)] (λQ' q=> ?_) ae (λx l'=>[x,!q,↑l']) none rfl (λ_ _ _=>rfl) (λ_ _=>bW _) (λ_ _ _ q=>q) (λ_ _ _=>rfl) (λk=> .int (r.getD k 0%q)) ?_ ?_
  .left
   rw[aH];exact q
  .intro k l' Q' hk q';have e3:(r.map D.int).getD k .non= .int (r.getD k 0):=by
    rw[aJ,bG,aJ,aP hk];rfl
   rw[e3]at q'⊢;left;refine⟨ae,?_⟩
   rw[dE _ ae]
   exact q'
  .have e4:(List.range r.length).map (λk=>D.int (r.getD k 0%q))=((List.range r.length).map λk=>r.getD k 0%q).map D.int:=by rw[gD];rfl
   rw[e4];have n4:=rf.n4;left;refine⟨_,_,rfl,by rw[aH,qF];lia,?_,?_,h1 ⟨q,g,outs⟩ _⟩
   .rw[bZ];lia
   .rw[bZ];lia
structure dB4 (p:List Int):Prop where
 rp:dG p
 irr: ¬Red p
 meas:(jG 4<|iP p).natAbs<=39999
 whole: ¬ ∃q g,dN9 (p.length-1) (fOf p) (jG 4<|iP p) q g
def yI:ΦM:=λds Q Ex=> ∃p:List Int,ds=[aI p]/\dG p/\(¬Red p->(jG 4<|iP p).natAbs<=39999->Q [aI p,.int<|(p.length:Int)-1,.int<|jG 4<|iP p])/\(Red p-> ∀l r,Fac p l r->Ex "FallsApart" [aI l,aI r])/\(¬Red p-> ¬dB4 p->Ex "TooGreat" []/\ ∀es,Ex "NotWhole" es)
def bD0:USX:=(λEx=>aT ((λ_=>(aQ6<|aR gW<|a7 (aC 1) aK)) Ex) ((λEx=>aT ((λEx=>aQ6 (bW7 jI (a7 (aC 1) aK) Ex)) Ex) ((λEx=>aT ((λ_=>(bM 2<|aR a20<|a7 (aC 1) aK)) Ex) ((λEx=>aT ((λEx=>iL (fG<|uOp (vW λi j=>decide (j<i)) (aR cV4<|a7 (aC 2) aK)<|@39999) ((bW8 "TooGreat"<|a7 (uC<|.str "a ring's measure is from -39,999 to 39,999") aK) Ex) ((λ_=>fJ) Ex)) Ex) ((λEx=>aQ6 (bW7 mH (a7 (aC 1)<|a7 (aC 2) aK) Ex)) Ex)) Ex)) Ex)) Ex))
def bD1:UE:=(aC 1)
def bD2:UE:=(uOp M.gSub (jU<|aS 1)<|@1)
def bD3:UE:=(aC 2)
theorem cY1: ∀ds Q Ex,yI ds Q Ex->ds.length+1=2:=by rintro ds Q Ex ⟨p,rfl,_⟩;rfl
theorem dB5: ∀a ds Q Ex,yI ds Q Ex->bD0 Ex {nx:=λρ=>ρ[0]? =some (~~~.adr a)/\bD1 ρ λb1 ρ1=>bD2 ρ1 λb2 ρ2=>bD3 ρ2 λb3 _=>Q [b1.d,b2.d,b3.d],rt:=λ_=>False} (init ["s","p","m"] (.adr a::ds)):=by
 rintro a ds Q Ex ⟨p,rfl,rp,h0,hr,h1⟩;have lo:=rp.ok.lo;unfold bD0;right;show(aT _ _:US) _ [~~~.adr a,~~~aI p,none];rw[aO];left;refine⟨p,rfl,rp,?_⟩;left;refine⟨p,rfl,rp,λnr=> ?_,hr⟩
 refine⟨p,rfl,rp,?_⟩
 left
 by_cases c:(39999:Int)< (if jG 4 (iP p)<0 then -jG 4 (iP p)else jG 4 (iP p))
 .rw[a8 c];refine⟨ac,(h1 nr λz=> ?_).1⟩
  have:=z.meas;split at c<;>omega
 .rw[a6 c];have me:(jG 4<|iP p).natAbs<=39999:=by split at c<;>omega
  refine⟨p,jG 4<|iP p,rfl,rp,⟨trivial,?_⟩,λo=>(h1 nr λz=>z.whole o).2⟩
  unfold bD1 bD2 bD3;simp only[aI];left;rw[aH];exact h0 nr me
nonrec def bY2 (r:List Int)(m:Int):Bool:=r.any λc=>decide (c%m≠0)
nonrec def dB6 (p:List Int)(size:Int):Bool:=prL.all λq=>decide (size%(q*q)≠0)||
 ((List.range q.toNat).all (λc=>bY2 (bC6 (p.length-1) (fOf p)<|uY (c:Int)) (q*q))&&
   (decide (p.length≠5)||(List.range q.toNat).all λv=>(List.range q.toNat).all λu=>bY2 (bC6 (p.length-1) (fOf p)<|quF (v:Int) (u:Int)) (q*q)))
theorem mp_one {p:Int}{F:Nat×∅}(mp:MP p F.1 F.2)(h1:F.1=1):F=uY (F.2 0):=by
 refine kJ h1 (funext λj=> ?_)
 show F.2 j=if j=0 then F.2 0 else if j=1 then 1 else 0
 by_cases c0:j=0
 .rw[a8 c0,c0]
 .by_cases c1:j=1
  .rw[a6 c0,a8 c1,c1];have:=mp.top;rw[h1]at this;exact this
  .rw[a6 c0,a6 c1];exact mp.hi j ae
theorem aS3 (h: ∀c∈r,c%m=0):bY2 r m=false:=by
 unfold bY2;rw[List.any_eq_false];intro c hc;simp[h c hc]
theorem dB7 {size:Int}(rp:dG p)(h:dB6 p size=true): ¬ ∃q g,dN9 (p.length-1) (fOf p) size q g:=by
 rintro⟨q,g,o⟩;have lo:=rp.ok.lo;have hi:=rp.ok.hi;have pp:=wY o.pr;have h1:=dJ.mp h q o.pr;rw[zR,dZ]at h1;have nz: ¬decide (size%(q*q)≠0)=true:=by rw[gB];exact λz=>z o.sq
 obtain⟨h2,h3⟩:=h1.resolve_left nz;obtain⟨R,mR,e⟩:=o.tw;have dg:p.length-1=g.1+g.1+R.1:=cR Prod.fst e;have g1:=o.g1
 by_cases c1:g.1=1
 .have eg:=mp_one o.mg c1;have r0:=o.mg.rng 0;have h4:=dJ.mp h2 (g.2 0).toNat (d6.mpr ae)
  rw[show(((g.2 0).toNat:Nat):Int)=g.2 0 by lia,<-eg,aS3 o.all]at h4
  cases h4
 .have c2:g.1=2:=ae
  have eg:=mp_two o.mg c2;have r0:=o.mg.rng 0;have r1:=o.mg.rng 1;have n5: ¬decide (p.length≠5)=true:=by rw[gB];lia
  have h4:=(zR _ _▸h3).resolve_left n5;have h5:=dJ.mp (dJ.mp h4 (g.2 0).toNat<|d6.mpr ae) (g.2 1).toNat (d6.mpr ae)
  rw[show(((g.2 0).toNat:Nat):Int)=g.2 0 by lia,show(((g.2 1).toNat:Nat):Int)=g.2 1 by lia,<-eg,aS3 o.all]at h5
  cases h5
nonrec def qW:List (List Int):=[[5,0,1],[-10,0,1],[6,1,1],[-3,0,1],[-1,-1,0,1],[-2,0,0,1],[-1,4,0,1],[1,0,0,0,1],[-1,-1,0,0,1],[1,1,1,1,1],[-2,0,0,0,1],[1,0,-1,0,1]]
theorem c81:qW.all (λp=>dB6 p (jG 4<|iP p)&&decide ((jG 4<|iP p).natAbs<=39999))=true:=ag
theorem v9: ∀p∈qW,dG p:=by
 intro p hp;have h:qW.all (λp=>decide (3<=p.length)&&decide (p.length<=5)&&p.all (λx=>decide (x.natAbs<=499))&&decide (p=p.dropLast++[1]))=true:=ag
 have h1:=dJ.mp h p hp;simp only[dZ,gB,dJ]at h1;exact⟨⟨h1.1.1.1,h1.1.1.2,h1.1.2⟩,p.dropLast,h1.2⟩
theorem cQ8 (f:∅)(z:Int): ∀n,∃k,ps f z (n+1)=f 0+z*k
 | 0=>⟨0,by show 0+f 0*z^0=_;rw[dN,kG,bT];lia⟩
 | n+1=>by
  obtain⟨k,hk⟩:=cQ8 f z n;refine⟨k+f (n+1)*z^n,?_⟩;show ps f z (n+1)+f (n+1)*z^(n+1)=_;rw[hk,fQ]
  grind
theorem aN0 (h:z∣a)(ha:a≠0):z.natAbs<=a.natAbs:=Nat.le_of_dvd ae (Int.natAbs_dvd_natAbs.mpr h)
theorem bY3:qW.all (λp=>decide (p.getD 0 0≠0)&&decide ((p.getD 0 0).natAbs<=10)&&(List.range 21).all λk=>decide (ev p ((k:Int)-10)≠0))=true:=ag
theorem cJ7:qW.all (λp=>decide (p.length≠5)||(decide ((p.getD 0 0).natAbs<=2)&&decide ((p.getD 2 0).natAbs<=1)&&decide ((p.getD 3 0).natAbs<=1)&&
  (List.range 5).all λv=>(List.range 5).all λw=>(List.range 7).all λu=>(List.range 9).all λs=>decide (p≠qq ((v:Int)-2) ((u:Int)-3) ((w:Int)-2) ((s:Int)-4))))=true:=ag
theorem dB8 {u:Int}(h1:(u+s).natAbs<=1)(h2:(u*s).natAbs<=5):u.natAbs<=3:=by
 refine yW λz=> ?_
 rcases(show 4<=u\/u<= -4 by lia)with c|c
 .have:4*3<=u*(-s):=zS c ae ac ae
  rw[Int.mul_neg]at this
  lia
 .have:4*3<=(-u)*s:=zS ae ae ac ae
  rw[Int.neg_mul]at this
  lia
theorem off {c:Nat}(h:z.natAbs<=c): ∃k:Nat,k<2*c+1/\(k:Int)-(c:Int)=z:=⟨(z+c).toNat,ae,ae⟩
theorem cY2: ∀p∈qW,¬Red p:=by
 intro p hp;have h1:=dJ.mp bY3 p hp;simp only[dZ,gB,dJ,d6]at h1;obtain⟨⟨a0,a1⟩,a2⟩:=h1;have lo:=(v9 p hp).ok.lo;rintro(⟨z,hz⟩| ⟨v,u,w,s,e⟩)
 .unfold ev at hz;obtain⟨k,hk⟩:=cQ8 (λj=>p.getD j 0) z (p.length-1)
  rw[show p.length-1+1=p.length by omega,hz]at hk
  have dv:z∣p.getD 0 0:=⟨-k,by rw[Int.mul_neg];omega⟩
  obtain⟨k,hk,ez⟩:=off (c:=10) (aG (aN0 dv a0) a1);refine a2 k hk ?_;rw[show((10:Nat):Int)=10 from rfl]at ez
  rw[ez];exact hz
 .have h2:=dJ.mp cJ7 p hp;have l5:p.length=5:=by rw[e];rfl
  rw[zR]at h2;have h3:=h2.resolve_left (by rw[gB];omega)
  simp only[dZ,gB,dJ,d6]at h3;obtain⟨⟨⟨b0,b2⟩,b3⟩,b4⟩:=h3;have e0:p.getD 0 0=v*w:=by rw[e];rfl
  have e2:p.getD 2 0=v+w+u*s:=by rw[e];rfl
  have e3:p.getD 3 0=u+s:=by rw[e];rfl
  have v2:=aN0 (z:=v) ⟨w,e0⟩ a0;have w2:=aN0 (z:=w) ⟨v,by rw[e0,eG]⟩ a0
  rw[e2]at b2;rw[e3]at b3;have ng: ∀{z:Int} {A:Nat},z.natAbs<=A->(-z).natAbs<=A:=λh=>by rw[lM];exact h
  have u3:=dB8 b3 (by
   have:=na2 (na2 b2<|ng<|aG v2 b0) (ng<|aG w2 b0);rw[show v+w+u*s+ -v+ -w=u*s by grind]at this
   exact this)
  obtain⟨kv,hv,ev⟩:=off (c:=2) (aG v2 b0);obtain⟨kw,hw,ew⟩:=off (c:=2) (aG w2 b0);obtain⟨ku,hu,eu⟩:=off u3;obtain⟨ks,hs,es⟩:=off (z:=s) (c:=4) (by
   have:=na2 b3 (ng u3);rw[show u+s+ -u=s by lia]at this
   exact this)
  refine b4 kv hv kw hw ku hu ks hs ?_
  subst ev ew eu es;exact e
theorem c82: ∀p∈qW,dB4 p:=by
 intro p hp;have h1:=dJ.mp c81 p hp;simp only[dZ,gB]at h1;exact⟨v9 p hp,cY2 p hp,h1.2,dB7 (v9 p hp) h1.1⟩
nonrec def pC (C:Addr)(p:List Int):D:= .obj C ["poly","degree","measure"] [aI p,.int<|(p.length:Int)-1,.int<|jG 4<|iP p]
nonrec def iE (C:Addr)(p:List Int):D:= .obj C ["poly","degree"] [aI p,.int<|(p.length:Int)-1]
theorem oK (h:ρ[i]? =some (~~~iE C p)):a12 "degree" (aC i) ρ Q=Q (.pu<|.int<|(p.length:Int)-1) ρ:=by
 unfold a12;rw[aR5 h];rfl
theorem cY3 (h:ρ[i]? =some (~~~iE C p)):a12 "poly" (aC i) ρ Q=Q (.pu<|aI p) ρ:=by
 unfold a12;rw[aR5 h];rfl
theorem bY4 (h:ρ[i]? =some (~~~pC C p)):a12 "degree" (aC i) ρ Q=Q (.pu<|.int<|(p.length:Int)-1) ρ:=by
 unfold a12;rw[aR5 h];rfl
theorem bD4 (h:ρ[i]? =some (~~~pC C p)):a12 "poly" (aC i) ρ Q=Q (.pu<|aI p) ρ:=by
 unfold a12;rw[aR5 h];rfl
nonrec def ttF (p:List Int)(n:Nat)(u:∅):∅:=λi=>(if i=0 then 0 else u (i-1))-u (n-1)*p.getD i 0
def a22:Φ:=λds Q=> ∃(C:Addr) (p:List Int) (n:Nat) (u:∅),ds=[iE C p,aI<|rwF n u]/\dG p/\p.length=n+1/\Q (.pu<|aI<|rwF n<|ttF p n u)
def aG1:US:=(cZ<|aR cJ<|a7 (eJ [2,0] [none,some 3,some 2,some 0,none] 4 (eZ<|a7 (a12 "degree"<|aC 0) aK) (cB 0) (λρ Q=>Q true ρ)<|uOp M.gSub (uIx (aS 1)<|aC 0)<|uOp fV (aC 2)<|uIx (uV<|a12 "poly"<|aC 3)<|aC 0) aK)
def aG2:US:=(aT (bM 3<|uOp fN (hJ<|a7 @0 aK)<|uSl (aS 1) kK<|nF<|nZ<|@1) aG1)
def a23:US:=(aT (bM 2<|uIx (aS 1)<|nZ<|@1) aG2)
theorem bY5: Ra a22 a23 ["r","x","l","m"]:=by
 rintro ds Q ⟨C,p,n,u,rfl,rp,hn,h⟩;have lo:=rp.ok.lo;have hi:=rp.ok.hi;unfold a23;simp only[aI];show(aT _ _:US) _ [~~~iE C p,~~~.tup ((rwF n u).map .int),none,none];rw[aO];left;rw[b13 ae]
 right;unfold aG2;rw[aO];left;have s1:HT.sIx n n (some<|-1)=n-1:=by
  show(if(-1:Int)<0 then(-1+(n:Int)).toNat else min (-1:Int).toNat n)=n-1
  rw[a8 ac]
  lia
 have ec:cutD ((rwF n u).map D.int) none (some<|-1)=(rwF (n-1) u).map D.int:=by
  unfold cutD;rw[bZ,HT.sIx_none,s1,List.drop_zero,zX,<-lN,bC0 _ _ _ ae]
 have em:[D.int 0]++(rwF (n-1) u).map D.int=(rwF n λi=>if i=0 then 0 else u (i-1)).map D.int:=by
  apply j9
  .simp[rwF];lia
  .intro k h1 h2;cases k with
   | zero=>simp[rwF]
   | succ k=>simp[rwF]
 rw[ec,em,bZ,bZ,HT.sIx_none,s1];refine⟨ac,ae,aG (show 0+1+(n-1)<=5 by lia) ac,?_⟩
 unfold aG1;rw[iI,d3,cQ]
 refine cL (t0:=0) n (λk=> .int (0+(k:Int))) [~~~iE C p,~~~.tup ((rwF n u).map .int),!u (n-1),some<|.pu<|.tup<|(rwF n λi=>if i=0 then 0 else u (i-1)).map .int] (λQ' q=> ?_) ae (λx l'=>[x,some<|.pu<|.tup<|(rwF n λi=>if i=0 then 0 else u (i-1)).map .int,!u (n-1),~~~iE C p,↑l']) none rfl (λ_ _ _=>rfl) (λ_ _=>bW _) (λ_ _ _ q=>q) (λ_ _ _=>rfl) (λk=> .int (ttF p n u k)) ?_ ?_
 .unfold eZ;rw[cQ,oK (C:=C) (p:=p) rfl];left;refine⟨⟨ae,ae⟩,?_⟩
  rw[show((p.length:Int)-1).toNat=n by lia]
  exact q
 .intro k l' Q' hk q;rw[bN];have e5:atI (p.map D.int) (k:Int)=some (.int<|p.getD k 0):=bK (by rw[bG,aP ae,aJ,aP ae];rfl)
  have e6:=cP rp.ok.small k;left;rw[iD hk];right;rw[cY3 (C:=C) (p:=p) rfl];simp only[aI];left;rw[e5];right;refine⟨cmR ae ae,?_⟩
  unfold ttF at q;rw[bN]at q;exact q
 .rw[iX];exact h
nonrec def itT (p:List Int)(n:Nat)(u:∅):Nat->∅
 | 0=>u
 | k+1=>ttF p n (itT p n u k)
def rM:Φ:=λds Q=> ∃(C:Addr) (p:List Int) (n:Nat) (u:∅),ds=[iE C p,aI<|rwF n u]/\dG p/\p.length=n+1/\Q (.pu<|.tup<|tbF n n<|itT p n u)
def a96:US:=(cZ<|aR cJ<|a7 (aC 2) aK)
def a97:US:=(aT (iM (eZ<|a7 (uOp M.gSub (a12 "degree"<|aC 0)<|@1) aK) (cB 3)<|a67 2<|aR a22<|a7 (aC 0)<|a7 (uIx (aS 2)<|nZ<|@1) aK) a96)
def xF:US:=(aT (bM 2<|eR<|a7 (aC 1) aK) a97)
theorem dB9 {m:Nat}(h:0<n):atI (tbF n m t) (-1)=some (aI<|rwF m<|t<|n-1):=by
 unfold L2.atI;have e:ixN (tbF n m t).length (-1)=some (n-1):=by
  unfold ixN;rw[bX3,a6 ac,a8 ae]
  congr 1
  lia
 rw[e];exact cP8 ae
theorem bL5: Ra rM xF ["r","x","t","s"]:=by
 rintro ds Q ⟨C,p,n,u,rfl,rp,hn,h⟩;have lo:=rp.ok.lo;have hi:=rp.ok.hi;unfold xF;show(aT _ _:US) _ [~~~iE C p,~~~aI (rwF n u),none,none];rw[aO];left;refine⟨ac,?_⟩
 unfold a97;rw[aO];refine bJ (n-1) (λk=> .int (0+(k:Int))) [~~~iE C p,~~~aI (rwF n u),↑(tbF 1 n (itT p n u)),none] (λQ' q=> ?_)
  (λk ρ=> ∃x,ρ=[~~~iE C p,~~~aI (rwF n u),↑(tbF (k+1) n (itT p n u)),x]) ⟨none,rfl⟩ ?_ ?_
 .unfold eZ;rw[cQ,bB8,oK (C:=C) (p:=p) rfl];left;refine⟨⟨ae,ae⟩,?_⟩
  rw[show((p.length:Int)-1-1).toNat=n-1 by lia]
  exact q
 .rintro k ρ hk ⟨x,rfl⟩;left;rw[dB9 ae,qD]
  right;refine⟨af,C,p,n,itT p n u k,rfl,rp,hn,?_⟩
  left
  rw[bX3];refine⟨aZ (show k+1<10 by lia) ac,!(0+(k:Int)),?_⟩
  have e:tbF (k+1) n (itT p n u)++[aI<|rwF n<|ttF p n<|itT p n u k]=tbF (k+1+1) n (itT p n u):=by
   rw[d93];unfold tbF;apply nQ;intro i hi';right
   by_cases c:i=k+1
   .rw[a8 c,c];rfl
   .rw[a6 c]
  rw[e]
 .rintro ρ ⟨x,rfl⟩;rw[show n-1+1=n by lia]
  right;unfold a96;left;exact h
nonrec def fZ (n:Nat)(f:∅):Int:=((List.range n).map f).sum
nonrec def dW (p:List Int)(n:Nat)(u v:∅):∅:=λj=>fZ n λi=>v i*itT p n u i j
theorem cY4 {a:Nat}(hp: ∀x∈p,x.natAbs<=499)(hu: ∀j,(u j).natAbs<=2^a)(j:Nat):(ttF p n u j).natAbs<=2^(a+9):=by
 unfold ttF;have h1:(if j=0 then(0:Int)else u (j-1)).natAbs<=2^a:=by
  split
  .simp
  .exact hu _
 have h2:(u (n-1)*p.getD j 0).natAbs<=2^a*499:=by rw[cH];exact eB (hu _) (cP hp j)
 have h3:=Int.natAbs_sub_le (if j=0 then(0:Int)else u (j-1)) (u (n-1)*p.getD j 0);rw[dP];have:(2:Nat)^9=512:=rfl
 lia
theorem tN {p:List Int}{n a:Nat}{u:∅}(hp: ∀x∈p,x.natAbs<=499)(hu: ∀j,(u j).natAbs<=2^a): ∀k j,(itT p n u k j).natAbs<=2^(a+9*k)
 | 0,j=>hu j
 | k+1,j=>by
  have:=cY4 (n:=n) hp (λj=>tN (n:=n) hp hu k j) j
  rw[zY,<-iB];exact this
def aN1:Φ:=λds Q=> ∃(C:Addr) (p:List Int) (n e:Nat) (u v:∅),ds=[iE C p,aI<|rwF n u,aI<|rwF n v]/\dG p/\p.length=n+1/\e<=8900/\(∀j,(u j).natAbs<=2^e)/\(∀j,(v j).natAbs<=2^e)/\Q (.pu<|aI<|rwF n<|dW p n u v)
def b19:US:=(cZ<|aR cJ<|a7 (eJ [3] [none,some 3,some 2,some 4,none] 4 (eZ<|a7 (aC 3) aK) (cB 0) (λρ Q=>Q true ρ)<|aR c46<|a7 (eJ [0] [none,some 2,some 3,some 0,none] 4 (eZ<|a7 (aC 1) aK) (cB 0) (λρ Q=>Q true ρ)<|uOp fV (uIx (aS 1)<|aC 0)<|uIx (uV<|uIx (aS 2)<|aC 0)<|aC 3) aK) aK)
def a98:US:=(aT (bM 4<|aR rM<|a7 (aC 0)<|a7 (aC 1) aK) b19)
def aN2:US:=(aT (bM 3<|a12 "degree"<|aC 0) a98)
theorem cJ8: Ra aN1 aN2 ["r","x","y","n","t"]:=by
 rintro ds Q ⟨C,p,n,e,u,v,rfl,rp,hn,he,hu,hv,h⟩;have lo:=rp.ok.lo;have hi:=rp.ok.hi;unfold aN2;show(aT _ _:US) _ [~~~iE C p,~~~aI (rwF n u),~~~aI (rwF n v),none,none];rw[aO,nK,oK (C:=C) (p:=p) rfl];show a98 _ [~~~iE C p,~~~aI (rwF n u),~~~aI (rwF n v),!((p.length:Int)-1),none];rw[show(p.length:Int)-1=(n:Int)by lia]
 unfold a98;rw[aO];left;refine⟨C,p,n,u,rfl,rp,hn,?_⟩;right;unfold b19;rw[iI,d3,cQ]
 refine cL (t0:=0) n (λk=> .int (0+(k:Int))) [~~~iE C p,~~~aI (rwF n u),~~~aI (rwF n v),!(n:Int),~~~.tup (tbF n n (itT p n u))] (λQ' q=> ?_) ae (λx l'=>[x,!(n:Int),~~~aI (rwF n v),~~~.tup (tbF n n (itT p n u)),↑l']) none rfl (λ_ _ _=>rfl) (λ_ _=>bW _) (λ_ _ _ q=>q) (λ_ _ _=>rfl) (λk=> .int (dW p n u v k)) ?_ ?_
 .left
  refine⟨⟨ae,ae⟩,?_⟩
  rw[bV];exact q
 .intro j l Q' hj q;rw[bN]at q⊢;rw[d3,cQ]
  refine cL (t0:=0) n (λk=> .int (0+(k:Int))) [!(j:Int),!(n:Int),~~~aI (rwF n v),~~~.tup (tbF n n (itT p n u)),↑l] (λQ' q=> ?_) ae (λx l'=>[x,~~~aI (rwF n v),~~~.tup (tbF n n (itT p n u)),!(j:Int),↑l']) none rfl (λ_ _ _=>rfl) (λ_ _=>bW _) (λ_ _ _ q=>q) (λ_ _ _=>rfl) (λi=> .int (v i*itT p n u i j)) ?_ ?_
  .left
   refine⟨⟨ae,ae⟩,?_⟩
   rw[bV];exact q
  .intro i l' Q' hi' q;rw[bN]at q⊢;simp only[aI];left;rw[iD hi',bX4 hi'];simp only[aI];rw[iD hj];right;have b:=tN (n:=n) rp.ok.small hu i j;exact⟨.inr ⟨Sm.pow (hv i) ae,Sm.pow b ae⟩,q⟩
  .rw[iX];left;rw[qR];exact q
 .rw[iX];exact h
nonrec def b47 (p:List Int)(n k:Nat)(f:∅):∅:=λm=>if k-n<=m/\m<k then f m-f k*p.getD (m-(k-n)) 0 else f m
nonrec def a59 (p:List Int)(n:Nat)(f:∅):Nat->∅
 | 0=>f
 | t+1=>b47 p n (2*n-2-t) (a59 p n f t)
theorem red2 (p:List Int)(u v:∅)(hu: ∀j,2<=j->u j=0)(hv: ∀j,2<=j->v j=0): ∀j,j<2->a59 p 2 (conv u v 2) 1 j=dW p 2 u v j
 | 0,_=>by simp[a59,b47,conv,shF,dW,fZ,itT,ttF,b9,hv];grind
 | 1,_=>by simp[a59,b47,conv,shF,dW,fZ,itT,ttF,b9,hv];grind
theorem red3 (p:List Int)(u v:∅)(hu: ∀j,3<=j->u j=0)(hv: ∀j,3<=j->v j=0): ∀j,j<3->a59 p 3 (conv u v 3) 2 j=dW p 3 u v j
 | 0,_=>by simp[a59,b47,conv,shF,dW,fZ,itT,ttF,b9,hv];grind
 | 1,_=>by simp[a59,b47,conv,shF,dW,fZ,itT,ttF,b9,hv];grind
 | 2,_=>by simp[a59,b47,conv,shF,dW,fZ,itT,ttF,b9,hv];grind
theorem red4 (p:List Int)(u v:∅)(hu: ∀j,4<=j->u j=0)(hv: ∀j,4<=j->v j=0): ∀j,j<4->a59 p 4 (conv u v 4) 3 j=dW p 4 u v j
 | 0,_=>by simp[a59,b47,conv,shF,dW,fZ,itT,ttF,b9,hv];grind
 | 1,_=>by simp[a59,b47,conv,shF,dW,fZ,itT,ttF,b9,hv];grind
 | 2,_=>by simp[a59,b47,conv,shF,dW,fZ,itT,ttF,b9,hv];grind
 | 3,_=>by simp[a59,b47,conv,shF,dW,fZ,itT,ttF,b9,hv];grind
def aS4:Φ:=λds Q=> ∃(p:List Int) (n e:Nat) (u v:∅),ds=[aI p,aI<|rwF n u,aI<|rwF n v]/\dG p/\p.length=n+1/\e<=50000/\(∀j,(u j).natAbs<=2^e)/\(∀j,(v j).natAbs<=2^e)/\(∀j,n<=j->u j=0)/\(∀j,n<=j->v j=0)/\Q (.pu<|aI<|rwF n<|dW p n u v)
def bR3:US:=(cZ<|aR cJ<|a7 (uSl (aS 4) kK<|nF<|aC 3) aK)
def bR4:US:=(aT (iM (c47<|a7 (uOp M.gSub (uOp fV @2<|aC 3)<|@2)<|a7 (uOp M.gSub (aC 3)<|@1)<|a7 (nZ<|@1) aK) (cB 7)<|iM (eZ<|a7 (aC 3) aK) (cB 6)<|aT (bM 8<|uOp fN (uOp M.gSub (aC 7)<|aC 3)<|aC 6)<|aQ1 4 (uOp M.gSub (uIx (aS 4)<|aC 8)<|uOp fV (uIx (aS 4)<|aC 7)<|uIx (aS 0)<|aC 6)<|aC 8) bR3)
def bR5:US:=(aT (iM (eZ<|a7 (aC 3) aK) (cB 5)<|iM (eZ<|a7 (aC 3) aK) (cB 6)<|aQ1 4 (uOp fN (uIx (aS 4)<|uOp fN (aC 5)<|aC 6)<|uOp bP4 (uIx (aS 1)<|aC 5)<|uIx (aS 2)<|aC 6)<|uOp fN (aC 5)<|aC 6) bR4)
def bR6:US:=(aT (bM 4<|uOp fV (eR<|a7 @0 aK)<|uOp M.gSub (uOp fV @2<|aC 3)<|@1) bR5)
def bD5:US:=(aT (bM 3<|uOp M.gSub (jU<|aS 0)<|@1) bR6)
theorem bY6 {v:∅}(n2:2<=n)(n4:n<=4)(hu: ∀j,n<=j->u j=0)(hv: ∀j,n<=j->v j=0):rwF n (a59 p n (conv u v n)<|n-1)=rwF n (dW p n u v):=by
 refine gG λj hj=> ?_
 rcases(show n=2\/n=3\/n=4 by lia)with rfl|rfl|rfl
 .exact red2 p u v hu hv j hj
 .exact red3 p u v hu hv j hj
 .exact red4 p u v hu hv j hj
nonrec def bL6 (p:List Int)(n k j:Nat)(f:∅):∅:=λm=>if k-n<=m/\m<k-n+j then f m-f k*p.getD (m-(k-n)) 0 else f m
theorem dC0: Ra aS4 bD5 ["p","x","y","n","r","i","j","k","a"]:=by
 rintro ds Q ⟨p,n,e,u,v,rfl,rp,hn,he,hu,hv,uz,vz,h⟩;have lo:=rp.ok.lo;have hi:=rp.ok.hi;unfold bD5;simp only[aI];show(aT _ _:US) _ [~~~.tup (p.map .int),~~~.tup ((rwF n u).map .int),~~~.tup ((rwF n v).map .int),none,none,none,none,none,none];rw[aO];left;rw[aH,show(p.length:Int)-1=(n:Int)by lia]
 unfold bR6;rw[aO];left;rw[show 2*(n:Int)-1=((2*n-1:Nat):Int)by lia,bV,bQ3]
 refine⟨ac,cmL ac ac,⟨ae,ae,aG (show 1*(2*n-1)<=300 by lia) ac⟩,?_⟩
 unfold bR5;rw[aO];refine bJ n (λi=> .int (0+i)) [~~~.tup (p.map .int),~~~.tup ((rwF n u).map .int),~~~.tup ((rwF n v).map .int),!(n:Int),some<|.ow<|(rwF (2*n-1) λ_=>0).map .int,none,none,none,none] (λQ' q=> ?_)
  (λi ρ=> ∃x y,ρ=[~~~.tup (p.map .int),~~~.tup ((rwF n u).map .int),~~~.tup ((rwF n v).map .int),!(n:Int),↑((rwF (2*n-1)<|conv u v i).map .int),x,y,none,none]) ⟨none,none,rfl⟩ ?_ ?_
 .left
  refine⟨⟨ae,ae⟩,?_⟩
  rw[bV];exact q
 .rintro i ρ hi' ⟨x,y,rfl⟩;rw[bN];refine⟨af,?_⟩
  show(iM _ _ _:US) _ [~~~.tup (p.map .int),~~~.tup ((rwF n u).map .int),~~~.tup ((rwF n v).map .int),!(n:Int),↑((rwF (2*n-1)<|conv u v i).map .int),!(i:Int),y,none,none]
  refine bJ n (λj=> .int (0+j)) [~~~.tup (p.map .int),~~~.tup ((rwF n u).map .int),~~~.tup ((rwF n v).map .int),!(n:Int),↑((rwF (2*n-1)<|conv u v i).map .int),!(i:Int),y,none,none] (λQ' q=> ?_)
   (λj ρ=> ∃y,ρ=[~~~.tup (p.map .int),~~~.tup ((rwF n u).map .int),~~~.tup ((rwF n v).map .int),!(n:Int),some<|.ow<|(rwF (2*n-1) λm=>if m<i+j then conv u v (i+1) m else conv u v i m).map .int,!(i:Int),y,none,none]) ⟨y,by rw[cJ2]⟩ ?_ ?_
  .left
   refine⟨⟨ae,ae⟩,?_⟩
   rw[bV];exact q
  .rintro j ρ hj ⟨y,rfl⟩;rw[bN];have hij:i+j<2*n-1:=ae
   have c2:(i:Int)+(j:Int)=((i+j:Nat):Int):=ae
   left
   rw[c2,iD hij,iD hi',iD hj];right;rw[bZ,bX5 hij,a6<|show ¬i+j<i+j by lia]
   refine⟨af,⟨Sb.pow (hu i) ae,Sb.pow (hv j) ae⟩,!(j:Int),?_⟩
   rw[b72 hij,cJ4]
  .rintro ρ ⟨y,rfl⟩;rw[cJ3 vz];exact⟨_,_,rfl⟩
 .rintro ρ ⟨x,y,rfl⟩;right;unfold bR4;rw[aO];refine bJ (n-1) (λt=> .int ((2*n-2:Nat)-(t:Int))) [~~~.tup (p.map .int),~~~.tup ((rwF n u).map .int),~~~.tup ((rwF n v).map .int),!(n:Int),↑((rwF (2*n-1)<|conv u v n).map .int),x,y,none,none] (λQ' q=> ?_)
   (λt ρ=> ∃y z w,ρ=[~~~.tup (p.map .int),~~~.tup ((rwF n u).map .int),~~~.tup ((rwF n v).map .int),!(n:Int),↑((rwF (2*n-1)<|a59 p n (conv u v n) t).map .int),x,y,z,w]) ⟨y,none,none,rfl⟩ ?_ ?_
  .left
   refine⟨cmL ac ac,trivial,⟨ae,ae,ae,ae⟩,?_⟩
   rw[show(2*(n:Int)-2-((n:Int)-1)).toNat=n-1 by lia,show 2*(n:Int)-2=((2*n-2:Nat):Int)by lia]
   exact q
  .rintro t ρ ht ⟨y,z,w,rfl⟩;obtain⟨k,hk⟩: ∃k:Nat,k=2*n-2-t:=⟨_,rfl⟩;rw[show((2*n-2:Nat):Int)-(t:Int)=(k:Int)by lia]
   generalize hf:a59 p n (conv u v n) t=f;refine⟨af,?_⟩
   show(iM _ _ _:US) _ [~~~.tup (p.map .int),~~~.tup ((rwF n u).map .int),~~~.tup ((rwF n v).map .int),!(n:Int),↑((rwF (2*n-1) f).map .int),x,y,!(k:Int),w]
   refine bJ n (λj=> .int (0+j)) [~~~.tup (p.map .int),~~~.tup ((rwF n u).map .int),~~~.tup ((rwF n v).map .int),!(n:Int),↑((rwF (2*n-1) f).map .int),x,y,!(k:Int),w] (λQ' q=> ?_)
    (λj ρ=> ∃y w,ρ=[~~~.tup (p.map .int),~~~.tup ((rwF n u).map .int),~~~.tup ((rwF n v).map .int),!(n:Int),↑((rwF (2*n-1)<|bL6 p n k j f).map .int),x,y,!(k:Int),w]) ⟨y,w,?_⟩ ?_ ?_
   .left
    refine⟨⟨ae,ae⟩,?_⟩
    rw[bV];exact q
   .have e0:bL6 p n k 0 f=f:=funext λm=>by unfold bL6;rw[a6 ae]
    rw[e0]
   .rintro j ρ hj ⟨y,w,rfl⟩;rw[bN];have hat:k-n+j<2*n-1:=ae
    have hkk:k<2*n-1:=ae
    have c2:(k:Int)-(n:Int)+(j:Int)=((k-n+j:Nat):Int):=ae
    have e5:atI (p.map D.int) (j:Int)=some (.int<|p.getD j 0):=bK (by rw[bG,aP ae,aJ,aP ae];rfl)
    have e6:=cP rp.ok.small j;left;rw[c2,iD hat,iD hkk,e5];right;rw[bZ,bX5 hat];refine⟨af,cmR ae ae,!(j:Int),!((k-n+j:Nat):Int),?_⟩
    rw[b72 hat];have e7:(λx=>if x=k-n+j then bL6 p n k j f (k-n+j)-bL6 p n k j f k*p.getD j 0 else bL6 p n k j f x)=bL6 p n k (j+1) f:=funext λm=>by
     unfold bL6
     by_cases c:m=k-n+j
     .rw[a8 c,a6 ae,a6 ae,a8 ae,c,show k-n+j-(k-n)=j by lia]
     .rw[a6 c]
      by_cases c3:k-n<=m/\m<k-n+j
      .rw[a8 c3,a8 ae]
      .rw[a6 c3,a6 ae]
    rw[e7]
   .rintro ρ ⟨y,w,rfl⟩;refine⟨y,!(k:Int),w,?_⟩;have e8:bL6 p n k n f=a59 p n (conv u v n) (t+1):=by
     show _=b47 p n (2*n-2-t) (a59 p n (conv u v n) t)
     rw[hf,<-hk];unfold bL6 b47
     funext m
     rw[show k-n+n=k by lia]
    rw[e8]
  .rintro ρ ⟨y,z,w,rfl⟩;right;unfold bR3;left;rw[bB4 _ _ (by rw[bZ];lia),<-lN,bC0 _ _ _ ae,bY6 ae ae uz vz]
   exact h
nonrec def cz (n:Nat)(u:∅):∅:=λj=>if j<n then u j else 0
theorem bY7 (n:Nat)(u:∅):rwF n (cz n u)=rwF n u:=gG λi hi=>a8 hi
theorem cJ9 {j:Nat}(h:n<=j):cz n u j=0:=a6 ae
theorem bD6 (h: ∀j,(u j).natAbs<=2^e)(j:Nat):(cz n u j).natAbs<=2^e:=by
 unfold cz;split
 .exact h j
 .exact dO _
nonrec def jH (k:Int):∅:=λj=>if j=0 then k else 0
theorem dO6 (k:Int)(h:1<=n):k::replicate (n-1) 0=rwF n (jH k):=by
 apply j9
 .rw[nM,dI,l7];lia
 .intro i h1 h2;simp only[rwF,List.getElem_map,List.getElem_range]
  match i with
  | 0=>rfl
  | i+1=>rw[List.getElem_cons_succ,List.getElem_replicate];rfl
def vA:Φ:=λds Q=> ∃(C:Addr) (p:List Int) (n:Nat) (k:Int),ds=[iE C p,.int k]/\dG p/\p.length=n+1/\Q (.pu<|aI<|rwF n<|jH k)
def vB:US:=(cZ<|aR wH<|a7 (hJ<|a7 (aC 1) aK)<|a7 (a12 "degree"<|aC 0) aK)
theorem bD7: Ra vA vB ["r","k"]:=by
 rintro ds Q ⟨C,p,n,k,rfl,rp,hn,h⟩;have lo:=rp.ok.lo;have hi:=rp.ok.hi;unfold vB;show(cZ _:US) _ [~~~iE C p,!k];left;rw[oK (C:=C) (p:=p) rfl];left;refine⟨ac,[k],(n:Int),by rw[hn];congr 3;lia,af,ae,ae,?_⟩
 rw[show((n:Int)-(([k]:List Int).length:Int)).toNat=n-1 by rw[aJ5];lia,List.singleton_append,dO6 k ae]
 exact h
nonrec def vC (p:List Int)(n:Nat)(u:∅):Nat->∅
 | 0=>jH 1
 | k+1=>cz n (dW p n (vC p n u k) u)
theorem bD8 {a b:Nat}{v:∅}(n4:n<=4)(hp: ∀x∈p,x.natAbs<=499)(hu: ∀j,(u j).natAbs<=2^a)(hv: ∀j,(v j).natAbs<=2^b)(j:Nat):(dW p n u v j).natAbs<=2^(a+b+29):=by
 have h1: ∀i,i<n->(v i*itT p n u i j).natAbs<=2^(a+b+27):=by
  intro i hi;rw[cH];refine aG (eB (hv i)<|tN (n:=n) hp hu i j) ?_;rw[<-dP];exact cT ac ae
 have h2:=oH (λi=>v i*itT p n u i j) _ n h1
 have h3:(dW p n u v j).natAbs<=n*2^(a+b+27):=h2;have h4:n*2^(a+b+27)<=4*2^(a+b+27):=lB _ n4;have h5:(2:Nat)^(a+b+29)=2^(a+b+27)*4:=by rw[show a+b+29=a+b+27+2 by lia,dP]
 lia
theorem aN3 {p:List Int}{n:Nat}{u:∅}(n4:n<=4)(hp: ∀x∈p,x.natAbs<=499)(hu: ∀j,(u j).natAbs<=2^400): ∀k j,(vC p n u k j).natAbs<=2^(k*429)
 | 0,j=>by
  show(if j=0 then(1:Int)else 0).natAbs<=_
  split<;>simp
 | k+1,j=>bD6 (λj=>by
  have:=bD8 n4 hp (λj=>aN3 n4 hp hu k j) hu j
  rw[show(k+1)*429=k*429+400+29 by lia]
  exact this) j
theorem dC1 (k:Nat):rwF n (dW p n (vC p n u k) u)=rwF n (vC p n u<|k+1):=(bY7 n _).symm
def aN4:Φ:=λds Q=> ∃(C:Addr) (p:List Int) (n:Nat) (u:∅) (k:Nat),ds=[iE C p,aI<|rwF n u,.int (k:Int)]/\dG p/\p.length=n+1/\k<=20/\(∀j,(u j).natAbs<=2^400)/\Q (.pu<|aI<|rwF n<|vC p n u k)
def b20:US:=(rP 3)
def b21:US:=(aT (iM (eZ<|a7 (aC 2) aK) (cB 4)<|bM 3<|aR aN1<|a7 (aC 0)<|a7 (aC 3)<|a7 (aC 1) aK) b20)
def aN5:US:=(aT (bM 3<|aR vA<|a7 (aC 0)<|a7 @1 aK) b21)
theorem cK0: Ra aN4 aN5 ["r","x","k","m","s"]:=by
 rintro ds Q ⟨C,p,n,u,k,rfl,rp,hn,hk,hu,h⟩;have lo:=rp.ok.lo;have hi:=rp.ok.hi;unfold aN5;show(aT _ _:US) _ [~~~iE C p,~~~aI (rwF n u),!(k:Int),none,none];rw[aO];left;refine⟨C,p,n,1,rfl,rp,hn,?_⟩;try right
 unfold b21;rw[aO];refine bJ k (λi=> .int (0+(i:Int))) [~~~iE C p,~~~aI (rwF n u),!(k:Int),~~~aI (rwF n (vC p n u 0)),none] (λQ' q=> ?_)
  (λi ρ=> ∃x,ρ=[~~~iE C p,~~~aI (rwF n u),!(k:Int),~~~aI (rwF n (vC p n u i)),x]) ⟨none,rfl⟩ ?_ ?_
 .left
  refine⟨⟨ae,ae⟩,?_⟩
  rw[bV];exact q
 .rintro i ρ hi' ⟨x,rfl⟩;left;refine⟨ac,C,p,n,i*429+400,vC p n u i,u,rfl,rp,hn,ae,λj=>aG (aN3 ae rp.ok.small hu i j) (cT ac ae),λj=>aG (hu j) (cT ac ae),?_⟩
  rw[dC1];exact⟨_,rfl⟩
 .rintro ρ ⟨x,rfl⟩;unfold b20;left;exact h
nonrec def tbL (n:Nat)(t:Nat->∅):List (List Int):=(List.range n).map λi=>rwF n (t i)
theorem bD9 (T:Nat->∅):jG 4 (tbL 2 T)=1*T 0 0*(T 1 1)+(-1*T 1 0*(T 0 1)+0):=by kernel_rfl
theorem bE0 (T:Nat->∅):jG 4 (tbL 3 T)=1*T 0 0*(1*T 1 1*(T 2 2)+(-1*T 2 1*(T 1 2)+0))+(-1*T 1 0*(1*T 0 1*(T 2 2)+(-1*T 2 1*(T 0 2)+0))+(1*T 2 0*(1*T 0 1*(T 1 2)+(-1*T 1 1*(T 0 2)+0))+0)):=by kernel_rfl
theorem bE1 (T:Nat->∅):jG 4 (tbL 4 T)=1*T 0 0*(1*T 1 1*(1*T 2 2*(T 3 3)+(-1*T 3 2*(T 2 3)+0))+(-1*T 2 1*(1*T 1 2*(T 3 3)+(-1*T 3 2*(T 1 3)+0))+(1*T 3 1*(1*T 1 2*(T 2 3)+(-1*T 2 2*(T 1 3)+0))+0)))+(-1*T 1 0*(1*T 0 1*(1*T 2 2*(T 3 3)+(-1*T 3 2*(T 2 3)+0))+(-1*T 2 1*(1*T 0 2*(T 3 3)+(-1*T 3 2*(T 0 3)+0))+(1*T 3 1*(1*T 0 2*(T 2 3)+(-1*T 2 2*(T 0 3)+0))+0)))+(1*T 2 0*(1*T 0 1*(1*T 1 2*(T 3 3)+(-1*T 3 2*(T 1 3)+0))+(-1*T 1 1*(1*T 0 2*(T 3 3)+(-1*T 3 2*(T 0 3)+0))+(1*T 3 1*(1*T 0 2*(T 1 3)+(-1*T 1 2*(T 0 3)+0))+0)))+(-1*T 3 0*(1*T 0 1*(1*T 1 2*(T 2 3)+(-1*T 2 2*(T 1 3)+0))+(-1*T 1 1*(1*T 0 2*(T 2 3)+(-1*T 2 2*(T 0 3)+0))+(1*T 2 1*(1*T 0 2*(T 1 3)+(-1*T 1 2*(T 0 3)+0))+0)))+0))):=by kernel_rfl
nonrec def nrm (p:List Int)(n:Nat)(u:∅):Int:=jG 4 (tbL n<|itT p n u)
theorem bR7 {v:∅}(n2:2<=n)(n4:n<=4)(hu: ∀j,n<=j->u j=0)(hv: ∀j,n<=j->v j=0):rwF n (dW p n u v)=rwF n (dW p n v u):=by
 rw[<-bY6 n2 n4 hu hv,<-bY6 n2 n4 hv hu,show conv u v n=conv v u n from funext λm=>bQ7 hu hv m]
nonrec def tnF:∅:=λj=>if j=1 then 1 else 0
theorem cQ9 {j:Nat}(n2:2<=n)(h:n<=j):tnF j=0:=a6 ae
theorem cY5 (e j:Nat):(tnF j).natAbs<=2^e:=aG (show(tnF j).natAbs<=1 by unfold tnF;split<;>decide) aL1
theorem tim_tn (n2:2<=n)(n4:n<=4)(j:Nat):dW p n u tnF j=ttF p n u j:=by
 show((List.range n).map λi=>tnF i*itT p n u i j).sum=ttF p n u j
 match n,n2,n4 with
 | 2,_,_=>simp[b9,tnF,itT]
 | 3,_,_=>simp[b9,tnF,itT]
 | 4,_,_=>simp[b9,tnF,itT]
theorem ttF_cz (n1:1<=n){j:Nat}(hj:j<n):ttF p n (cz n u) j=ttF p n u j:=by
 unfold ttF cz;rw[a8<|show n-1<n by omega,a8<|show j-1<n by omega]
theorem tn_row (n2:2<=n)(n4:n<=4):rwF n (dW p n (cz n u) tnF)=rwF n (ttF p n u):=gG λj hj=>by rw[tim_tn n2 n4,ttF_cz ae hj]
theorem nt_row (n2:2<=n)(n4:n<=4):rwF n (dW p n tnF<|cz n u)=rwF n (ttF p n u):=by
 rw[bR7 n2 n4 (λj hj=>cQ9 n2 hj) λj hj=>cJ9 hj,tn_row n2 n4]
theorem cY6 {s:Nat}(c:Nat)(hz:z=(c:Int))(n:Nat)(hn:n<=4)(hs:ρ[s]? =some (!(n:Int)))(h:Q (.pu<|aI<|rwF n λk=>if k=c then 1 else 0) ρ) :
  aR cJ (a7 (eJ [] [none,none] 1 (eZ<|a7 (aC s) aK) (cB 0) (λρ Q=>Q true ρ)<|aR bV3<|a7 (uOp (kR false) (aC 0)<|uC<|.int z) aK) aK) ρ Q:=by
 subst hz;rw[d3,cQ];refine cL (t0:=0) n (λk=> .int (0+(k:Int))) ρ (λQ' q=> ?_) ae (λx l'=>[x,↑l']) none rfl (λ_ _ _=>rfl) (λ_ _=>bW _) (λ_ _ _ q=>q) (λ_ _ _=>rfl) (λk=> .int (if k=c then 1 else 0)) ?_ ?_
 .unfold eZ;rw[cQ,aR5 hs];left;refine⟨⟨ae,ae⟩,?_⟩
  rw[bV];exact q
 .intro k l' Q' hk q';rw[bN]at q'⊢;left
  by_cases e:k=c
  .subst e
   exists q'
  .rw[a6 e]at q';rw[a6<|show ¬(k:Int)=(c:Int)by lia]
   exact q'
 .rw[iX];exact h
theorem dC2 (i n:Nat)(t:Nat->∅):tbF i n t++[aI<|rwF n<|t i]=tbF (i+1) n t:=by
 unfold tbF;rw[b9,bX];rfl
def bE2:Φ:=λds Q=> ∃(p:List Int) (n e:Nat) (u:∅),ds=[aI p,aI<|rwF n u]/\dG p/\p.length=n+1/\e<=49000/\(∀j,(u j).natAbs<=2^e)/\Q (.ow<|tbF n n<|itT p n u)
def bR8:US:=(rP 4)
def bR9:US:=(aT (iM (eZ<|a7 (aC 2) aK) (cB 6)<|aT (a67 4<|aC 5)<|bM 5<|aR aS4<|a7 (aC 0)<|a7 (aC 3)<|a7 (aC 5) aK) bR8)
def bS0:US:=(aT (bM 5<|aR cJ<|a7 (aC 1) aK) bR9)
def aY0:US:=(aT (bM 4<|eR aK) bS0)
def aY1:US:=(aT (bM 3<|aR cJ<|a7 (eJ [] [none,none] 1 (eZ<|a7 (aC 2) aK) (cB 0) (λρ Q=>Q true ρ)<|aR bV3<|a7 (uOp (kR false) (aC 0)<|@1) aK) aK) aY0)
def bE3:US:=(aT (bM 2<|uOp M.gSub (jU<|aS 0)<|@1) aY1)
theorem dC3: Ra bE2 bE3 ["p","x","m","t","r","w","k"]:=by
 rintro ds Q ⟨p,n,e,u,rfl,rp,hn,he,hu,h⟩;have lo:=rp.ok.lo;have hi:=rp.ok.hi;have n2:2<=n:=ae
 have n4:n<=4:=ae
 unfold bE3;show(aT _ _:US) _ [~~~.tup (p.map .int),~~~aI (rwF n u),none,none,none,none,none];rw[aO];left;rw[aH,show(p.length:Int)-1=(n:Int)by lia]
 change aY1 _ [~~~aI p,~~~aI (rwF n u),!(n:Int),none,none,none,none]
 unfold aY1;rw[aO,nK];refine cY6 1 rfl n n4 rfl ?_;show aY0 _ [~~~aI p,~~~aI (rwF n u),!(n:Int),~~~aI (rwF n tnF),none,none,none];unfold aY0;rw[aO];left;refine⟨ac,?_⟩
 unfold bS0;rw[aO];simp only[aI];left;unfold bR9;rw[aO];refine bJ n (λi=> .int (0+(i:Int))) [~~~aI p,~~~aI (rwF n u),!(n:Int),~~~aI (rwF n tnF),↑(tbF 0 n (itT p n u)),~~~aI (rwF n (itT p n u 0)),none] (λQ' q=> ?_)
  (λi ρ=> ∃x,ρ=[~~~aI p,~~~aI (rwF n u),!(n:Int),~~~aI (rwF n tnF),↑(tbF i n (itT p n u)),~~~aI (rwF n (itT p n u i)),x]) ⟨none,rfl⟩ ?_ ?_
 .left
  refine⟨⟨ae,ae⟩,?_⟩
  rw[bV];exact q
 .rintro i ρ hi' ⟨x,rfl⟩;left;rw[bX3];refine⟨ac,aZ (show i<10 by lia) ac,p,n,e+27,tnF,cz n<|itT p n u i,?_,rp,hn,ae,λj=>cY5 _ j,?_,λj hj=>cQ9 n2 hj,λj hj=>cJ9 hj,?_⟩
  .rw[bY7]
  .exact bD6 λj=>aG (tN (n:=n) rp.ok.small hu i j) (cT ac ae)
  .rw[nt_row n2 n4,dC2];exact⟨_,rfl⟩
 .rintro ρ ⟨x,rfl⟩;right;unfold bR8;left;exact h
theorem bE4 (row:List Int)(s:Int): ∀k,(aX6 row s k).length=row.length
 | 0=>rfl
 | k+1=>by unfold aX6;rw[dM];exact bE4 row s k
theorem cR0 (p:List Int)(s:Int): ∀k,(shK p s k).length=p.length
 | 0=>rfl
 | k+1=>by unfold shK;rw[bE4];exact cR0 p s k
theorem dC4 (h:k<n):ixN n (k:Int)=some k:=by
 unfold ixN;rw[a8 ae,a8 ae,bV]
theorem dC5 (l:List Int)(k:Nat)(x:Int):(l.map D.int).set k (.int x)=(l.set k x).map D.int:=by rw[map_set]
def a24:Φ:=λds Q=> ∃(p:List Int) (s:Int),ds=[aI p,.int s]/\3<=p.length/\p.length<=5/\s.natAbs<=3/\Q (.pu<|aI<|shK p s<|p.length-1)
def aN6:US:=(aT (bM 2<|aR aQ3<|a7 (aC 0) aK)<|aT (iM (eZ<|a7 (uOp M.gSub (jU<|aS 2)<|@1) aK) (cB 3)<|iM (c47<|a7 (uOp M.gSub (jU<|aS 2)<|@2)<|a7 (uOp M.gSub (aC 3)<|@1)<|a7 (nZ<|@1) aK) (cB 4)<|aQ1 2 (uOp fN (uIx (aS 2)<|aC 4)<|uOp fV (aC 1)<|uIx (aS 2)<|uOp fN (aC 4)<|@1)<|aC 4)<|cZ<|aR cJ<|a7 (aC 2) aK)
theorem cK1: Ra a24 aN6 ["p","s","r","l","a"]:=by
 rintro ds Q ⟨p,s,rfl,h3,h5,hs,h⟩;have lp:(p.map D.int).length=p.length:=aH _;unfold aN6;show(aT _ _:US) _ [~~~.tup (p.map .int),!s,none,none,none];left;refine bJ (p.length-1) (λi=> .int (0+i)) [~~~.tup (p.map .int),!s,↑(p.map .int),none,none] ?_
  (λi ρ=> ∃x y,ρ=[~~~.tup (p.map .int),!s,↑((shK p s i).map .int),x,y]) ⟨none,none,rfl⟩ ?_ ?_
 .intro Q' q;simp only[eZ];left;rw[lp];refine⟨ae,?_⟩
  rw[show((p.length:Int)-1).toNat=p.length-1 by lia]
  exact q
 .rintro i ρ hi ⟨x,y,rfl⟩;have lk:=cR0 p s i;have e1:shK p s (i+1)=aX6 (shK p s i) s (p.length-1-i):=rfl;rw[e1];generalize shK p s i=row at lk;have lrow:(row.map D.int).length=row.length:=aH _;left;refine⟨ac,?_⟩
  refine bJ (p.length-1-i) (λk=> .int ((p.length:Int)-2-k)) [~~~.tup (p.map .int),!s,↑(row.map .int),!(0+(i:Int)),y] ?_
   (λk ρ=> ∃y,ρ=[~~~.tup (p.map .int),!s,↑((aX6 row s k).map .int),!(0+(i:Int)),y]) ⟨y,rfl⟩ ?_ ?_
  .intro Q' q;simp only[c47];left;rw[lrow,lk];refine⟨trivial,ae,?_⟩
   rw[show((p.length:Int)-2-(0+(i:Int)-1)).toNat=p.length-1-i by lia]
   exact q
  .rintro k ρ hk ⟨y,rfl⟩;have l2:=bE4 row s k;left;refine⟨ac,?_⟩
   have a1:(p.length:Int)-2-(k:Int)=((p.length-2-k:Nat):Int):=ae
   have a2:((p.length-2-k:Nat):Int)+1=((p.length-1-k:Nat):Int):=ae
   rw[a1,a2,a82<|show p.length-2-k< (aX6 row s k).length by lia,a82<|show p.length-1-k< (aX6 row s k).length by lia]
   right;rw[dC4 (show p.length-2-k< ((aX6 row s k).map D.int).length by rw[aH];lia)]
   refine⟨cmL ae ae,!((p.length-2-k:Nat):Int),?_⟩
   rw[dC5];rw[<-lk];rfl
  .rintro ρ ⟨y,rfl⟩;exact⟨_,_,rfl⟩
 .rintro ρ ⟨x,y,rfl⟩;left;exact h
def xG:Φ:=λds Q=> ∃c:Int,ds=[.int c]/\ ∀p∈qW,Q (.pu<|aI p)
def a99:US:=(cZ<|uIx (aS 1)<|uOp oS (aR a79<|a7 (aC 0)<|a7 @3<|a7 @998244353 aK)<|@12)
def aA0:US:=(aT (bM 1<|uOp fN (aC 1)<|eR<|a7 (hJ<|a7 @1<|a7 @0<|a7 @0<|a7 @0<|a7 @1 aK)<|a7 (hJ<|a7 (nZ<|@1)<|a7 (nZ<|@1)<|a7 @0<|a7 @0<|a7 @1 aK)<|a7 (hJ<|a7 @1<|a7 @1<|a7 @1<|a7 @1<|a7 @1 aK)<|a7 (hJ<|a7 (nZ<|@2)<|a7 @0<|a7 @0<|a7 @0<|a7 @1 aK)<|a7 (hJ<|a7 @1<|a7 @0<|a7 (nZ<|@1)<|a7 @0<|a7 @1 aK) aK) a99)
def xH:US:=(aT (bM 1<|eR<|a7 (hJ<|a7 @5<|a7 @0<|a7 @1 aK)<|a7 (hJ<|a7 (nZ<|@10)<|a7 @0<|a7 @1 aK)<|a7 (hJ<|a7 @6<|a7 @1<|a7 @1 aK)<|a7 (hJ<|a7 (nZ<|@3)<|a7 @0<|a7 @1 aK)<|a7 (hJ<|a7 (nZ<|@1)<|a7 (nZ<|@1)<|a7 @0<|a7 @1 aK)<|a7 (hJ<|a7 (nZ<|@2)<|a7 @0<|a7 @0<|a7 @1 aK)<|a7 (hJ<|a7 (nZ<|@1)<|a7 @4<|a7 @0<|a7 @1 aK) aK) aA0)
theorem dC6 {k:Int}(h0:0<=k)(h1:k<12): ∃p∈qW,atI (qW.map aI) k=some (aI p):=by
 obtain⟨i,rfl⟩: ∃i:Nat,k=(i:Int):=⟨k.toNat,ae⟩
 have hi:i<qW.length:=show i<12 by lia
 exact⟨qW[i],cV hi,bK (by rw[bG,aP hi];rfl)⟩
theorem bL7: Ra xG xH ["c","k"]:=by
 rintro ds Q ⟨c,rfl,h⟩;unfold xH;show(aT _ _:US) _ [!c,none];rw[aO];left;refine⟨ac,ac,ac,ac,ac,ac,ac,ac,?_⟩
 unfold aA0;rw[aO];left;refine⟨ac,ac,ac,ac,ac,ac,ac,?_⟩
 unfold a99;left;refine⟨c,3,998244353,rfl,ac,ac,ac,λr r0 r1=> ?_⟩
 left
 refine⟨ac,?_⟩
 rw[dE _ ac]
 obtain⟨p,hp,e⟩:=dC6 (d5 r<|show(12:Int)≠0 by decide) (d4 r<|show(0:Int)<12 by decide)
 have e': ∀l:List D,l=qW.map aI->(match atI l (r%12)with|some x=>Q (.pu x)|none=>False):=λl hl=>by
  rw[hl,e];exact h p hp
 exact e' _ rfl
def bY8:Φ:=λds Q=> ∃c q:Int,ds=[.int c,.int q]/\0<q/\ ∀p,dG p->Q (.pu<|aI p)
def bY9:Φ:=λds Q=> ∃(ns:List Int) (k:Nat) (q:Int),ds=[.rol<|ns.map .int,.int (k:Int),.int q]/\ns.length<=63/\k<=1000/\0<q/\ ∀C p,dG p->Q (.pu<|pC C p)
def bE5:US:=(rP 3)
def c83:US:=(aT (iL (fG<|aW8 false<|aC 3) (bM 3<|c63 ["poly","degree","measure"] yI<|a7 (aR xG<|a7 (aR a13<|a7 (aC 0)<|a7 (aC 1) aK) aK) aK) fJ) bE5)
def c84:US:=(aT (iM (eZ<|a7 @3 aK) (cB 4)<|iL (fG<|aW8 false<|aC 3) (d86 3 ["poly","degree","measure"] yI (a7 (aR bY8<|a7 (aR a13<|a7 (aC 0)<|a7 (uOp fN (aC 1)<|aC 4) aK)<|a7 (aC 2) aK) aK) ["FallsApart","TooGreat","NotWhole"]<|bM 3<|uC .non) fJ) c83)
def bZ0:US:=(aT (bM 3<|uC .non) c84)
theorem dO7: Ra bY9 bZ0 ["s","k","q","f","j"]:=by
 rintro ds Q ⟨ns,k,q,rfl,hl,hk,hq,h⟩;unfold bZ0;show(aT _ _:US) _ [~~~.rol (ns.map .int),!(k:Int),!q,none,none];rw[aO];left;unfold c84;rw[aO];refine bJ 3 (λi=> .int (0+i)) [~~~.rol (ns.map .int),!(k:Int),!q,~~~.non,none] (λQ' q=> ?_)
  (λi ρ=> ∃d x,ρ=[~~~.rol (ns.map .int),!(k:Int),!q,~~~d,x]/\(d= .non\/ ∃C p,dG p/\d=pC C p)) ⟨.non,none,rfl,.inl rfl⟩ ?_ ?_
 .left
  exact⟨ac,q⟩
 .rintro i ρ hi ⟨d,x,rfl,hd⟩;refine⟨af,?_⟩
  rcases hd with rfl| ⟨C,p,rp,rfl⟩
  .left
   unfold d86;left;refine⟨ns,(k:Int)+(0+(i:Int)),rfl,hl,ae,ae,λc=>⟨c,q,rfl,hq,λp rp=> ?_⟩⟩
   left
   refine⟨p,rfl,rp,λ_ _ C=>⟨pC C p,!(0+(i:Int)),rfl,.inr ⟨C,p,rp,rfl⟩⟩,λ_ _ _ _=>⟨af,.non,_,rfl,.inl rfl⟩,λ_ _=>⟨⟨af,.non,_,rfl,.inl rfl⟩,λ_=>⟨af,.non,_,rfl,.inl rfl⟩⟩⟩
  .simp only[pC];left;exact⟨pC C p,_,rfl,.inr ⟨C,p,rp,rfl⟩⟩
 .rintro ρ ⟨d,x,rfl,hd⟩;right;unfold c83;rw[aO];rcases hd with rfl| ⟨C,p,rp,rfl⟩
  .left
   try (unfold c63;left)
   refine⟨ns,(k:Int),rfl,hl,ae,ae,λc=>⟨c,rfl,λp hp=> ?_⟩⟩
   left
   refine⟨p,rfl,v9 p hp,λ_ _ C=> ?_,λred=>absurd red (c82 p hp).irr,λ_ z=>absurd (c82 p hp) z⟩
   unfold bE5;left;exact h C p (v9 p hp)
  .simp only[pC];left;unfold bE5;left;exact h C p rp
def c85:US:=(cZ<|aR a24<|a7 (hJ<|a7 (uOp M.gSub (uIx (aS 4)<|@2)<|@3)<|a7 (uOp M.gSub (uIx (aS 4)<|@3)<|@3)<|a7 (uOp M.gSub (uIx (aS 4)<|@4)<|@3)<|a7 (uOp M.gSub (uIx (aS 4)<|@6)<|@3)<|a7 @1 aK)<|a7 (uOp M.gSub (uIx (aS 4)<|@5)<|@2) aK)
def c86:US:=(aT (bM 4<|aR oY<|a7 (aC 0)<|a7 (eR<|a7 @3<|a7 @8<|a7 @7<|a7 @7<|a7 @7<|a7 @5<|a7 @7 aK)<|a7 (aC 1) aK) c85)
def c87:US:=(aT (iL (fG<|uOp (kR false) (uIx (aS 2)<|@0)<|@1) (cZ<|aR a24<|a7 (hJ<|a7 (uOp M.gSub (uIx (aS 4)<|@2)<|@4)<|a7 (uOp M.gSub (uIx (aS 4)<|@3)<|@4)<|a7 (uOp M.gSub (uIx (aS 4)<|@4)<|@4)<|a7 @1 aK)<|a7 (uOp M.gSub (uIx (aS 4)<|@5)<|@2) aK) fJ) c86)
def c88:US:=(aT (iL (fG<|uOp (kR false) (uIx (aS 2)<|@0)<|@0) (aT (bM 4<|aR oY<|a7 (aC 0)<|a7 (eR<|a7 @3<|a7 @8<|a7 @161<|a7 @41 aK)<|a7 (aC 1) aK)<|cZ<|hJ<|a7 (uOp M.gSub (uIx (aS 4)<|@2)<|@80)<|a7 (uOp M.gSub (uIx (aS 4)<|@3)<|@20)<|a7 @1 aK) fJ) c87)
def bE6:US:=(aT (bM 4<|aR oY<|a7 (aC 0)<|a7 (eR<|a7 @3<|a7 @8<|a7 @9<|a7 @9<|a7 @9<|a7 @5<|a7 @7 aK)<|a7 (aC 1) aK) c88)
def c89:US:=(aT (iL (fG<|uOp (kR false) (uIx (aS 2)<|@1)<|@7) (cZ<|aR cJ<|a7 (uOp fN (eJ [] [none,none] 1 (iK<|aC 3) (cB 0) (λρ Q=>Q true ρ)<|uOp M.gSub (aC 0)<|@499)<|eR<|a7 @1 aK) aK) fJ) bE6)
def c90:US:=(aT (bM 3<|uSl (uV<|aR oY<|a7 (aC 0)<|a7 (eR<|a7 @3<|a7 @8<|a7 @999<|a7 @999<|a7 @999<|a7 @999 aK)<|a7 (aC 1) aK) (nF<|@2)<|nF<|uOp fN (uIx (aS 2)<|@0)<|@4) c89)
def bZ1:US:=(aT (bM 2<|aR oY<|a7 (aC 0)<|a7 (eR<|a7 @3<|a7 @8 aK)<|a7 (aC 1) aK) c90)
theorem rp_two (ha:a.natAbs<=499)(hb:b.natAbs<=499):dG [a,b,1]:=⟨⟨af,af,λx hx=>by
 simp only[aY,dL,dQ]at hx;rcases hx with rfl|rfl|rfl<;>lia⟩,[a,b],rfl⟩
theorem nba {y:Int}{m:Nat}(hx:x.natAbs<=m)(hy:y.natAbs<=k):(x+y).natAbs<=m+k:=aG (lH x y) (Nat.add_le_add hx hy)
theorem nbm {y:Int}{m:Nat}(hx:x.natAbs<=m)(hy:y.natAbs<=k):(x*y).natAbs<=m*k:=by rw[cH];exact eB hx hy
theorem nbl {m:Nat}(h:decide (m<=k)=true)(hx:x.natAbs<=m):x.natAbs<=k:=aG hx (zK h)
theorem nbc (n:Nat):((n:Nat):Int).natAbs<=n:=aF n
theorem rp_sh3 (ha:a.natAbs<=4)(hb:b.natAbs<=4)(hc:c.natAbs<=4)(hs:s.natAbs<=2):dG (shK [a,b,c,1] s 3):=by
 rw[she3];refine⟨⟨by simp[sh3],by simp[sh3],λx hx=> ?_⟩,_,rfl⟩
 simp only[sh3,List.cons_append,zO,aY,dL,dQ]at hx;have s2:=nbm hs hs;have s3:=nbm s2 hs;rcases hx with rfl|rfl|rfl|rfl
 .exact nbl rfl (nba (nba (nba ha<|nbm hs hb)<|nbm s2 hc) s3)
 .exact nbl rfl (nba (nba hb<|nbm (nbm (nbc 2) hs) hc)<|nbm (nbm (nbc 3) hs) hs)
 .exact nbl rfl (nba hc<|nbm (nbc 3) hs)
 .decide
theorem rp_sh4 {d:Int}(ha:a.natAbs<=3)(hb:b.natAbs<=3)(hc:c.natAbs<=3)(hd:d.natAbs<=3)(hs:s.natAbs<=2):dG (shK [a,b,c,d,1] s 4):=by
 rw[she4];refine⟨⟨by simp[sh4],by simp[sh4],λx hx=> ?_⟩,_,rfl⟩
 simp only[sh4,List.cons_append,zO,aY,dL,dQ]at hx;have s2:=nbm hs hs;have s3:=nbm s2 hs;rcases hx with rfl|rfl|rfl|rfl|rfl
 .exact nbl rfl (nba (nba (nba (nba ha<|nbm hs hb)<|nbm s2 hc)<|nbm s3 hd)<|nbm s3 hs)
 .exact nbl rfl (nba (nba (nba hb<|nbm (nbm (nbc 2) hs) hc)<|nbm (nbm (nbm (nbc 3) hs) hs) hd)<|nbm (nbm (nbm (nbc 4) hs) hs) hs)
 .exact nbl rfl (nba (nba hc<|nbm (nbm (nbc 3) hs) hd)<|nbm (nbm (nbc 6) hs) hs)
 .exact nbl rfl (nba hd<|nbm (nbc 4) hs)
 .decide
theorem dO8 (h2:2<=ws.length)(h4:ws.length<=4)(hb: ∀w∈ws,0<=w/\w<999):dG (ws.map (λw=>w-499)++[1]):=by
 refine⟨⟨by rw[cM,aH];show 3<=ws.length+1;lia,by rw[cM,aH];show ws.length+1<=5;lia,λx hx=> ?_⟩,_,rfl⟩
 rcases fF.mp hx with hx|hx
 .obtain⟨w,hw,rfl⟩:=d8.mp hx;have:=hb w hw
  lia
 .rw[j7.mp hx];decide
theorem cY7 (c q a b:Int)(ws:List Int)(h4:ws.length<=4)(Q:B->Prop)(h:Q (.pu<|aI<|ws.map (λw=>w-499)++[1])) :
  (cZ (aR cJ<|a7 (uOp fN (eJ [] [none,none] 1 (iK<|aC 3) (cB 0) (λρ Q=>Q true ρ)<|uOp M.gSub (aC 0)<|@499)<|eR<|a7 @1 aK) aK):US) {Q with} [!c,!q,↑[.int a,.int b],↑(ws.map .int),none]:=by
 rw[iI,d3,cQ,bB8];refine cL (t0:=0) ws.length (λk=>(ws.map D.int).getD k .non) [!c,!q,↑[.int a,.int b],~~~.lst (ws.map .int),none] (λQ' q=> ?_) ae (λx l'=>[x,↑l']) none rfl (λ_ _ _=>rfl) (λ_ _=>bW _) (λ_ _ _ q=>q) (λ_ _ _=>rfl) (λk=> .int (ws.getD k 0-499)) ?_ ?_
 .left
  rw[aH];exact q
 .intro k l' Q' hk q';have e3:(ws.map D.int).getD k .non= .int (ws.getD k 0):=by
   rw[aJ,bG,aJ,aP hk];rfl
  rw[e3]at q'⊢;left;exact q'
 .have e4:(List.range ws.length).map (λk=>D.int (ws.getD k 0-499))=(ws.map λw=>w-499).map D.int:=by
   apply j9
   .simp
   .intro i h1 h2;simp at h1;simp[aJ,h1]
  rw[e4];left;have e5:(ws.map λw=>w-499).map D.int++[D.int 1]=(ws.map (λw=>w-499)++[1]).map D.int:=by rw[bX];rfl
  rw[e5];refine⟨ac,?_,h⟩
  rw[aH,aH];exact aG (show ws.length+(0+1)<=5 by lia) ac
theorem dC7 (c q a b:Int)(w:Option B)(a0:0<=a)(a1:a<3)(hq:0<q)(Q:B->Prop)(h: ∀p,dG p->Q (.pu<|aI p)) :
  bE6 {Q with} [!c,!q,↑[.int a,.int b],w,none]:=by
 unfold bE6;rw[aO];left;refine⟨ac,c,[3,8,9,9,9,5,7],q,rfl,ac,hq,ac,λxs hx=> ?_⟩
 obtain⟨x0,x1,x2,x3,x4,x5,x6,rfl⟩: ∃x0 x1 x2 x3 x4 x5 x6,xs=[x0,x1,x2,x3,x4,x5,x6]:=by
  match xs,hx.1 with
  | [x0,x1,x2,x3,x4,x5,x6],_=>exact⟨x0,x1,x2,x3,x4,x5,x6,rfl⟩
 have b2:=hx.2 2 x2 9 rfl rfl;have b3:=hx.2 3 x3 9 rfl rfl;have b4:=hx.2 4 x4 9 rfl rfl;have b5:=hx.2 5 x5 5 rfl rfl;simp only[cN,kF];unfold c88;rw[aO];left;rw[a80];right
 by_cases c0:a=0
 .rw[a8 c0];refine⟨ac,c,[3,8,161,41],q,rfl,ac,hq,ac,λys hy=> ?_⟩
  obtain⟨y0,y1,y2,y3,rfl⟩: ∃y0 y1 y2 y3,ys=[y0,y1,y2,y3]:=by
   match ys,hy.1 with
   | [y0,y1,y2,y3],_=>exact⟨y0,y1,y2,y3,rfl⟩
  have k2:=hy.2 2 y2 161 rfl rfl;have k3:=hy.2 3 y3 41 rfl rfl;simp only[cN,kF]
  (try left)
  rw[show atI [D.int y0,.int y1,.int y2,.int y3] 2=some (.int y2)from bK (j:=2) rfl,show atI [D.int y0,.int y1,.int y2,.int y3] 3=some (.int y3)from bK (j:=3) rfl]
  right;exact⟨ac,h [y2-80,y3-20,1]<|rp_two ae ae⟩
 rw[a6 c0];have t2:atI [D.int x0,.int x1,.int x2,.int x3,.int x4,.int x5,.int x6] 2=some (.int x2):=bK (j:=2) rfl;have t3:atI [D.int x0,.int x1,.int x2,.int x3,.int x4,.int x5,.int x6] 3=some (.int x3):=bK (j:=3) rfl;have t4:atI [D.int x0,.int x1,.int x2,.int x3,.int x4,.int x5,.int x6] 4=some (.int x4):=bK (j:=4) rfl
 have t5:atI [D.int x0,.int x1,.int x2,.int x3,.int x4,.int x5,.int x6] 5=some (.int x5):=bK (j:=5) rfl;unfold c87;rw[aO];left;rw[a80];right
 by_cases c1:a=1
 .rw[a8 c1,t2,t3,t4,t5];right;exact⟨ac,[x2-4,x3-4,x4-4,1],x5-2,rfl,af,af,ae,h _<|rp_sh3 ae ae ae ae⟩
 rw[a6 c1];unfold c86;rw[aO];left;refine⟨ac,c,[3,8,7,7,7,5,7],q,rfl,ac,hq,ac,λys hy=> ?_⟩
 obtain⟨y0,y1,y2,y3,y4,y5,y6,rfl⟩: ∃x0 x1 x2 x3 x4 x5 x6,ys=[x0,x1,x2,x3,x4,x5,x6]:=by
  match ys,hy.1 with
  | [x0,x1,x2,x3,x4,x5,x6],_=>exact⟨x0,x1,x2,x3,x4,x5,x6,rfl⟩
 have k2:=hy.2 2 y2 7 rfl rfl;have k3:=hy.2 3 y3 7 rfl rfl;have k4:=hy.2 4 y4 7 rfl rfl;have k5:=hy.2 5 y5 5 rfl rfl;have k6:=hy.2 6 y6 7 rfl rfl;simp only[cN,kF];unfold c85;left
 rw[show atI [D.int y0,.int y1,.int y2,.int y3,.int y4,.int y5,.int y6] 2=some (.int y2)from bK (j:=2) rfl,show atI [D.int y0,.int y1,.int y2,.int y3,.int y4,.int y5,.int y6] 3=some (.int y3)from bK (j:=3) rfl,show atI [D.int y0,.int y1,.int y2,.int y3,.int y4,.int y5,.int y6] 4=some (.int y4)from bK (j:=4) rfl,show atI [D.int y0,.int y1,.int y2,.int y3,.int y4,.int y5,.int y6] 5=some (.int y5)from bK (j:=5) rfl,show atI [D.int y0,.int y1,.int y2,.int y3,.int y4,.int y5,.int y6] 6=some (.int y6)from bK (j:=6) rfl]
 right;exact⟨ac,[y2-3,y3-3,y4-3,y6-3,1],y5-2,rfl,af,af,ae,h _<|rp_sh4 ae ae ae ae ae⟩
theorem dO9: Ra bY8 bZ1 ["c","q","d","w","f"]:=by
 rintro ds Q ⟨c,q,rfl,hq,h⟩;unfold bZ1;show(aT _ _:US) _ [!c,!q,none,none,none];rw[aO];left;refine⟨ac,c,[3,8],q,rfl,ac,hq,ac,λxs hx=> ?_⟩
 obtain⟨a,b,rfl⟩: ∃a b,xs=[a,b]:=by
  match xs,hx.1 with
  | [a,b],_=>exact⟨a,b,rfl⟩
 have ba:=hx.2 0 a 3 rfl rfl;simp only[cN,kF];unfold c90;rw[aO];left;refine⟨ac,c,[3,8,999,999,999,999],q,rfl,ac,hq,ac,λys hy=> ?_⟩
 obtain⟨y0,y1,y2,y3,y4,y5,rfl⟩: ∃x0 x1 x2 x3 x4 x5,ys=[x0,x1,x2,x3,x4,x5]:=by
  match ys,hy.1 with
  | [x0,x1,x2,x3,x4,x5],_=>exact⟨x0,x1,x2,x3,x4,x5,rfl⟩
 have k2:=hy.2 2 y2 999 rfl rfl;have k3:=hy.2 3 y3 999 rfl rfl;have k4:=hy.2 4 y4 999 rfl rfl;have k5:=hy.2 5 y5 999 rfl rfl;simp only[cN,kF]
 (try left)
 rw[a80];right;obtain⟨ws,ew,w2,w4,wb⟩: ∃ws:List Int,cutD [D.int y0,.int y1,.int y2,.int y3,.int y4,.int y5] (some 2) (some<|a+4)=ws.map D.int/\2<=ws.length/\ws.length<=4/\ ∀w∈ws,0<=w/\w<999:=by
  rcases(show a=0\/a=1\/a=2 by lia)with rfl|rfl|rfl
  .exact⟨[y2,y3],rfl,af,af,by simp;lia⟩
  .exact⟨[y2,y3,y4],rfl,af,af,by simp;lia⟩
  .exact⟨[y2,y3,y4,y5],rfl,af,af,by simp;lia⟩
 rw[ew];unfold c89;rw[aO,bX6];left;rw[at1];right
 by_cases cb:b=7
 .rw[a8 cb];exact cY7 c q a b ws w4 Q (h _<|dO8 w2 w4 wb)
 .rw[a6 cb];exact dC7 c q a b _ ba.1 ba.2 hq Q h
def Num (n e:Nat)(r:List Int):Prop:= ∃u:∅,r=rwF n u/\(∀j,(u j).natAbs<=2^e)/\ ∀j,n<=j->u j=0
theorem Num.of (h: ∀x∈r,x.natAbs<=2^e):Num r.length e r:=by
 refine⟨λj=>r.getD j 0,?_,λj=> ?_,λj hj=> ?_⟩
 .apply j9
  .rw[nM]
  .intro i h1 h2;simp only[rwF,List.getElem_map,List.getElem_range];rw[aJ,aP h1];rfl
 .show(r.getD j 0).natAbs<=2^e
  rw[aJ]
  by_cases c:j<r.length
  .rw[aP c];exact h _ (cV c)
  .rw[i9 ae]
   exact dO _
 .show r.getD j 0=0
  rw[aJ,i9 hj];rfl
theorem flat1 {α:Type}(m:Nat)(x:α):(replicate m [x]).flatten=replicate m x:=af
def bZ2:Φ:=λds Q=> ∃(c:Int) (n:Nat) (q:Int),ds=[.int c,.int (n:Int),.int q]/\n<=4/\0<q/\ ∀r:List Int,Num n 400 r->Q (.pu<|aI r)
def cR1:US:=(cZ<|aR cJ<|a7 (eJ [4] [none,some 4,none] 2 (iK<|uSl (aS 3) (nF<|@1) kK) (cB 0) (λρ Q=>Q true ρ)<|uOp M.gSub (uOp oS (aC 0)<|uOp fN (uOp fV @2<|aC 1)<|@1)<|aC 1) aK)
def cR2:US:=(aT (bM 4<|uIx (uV<|eR<|a7 @2<|a7 @20<|a7 @100 aK)<|uIx (aS 3)<|@0) cR1)
def cK2:US:=(aT (bM 3<|aR oY<|a7 (aC 0)<|a7 (uOp fN (eR<|a7 @3 aK)<|uOp fV (eR<|a7 @201 aK)<|aC 1)<|a7 (aC 2) aK) cR2)
theorem rd_few: Ra bZ2 cK2 ["c","n","q","d","w"]:=by
 rintro ds Q ⟨c,n,q,rfl,hn,hq,h⟩;unfold cK2;show(aT _ _:US) _ [!c,!(n:Int),!q,none,none];rw[aO];left;rw[bV,flat1];refine⟨ac,ac,⟨ae,ae,aG (show(0+1)*n<=4 by lia) ac⟩,?_,c,3::replicate n 201,q,by rw[cN,List.map_replicate];rfl,?_,hq,λw hw=> ?_,λxs hx=> ?_⟩
 .rw[l7];exact aG (show 0+1+n<=5 by lia) ac
 .rw[dI,l7];lia
 .rcases aY.mp hw with rfl|hw
  .decide
  .rw[(List.mem_replicate.mp hw).2];decide
 obtain⟨a,ys,rfl⟩: ∃a ys,xs=a::ys:=by
  match xs,hx.1 with
  | a::ys,_=>exact⟨a,ys,rfl⟩
 have ba:=hx.2 0 a 3 rfl rfl;have ly:ys.length=n:=by
  have:=hx.1;rw[dI,dI,l7]at this
  lia
 unfold cR2;rw[aO];left;rw[cN,a80];right;obtain⟨w,ew,w2,w1⟩: ∃w:Int,atI [D.int 2,.int 20,.int 100] a=some (.int w)/\2<=w/\w<=100:=by
  rcases(show a=0\/a=1\/a=2 by lia)with rfl|rfl|rfl
  .exact⟨2,rfl,ac,ac⟩
  .exact⟨20,rfl,ac,ac⟩
  .exact⟨100,rfl,ac,ac⟩
 refine⟨ac,?_⟩
 rw[ew];right;unfold cR1;rw[iI,d3,cQ]
 refine cL (t0:=0) ys.length (λk=>(ys.map D.int).getD k .non) [!c,!(n:Int),!q,↑(.int a::ys.map .int),!w] (λQ' q=> ?_) ae (λx l'=>[x,!w,↑l']) none rfl (λ_ _ _=>rfl) (λ_ _=>bW _) (λ_ _ _ q=>q) (λ_ _ _=>rfl) (λk=> .int (ys.getD k 0%(2*w+1)-w)) ?_ ?_
 .left
  rw[show(1:Int)=((1:Nat):Int)from rfl,a81 _ 1 (by rw[dI];lia)]
  show Q' (List.drop 1 (D.int a::ys.map D.int)).length _ _
  rw[List.drop_succ_cons,List.drop_zero,aH];exact q
 .intro k l' Q' hk q';have e3:(ys.map D.int).getD k .non= .int (ys.getD k 0):=by
   rw[aJ,bG,aJ,aP hk];rfl
  rw[e3]at q'⊢;left;rw[dE _ ae]
  exact⟨cmL ac ac,ae,q'⟩
 .have e4:(List.range ys.length).map (λk=>D.int (ys.getD k 0%(2*w+1)-w))=(ys.map λy=>y%(2*w+1)-w).map D.int:=by
   apply j9
   .simp
   .intro i h1 h2;simp at h1;simp[aJ,h1]
  rw[e4];left;refine h (ys.map λy=>y%(2*w+1)-w) ?_
  have hN:=Num.of (e:=400) (r:=ys.map λy=>y%(2*w+1)-w) (λx hx=> ?_)
  .rw[aH,ly]at hN;exact hN
  .obtain⟨y,hy,rfl⟩:=d8.mp hx;have y0:=d5 y (show 2*w+1≠0 by lia)
   have y1:=d4 y (show 0<2*w+1 by lia)
   exact aG (show(y%(2*w+1)-w).natAbs<=100 by lia) ag
theorem cay2 (p:List Int)(u:∅): ∀j,j<2->itT p 2 u 2 j= -(p.getD 0 0*itT p 2 u 0 j+p.getD 1 0*itT p 2 u 1 j)
 | 0,_=>by simp[itT,ttF];grind
 | 1,_=>by simp[itT,ttF];grind
theorem cay3 (p:List Int)(u:∅): ∀j,j<3->itT p 3 u 3 j= -(p.getD 0 0*itT p 3 u 0 j+p.getD 1 0*itT p 3 u 1 j+p.getD 2 0*itT p 3 u 2 j)
 | 0,_=>by simp[itT,ttF];grind
 | 1,_=>by simp[itT,ttF];grind
 | 2,_=>by simp[itT,ttF];grind
theorem cay4 (p:List Int)(u:∅): ∀j,j<4->itT p 4 u 4 j= -(p.getD 0 0*itT p 4 u 0 j+p.getD 1 0*itT p 4 u 1 j+p.getD 2 0*itT p 4 u 2 j+p.getD 3 0*itT p 4 u 3 j)
 | 0,_=>by simp[itT,ttF];grind
 | 1,_=>by simp[itT,ttF];grind
 | 2,_=>by simp[itT,ttF];grind
 | 3,_=>by simp[itT,ttF];grind
nonrec def oU (n:Nat)(w:∅)(r:Nat->∅):∅:=λj=>fZ n λk=>w k*r k j
theorem aS5 (w:∅)(r:Nat->∅)(j:Nat):oU 2 w r j=w 0*r 0 j+w 1*r 1 j:=by simp[oU,fZ,b9]
theorem aG3 (w:∅)(r:Nat->∅)(j:Nat):oU 3 w r j=w 0*r 0 j+w 1*r 1 j+w 2*r 2 j:=by simp[oU,fZ,b9,Int.add_assoc]
theorem aA1 (w:∅)(r:Nat->∅)(j:Nat):oU 4 w r j=w 0*r 0 j+w 1*r 1 j+w 2*r 2 j+w 3*r 3 j:=by simp[oU,fZ,b9,Int.add_assoc]
theorem dC8 (w u:∅)(n2:2<=n)(n4:n<=4): ∀j,j<n->ttF p n (oU n w<|itT p n u) j=oU n (ttF p n w) (itT p n u) j:=by
 intro j hj
 match n,n2,n4 with
 | 2,_,_=>
  have c:=cay2 p u j hj;have s1:itT p 2 u 1 j=ttF p 2 (itT p 2 u 0) j:=rfl;have s2:itT p 2 u 2 j=ttF p 2 (itT p 2 u 1) j:=rfl;have t0:ttF p 2 w 0= -(w 1*p.getD 0 0):=by simp[ttF]
  have t1:ttF p 2 w 1=w 0-w 1*p.getD 1 0:=by simp[ttF]
  rw[aS5,t0,t1];unfold ttF at s1 s2⊢;rw[aS5,aS5];split at s1<;>split at s2<;>split<;>grind
 | 3,_,_=>
  have c:=cay3 p u j hj;have s1:itT p 3 u 1 j=ttF p 3 (itT p 3 u 0) j:=rfl;have s2:itT p 3 u 2 j=ttF p 3 (itT p 3 u 1) j:=rfl;have s3:itT p 3 u 3 j=ttF p 3 (itT p 3 u 2) j:=rfl;have t0:ttF p 3 w 0= -(w 2*p.getD 0 0):=by simp[ttF]
  have t1:ttF p 3 w 1=w 0-w 2*p.getD 1 0:=by simp[ttF]
  have t2:ttF p 3 w 2=w 1-w 2*p.getD 2 0:=by simp[ttF]
  rw[aG3,t0,t1,t2];unfold ttF at s1 s2 s3⊢;rw[aG3,aG3]
  by_cases z:j=0
  .rw[a8 z]at s1 s2 s3⊢
   grind
  .rw[a6 z]at s1 s2 s3⊢
   grind
 | 4,_,_=>
  have c:=cay4 p u j hj;have s1:itT p 4 u 1 j=ttF p 4 (itT p 4 u 0) j:=rfl;have s2:itT p 4 u 2 j=ttF p 4 (itT p 4 u 1) j:=rfl;have s3:itT p 4 u 3 j=ttF p 4 (itT p 4 u 2) j:=rfl;have s4:itT p 4 u 4 j=ttF p 4 (itT p 4 u 3) j:=rfl;have t0:ttF p 4 w 0= -(w 3*p.getD 0 0):=by simp[ttF]
  have t1:ttF p 4 w 1=w 0-w 3*p.getD 1 0:=by simp[ttF]
  have t2:ttF p 4 w 2=w 1-w 3*p.getD 2 0:=by simp[ttF]
  have t3:ttF p 4 w 3=w 2-w 3*p.getD 3 0:=by simp[ttF]
  rw[aA1,t0,t1,t2,t3];unfold ttF at s1 s2 s3 s4⊢;rw[aA1,aA1]
  by_cases z:j=0
  .rw[a8 z]at s1 s2 s3 s4⊢
   grind
  .rw[a6 z]at s1 s2 s3 s4⊢
   grind
theorem aY2 {g:∅}(n1:1<=n)(h: ∀j,j<n->f j=g j): ∀j,j<n->ttF p n f j=ttF p n g j:=by
 intro j hj;unfold ttF;rw[h (n-1) aa,h (j-1) aa]
theorem bZ3 {p:List Int}{n:Nat}(u v:∅)(n2:2<=n)(n4:n<=4): ∀i j,j<n->itT p n (dW p n u v) i j=oU n (itT p n v i) (itT p n u) j
 | 0,j,_=>rfl
 | i+1,j,hj=>by
  show ttF p n (itT p n (dW p n u v) i) j=_
  rw[aY2 aa (bZ3 u v n2 n4 i) j hj,dC8 _ _ n2 n4 j hj]
  rfl
theorem aY3 {s:Nat->∅}(h: ∀i j,j<n->s i j=t i j):tbL n s=tbL n t:=by
 unfold tbL;exact nQ λi _=>gG λj hj=>h i j hj
set_option maxHeartbeats 0 in
theorem mulD4 (A B:Nat->∅):jG 4 (tbL 4 λi=>oU 4 (A i) B)=jG 4 (tbL 4 A)*jG 4 (tbL 4 B):=by
 rw[bE1,bE1,bE1];simp only[aA1]
 grind (ringSteps:=100000000)
theorem mulD3 (A B:Nat->∅):jG 4 (tbL 3 λi=>oU 3 (A i) B)=jG 4 (tbL 3 A)*jG 4 (tbL 3 B):=by
 rw[bE0,bE0,bE0];simp only[aG3]
 grind
theorem mulD2 (A B:Nat->∅):jG 4 (tbL 2 λi=>oU 2 (A i) B)=jG 4 (tbL 2 A)*jG 4 (tbL 2 B):=by
 rw[bD9,bD9,bD9];simp only[aS5]
 grind
theorem dP0 (u v:∅)(n2:2<=n)(n4:n<=4):nrm p n (dW p n u v)=nrm p n u*nrm p n v:=by
 unfold nrm;rw[aY3 (t:=λi=>oU n (itT p n v i) (itT p n u))<|bZ3 u v n2 n4,eG]
 match n,n2,n4 with
 | 2,_,_=>exact mulD2 _ _
 | 3,_,_=>exact mulD3 _ _
 | 4,_,_=>exact mulD4 _ _
def fM:List Int->Int->Int
 | [],_=>0
 | c::p,r=>fM p r*r+c
theorem mI (n:Nat)(f:∅):fZ (n+1) f=fZ n f+f n:=by
 unfold fZ;rw[b9,bX,aM1];simp
theorem dP1 (u v:∅)(c:Int)(j:Nat):ttF p n (λi=>u i+c*v i) j=ttF p n u j+c*ttF p n v j:=by
 unfold ttF
 by_cases h:j=0
 .rw[a8 h,a8 h,a8 h]
  grind
 .rw[a6 h,a6 h,a6 h]
  grind
nonrec def ch2 (A:Nat->∅):∅
 | 0=>1
 | 1=> -((A 0 0)+(A 1 1))
 | 2=>((A 0 0*(A 1 1)-A 1 0*(A 0 1)))
 | _=>0
nonrec def ch3 (A:Nat->∅):∅
 | 0=>1
 | 1=> -((A 0 0)+(A 1 1)+(A 2 2))
 | 2=>((A 0 0*(A 1 1)-A 1 0*(A 0 1))+(A 0 0*(A 2 2)-A 2 0*(A 0 2))+(A 1 1*(A 2 2)-A 2 1*(A 1 2)))
 | 3=> -((A 0 0*(A 1 1*(A 2 2)-A 2 1*(A 1 2))-A 1 0*(A 0 1*(A 2 2)-A 2 1*(A 0 2))+A 2 0*(A 0 1*(A 1 2)-A 1 1*(A 0 2))))
 | _=>0
nonrec def ch4 (A:Nat->∅):∅
 | 0=>1
 | 1=> -((A 0 0)+(A 1 1)+(A 2 2)+(A 3 3))
 | 2=>((A 0 0*(A 1 1)-A 1 0*(A 0 1))+(A 0 0*(A 2 2)-A 2 0*(A 0 2))+(A 0 0*(A 3 3)-A 3 0*(A 0 3))+(A 1 1*(A 2 2)-A 2 1*(A 1 2))+(A 1 1*(A 3 3)-A 3 1*(A 1 3))+(A 2 2*(A 3 3)-A 3 2*(A 2 3)))
 | 3=> -((A 0 0*(A 1 1*(A 2 2)-A 2 1*(A 1 2))-A 1 0*(A 0 1*(A 2 2)-A 2 1*(A 0 2))+A 2 0*(A 0 1*(A 1 2)-A 1 1*(A 0 2)))+(A 0 0*(A 1 1*(A 3 3)-A 3 1*(A 1 3))-A 1 0*(A 0 1*(A 3 3)-A 3 1*(A 0 3))+A 3 0*(A 0 1*(A 1 3)-A 1 1*(A 0 3)))+(A 0 0*(A 2 2*(A 3 3)-A 3 2*(A 2 3))-A 2 0*(A 0 2*(A 3 3)-A 3 2*(A 0 3))+A 3 0*(A 0 2*(A 2 3)-A 2 2*(A 0 3)))+(A 1 1*(A 2 2*(A 3 3)-A 3 2*(A 2 3))-A 2 1*(A 1 2*(A 3 3)-A 3 2*(A 1 3))+A 3 1*(A 1 2*(A 2 3)-A 2 2*(A 1 3))))
 | 4=>((A 0 0*(A 1 1*(A 2 2*(A 3 3)-A 3 2*(A 2 3))-A 2 1*(A 1 2*(A 3 3)-A 3 2*(A 1 3))+A 3 1*(A 1 2*(A 2 3)-A 2 2*(A 1 3)))-A 1 0*(A 0 1*(A 2 2*(A 3 3)-A 3 2*(A 2 3))-A 2 1*(A 0 2*(A 3 3)-A 3 2*(A 0 3))+A 3 1*(A 0 2*(A 2 3)-A 2 2*(A 0 3)))+A 2 0*(A 0 1*(A 1 2*(A 3 3)-A 3 2*(A 1 3))-A 1 1*(A 0 2*(A 3 3)-A 3 2*(A 0 3))+A 3 1*(A 0 2*(A 1 3)-A 1 2*(A 0 3)))-A 3 0*(A 0 1*(A 1 2*(A 2 3)-A 2 2*(A 1 3))-A 1 1*(A 0 2*(A 2 3)-A 2 2*(A 0 3))+A 2 1*(A 0 2*(A 1 3)-A 1 2*(A 0 3)))))
 | _=>0
nonrec def chn (n:Nat)(A:Nat->∅)(k:Nat):Int:=if n=2 then ch2 A k else if n=3 then ch3 A k else ch4 A k
nonrec def pwM (n:Nat)(A:Nat->∅):Nat->Nat->∅
 | 0=>λi j=>if i=j then 1 else 0
 | k+1=>λi=>oU n (A i) (pwM n A k)
nonrec def trP (n:Nat)(A:Nat->∅)(k:Nat):Int:=fZ n λi=>pwM n A k i i
theorem newt2 (A:Nat->∅): ∀k,1<=k->k<=2-> -(fZ k λi=>ch2 A i*trP 2 A (k-i))=(k:Int)*ch2 A k
 | 1,_,_=>by simp[fZ,b9,trP,pwM,aS5,ch2]
 | 2,_,_=>by
  simp[fZ,b9,trP,pwM,aS5,ch2]
  grind
set_option maxHeartbeats 0 in
theorem newt3 (A:Nat->∅): ∀k,1<=k->k<=3-> -(fZ k λi=>ch3 A i*trP 3 A (k-i))=(k:Int)*ch3 A k
 | 1,_,_=>by
  simp[fZ,b9,trP,pwM,aG3,ch3]
  grind
 | 2,_,_=>by
  simp[fZ,b9,trP,pwM,aG3,ch3]
  grind
 | 3,_,_=>by
  simp[fZ,b9,trP,pwM,aG3,ch3]
  grind (ringSteps:=100000000)
set_option maxHeartbeats 0 in
theorem newt4 (A:Nat->∅): ∀k,1<=k->k<=4-> -(fZ k λi=>ch4 A i*trP 4 A (k-i))=(k:Int)*ch4 A k
 | 1,_,_=>by
  simp[fZ,b9,trP,pwM,aA1,ch4]
  grind
 | 2,_,_=>by
  simp[fZ,b9,trP,pwM,aA1,ch4]
  grind (ringSteps:=100000000)
 | 3,_,_=>by
  simp[fZ,b9,trP,pwM,aA1,ch4]
  grind (ringSteps:=100000000)
 | 4,_,_=>by
  simp[fZ,b9,trP,pwM,aA1,ch4]
  grind (ringSteps:=100000000)
theorem dP2 (n2:2<=n)(n4:n<=4)(A:Nat->∅)(k:Nat)(k1:1<=k)(kn:k<=n): -(fZ k λi=>chn n A i*trP n A (k-i))=(k:Int)*chn n A k:=by
 match n,n2,n4 with
 | 2,_,_=>exact newt2 A k k1 kn
 | 3,_,_=>exact newt3 A k k1 kn
 | 4,_,_=>exact newt4 A k k1 kn
nonrec def hoF (n:Nat)(A:Nat->∅):Nat->∅
 | 0=>λ_=>0
 | i+1=>λj=>oU n (hoF n A i) A j+(if j=0 then chn n A i else 0)
set_option maxHeartbeats 0 in
theorem dP3 (n2:2<=n)(n4:n<=4)(A:Nat->∅)(j:Nat)(hj:j<n):hoF n A (n+1) j=0:=by
 match n,n2,n4 with
 | 2,_,_=>
  have h:j=0\/j=1:=ae
  rcases h with rfl|rfl<;>simp[hoF,aS5,chn,ch2]<;>grind
 | 3,_,_=>
  have h:j=0\/j=1\/j=2:=ae
  rcases h with rfl|rfl|rfl<;>simp[hoF,aG3,chn,ch3]<;>grind (ringSteps:=100000000)
 | 4,_,_=>
  have h:j=0\/j=1\/j=2\/j=3:=ae
  rcases h with rfl|rfl|rfl|rfl<;>simp[hoF,aA1,chn,ch4]<;>grind (ringSteps:=100000000)
set_option maxHeartbeats 0 in
theorem dP4 (n2:2<=n)(n4:n<=4)(A:Nat->∅)(z:Int):fM (rwF (n+1) λj=>chn n A (n-j)) z=jG 4 (tbL n λi j=>z*(if i=j then 1 else 0)-A i j):=by
 match n,n2,n4 with
 | 2,_,_=>
  show(((0*z+1)*z+ch2 A 1)*z+ch2 A 2)=_
  rw[bD9];simp[ch2]
  grind
 | 3,_,_=>
  show((((0*z+1)*z+ch3 A 1)*z+ch3 A 2)*z+ch3 A 3)=_
  rw[bE0];simp[ch3]
  grind (ringSteps:=100000000)
 | 4,_,_=>
  show(((((0*z+1)*z+ch4 A 1)*z+ch4 A 2)*z+ch4 A 3)*z+ch4 A 4)=_
  rw[bE1];simp[ch4]
  grind (ringSteps:=100000000)
theorem cR3 (n2:2<=n)(n4:n<=4)(A:Nat->∅):chn n A n=(if n%2=0 then 1 else -1)*jG 4 (tbL n A):=by
 match n,n2,n4 with
 | 2,_,_=>
  show ch2 A 2=1*_
  rw[bD9];unfold ch2
  grind
 | 3,_,_=>
  show ch3 A 3= -1*_
  rw[bE0];unfold ch3
  grind
 | 4,_,_=>
  show ch4 A 4=1*_
  rw[bE1];unfold ch4
  grind
theorem aA2 (n2:2<=n)(n4:n<=4)(A:Nat->∅):chn n A 0=1:=by
 match n,n2,n4 with
 | 2,_,_=>rfl
 | 3,_,_=>rfl
 | 4,_,_=>rfl
theorem vD {g:∅}(h: ∀i,i<n->f i=g i):fZ n f=fZ n g:=by
 unfold fZ;rw[nQ λi hi=>h i (d6.mp hi)]
theorem dU7 {p:List Int}{n:Nat}{u:∅}(n1:1<=n): ∀i j,j<n->itT p n (cz n u) i j=itT p n u i j
 | 0,j,hj=>a8 hj
 | i+1,j,hj=>aY2 n1 (dU7 n1 i) j hj
theorem cK3 (n2:2<=n)(n4:n<=4)(i j:Nat)(hi:i<n)(hj:j<n):itT p n (jH 1) i j=if i=j then 1 else 0:=by
 match n,n2,n4 with
 | 2,_,_=>
  have h:(i=0\/i=1)/\(j=0\/j=1):=ae
  rcases h with⟨rfl|rfl,rfl|rfl⟩<;>simp[itT,ttF,jH]
 | 3,_,_=>
  have h:(i=0\/i=1\/i=2)/\(j=0\/j=1\/j=2):=ae
  rcases h with⟨rfl|rfl|rfl,rfl|rfl|rfl⟩<;>simp[itT,ttF,jH]
 | 4,_,_=>
  have h:(i=0\/i=1\/i=2\/i=3)/\(j=0\/j=1\/j=2\/j=3):=ae
  rcases h with⟨rfl|rfl|rfl|rfl,rfl|rfl|rfl|rfl⟩<;>simp[itT,ttF,jH]
theorem dC9 {p:List Int}{n:Nat}{u:∅}(n2:2<=n)(n4:n<=4): ∀k i j,i<n->j<n->itT p n (vC p n u k) i j=pwM n (itT p n u) k i j
 | 0,i,j,hi,hj=>cK3 n2 n4 i j hi hj
 | k+1,i,j,hi,hj=>by
  show itT p n (cz n<|dW p n (vC p n u k) u) i j=_
  rw[dU7 ae i j hj,bZ3 _ _ n2 n4 i j hj]
  exact vD λm hm=>by rw[dC9 n2 n4 k m j hm hj]
nonrec def trc (p:List Int)(n:Nat)(u:∅):Int:=fZ n λi=>itT p n u i i
theorem b74 (n2:2<=n)(n4:n<=4)(k:Nat):trc p n (vC p n u k)=trP n (itT p n u) k:=vD λi hi=>dC9 n2 n4 k i i hi hi
theorem bS1 (n2:2<=n)(n4:n<=4)(hp: ∀x∈p,x.natAbs<=499)(hu: ∀j,(u j).natAbs<=2^400)(k:Nat):(trP n (itT p n u) k).natAbs<=2^(429*k+29):=by
 rw[<-b74 n2 n4];refine aG (oH _ (2^(429*k+27)) n λi hi=> ?_) ?_
 .exact aG (tN (n:=n) hp (aN3 n4 hp hu k) i i) (cT ac ae)
 .have e:(2:Nat)^(429*k+29)=4*2^(429*k+27):=by rw[show 429*k+29=2+(429*k+27)by lia,dP]
  rw[e];exact lB _ n4
theorem cY8 (n2:2<=n)(n4:n<=4)(hp: ∀x∈p,x.natAbs<=499)(hu: ∀j,(u j).natAbs<=2^400)(k:Nat)(kn:k<=n):(chn n (itT p n u) k).natAbs<=2^(470*k):=by
 induction k using Nat.strongRecOn with
 | _ k ih=>
  by_cases k0:k=0
  .subst k0;rw[aA2 n2 n4]
   decide
  .have h1:=dP2 n2 n4 (itT p n u) k ae kn
   have h2:(fZ k λi=>chn n (itT p n u) i*trP n (itT p n u) (k-i)).natAbs<=k*2^(470*k-12):=by
    refine oH _ _ k λi hi=> ?_
    rw[cH];refine aG (eB (ih i hi ae)<|bS1 n2 n4 hp hu<|k-i) ?_
    rw[<-dP];exact cT ac ae
   have h3:((k:Int)*chn n (itT p n u) k).natAbs<=k*2^(470*k-12):=by
    rw[<-h1,lM];exact h2
   rw[cH,zG]at h3;exact aG (Nat.le_of_mul_le_mul_left h3 ae) (cT ac ae)
theorem cY9 (n2:2<=n)(n4:n<=4)(hp: ∀x∈p,x.natAbs<=499)(hu: ∀j,(u j).natAbs<=2^400)(k:Nat)(kn:k<=n):(chn n (itT p n u) k).natAbs<=2^1880:=
 aG (cY8 n2 n4 hp hu k kn) (cT ac ae)
theorem dD0 (u v:∅)(j:Nat):dW p n u v j=oU n v (itT p n u) j:=rfl
theorem cZ0 {T:Nat->∅}{b:D}(n4:n<=4)(hb:b= .tup (tbF n n T)\/b= .lst (tbF n n T))(hui: ∀Q':Nat->(Nat->D)->Ev->Prop,Q' n (λk=> .int (0+(k:Int))) ρ->ui ρ Q')
  (h0:pQ (yC ρ []) [none,some 2,none] 2=[none,~~~b,↑[]]) (h:Q (.ow<|((List.range n).map λi=>T i i).map .int) ρ) :
  eJ [] [none,some 2,none] 2 ui (cB 0) (λρ Q=>Q true ρ) (uIx (uV<|uIx (aS 1)<|aC 0)<|aC 0) ρ Q:=by
 refine cL (t0:=0) n (λk=> .int (0+(k:Int))) ρ hui ae (λx l'=>[x,~~~b,↑l']) none h0 (λ_ _ _=>rfl) (λ_ _=>bW _) (λ_ _ _ q=>q) (λ_ _ _=>rfl) (λk=> .int (T k k)) ?_ ?_
 .intro k l' Q' hk q';rw[bN]at q'⊢;rcases hb with rfl|rfl
  .left
   rw[bX4 hk];simp only[aI];rw[iD hk];exact q'
  .left
   rw[bX4 hk];simp only[aI];rw[iD hk];exact q'
 .rw[iX];exact h
def aN7:Φ:=λds Q=> ∃(C:Addr) (p:List Int) (n:Nat) (u:∅),ds=[iE C p,aI<|rwF n u]/\dG p/\p.length=n+1/\Q (.pu<|.int<|trc p n u)
def b22:US:=(cZ<|aR c46<|a7 (eJ [] [none,some 2,none] 2 (eZ<|a7 (a12 "degree"<|aC 0) aK) (cB 0) (λρ Q=>Q true ρ)<|uIx (uV<|uIx (aS 1)<|aC 0)<|aC 0) aK)
def aN8:US:=(aT (bM 2<|aR rM<|a7 (aC 0)<|a7 (aC 1) aK) b22)
theorem cK4: Ra aN7 aN8 ["r","x","t"]:=by
 rintro ds Q ⟨C,p,n,u,rfl,rp,hn,h⟩;have lo:=rp.ok.lo;have hi:=rp.ok.hi;unfold aN8;show(aT _ _:US) _ [~~~iE C p,~~~aI (rwF n u),none];rw[aO];left;refine⟨C,p,n,u,rfl,rp,hn,?_⟩;try right
 unfold b22;rw[iI,d3,cQ];refine cZ0 (T:=itT p n u) ae (.inl rfl) (λQ' q=> ?_) rfl ?_
 .unfold eZ;rw[cQ,oK (C:=C) (p:=p) rfl];left;rw[show(p.length:Int)-1=(n:Int)by lia]
  refine⟨⟨ae,ae⟩,?_⟩
  rw[bV];exact q
 .left
  rw[qR];exact h
theorem dP5 {g:∅}(h:rwF n f=rwF n g)(j:Nat)(hj:j<n):f j=g j:=by
 have e:(rwF n f)[j]? =(rwF n g)[j]? :=by rw[h]
 rw[b71 hj,b71 hj]at e;exact gQ e
theorem dP6 (f:∅):((rwF (n+1) f).map D.int).reverse=(rwF (n+1) λj=>f (n-j)).map D.int:=by
 apply j9
 .simp[rwF]
 .intro i h1 h2;simp[rwF]at h1 h2⊢
def bE7:Φ:=λds Q=> ∃(C:Addr) (p:List Int) (n:Nat) (u:∅),ds=[iE C p,aI<|rwF n u]/\dG p/\p.length=n+1/\(∀j,(u j).natAbs<=2^400)/\Q (.pu<|aI<|rwF (n+1) λj=>chn n (itT p n u) (n-j))
def bS2:US:=(cZ<|aR cJ<|a7 (d72 (aS 4)<|nZ<|@1) aK)
def bS3:US:=(aT (iM (a66<|a7 @1<|a7 (uOp fN (aC 2)<|@1) aK) (cB 5)<|aT (bM 6<|aR c46<|a7 (eJ [5] [none,some 4,some 3,some 5,none] 4 (eZ<|a7 (aC 5) aK) (cB 0) (λρ Q=>Q true ρ)<|uOp fV (uIx (aS 1)<|aC 0)<|uIx (aS 2)<|uOp M.gSub (aC 3)<|aC 0) aK)<|a67 4<|uOp b39 (nZ<|aC 6)<|aC 5) bS2)
def aY4:US:=(aT (bM 4<|eR<|a7 @1 aK) bS3)
def aY5:US:=(aT (bM 3<|eJ [0,1] [none,some 0,some 1,none] 3 (eZ<|a7 (uOp fN (aC 2)<|@1) aK) (cB 0) (λρ Q=>Q true ρ)<|aR aN7<|a7 (aC 1)<|a7 (aR aN4<|a7 (aC 1)<|a7 (aC 2)<|a7 (aC 0) aK) aK) aY4)
def bE8:US:=(aT (bM 2<|a12 "degree"<|aC 0) aY5)
theorem dD1: Ra bE7 bE8 ["r","x","n","s","p","k","t"]:=by
 rintro ds Q ⟨C,p,n,u,rfl,rp,hn,hu,h⟩;have lo:=rp.ok.lo;have hi:=rp.ok.hi;have n2:2<=n:=ae
 have n4:n<=4:=ae
 obtain⟨A,eA⟩: ∃A,A=itT p n u:=⟨_,rfl⟩;rw[<-eA]at h;have cb: ∀k,k<=n->Sm (chn n A k):=λk hk=>by rw[eA];exact Sm.pow (cY9 n2 n4 rp.ok.small hu k hk) ac
 have tb: ∀k,k<=n->Sm (trP n A k):=λk hk=>by rw[eA];exact Sm.pow (bS1 n2 n4 rp.ok.small hu k) ae
 unfold bE8;show(aT _ _:US) _ [~~~iE C p,~~~aI (rwF n u),none,none,none,none,none];rw[aO,nK,oK (C:=C) (p:=p) rfl,show(p.length:Int)-1=(n:Int)by lia]
 show aY5 _ [~~~iE C p,~~~aI (rwF n u),!(n:Int),none,none,none,none]
 unfold aY5;rw[aO,nK];refine cL (t0:=0) (n+1) (λk=> .int (0+(k:Int))) [~~~iE C p,~~~aI (rwF n u),!(n:Int),none,none,none,none] (λQ' q=> ?_) ae (λx l'=>[x,~~~iE C p,~~~aI (rwF n u),↑l']) none rfl (λ_ _ _=>rfl) (λ_ _=>bW _) (λ_ _ _ q=>q) (λ_ _ _=>rfl) (λk=> .int (trP n A k)) ?_ ?_
 .left
  refine⟨⟨ae,ae⟩,?_⟩
  rw[show((n:Int)+1).toNat=n+1 by lia]
  exact q
 .intro k l' Q' hk q';rw[bN]at q'⊢;left;refine⟨C,p,n,u,k,rfl,rp,hn,ae,hu,C,p,n,vC p n u k,rfl,rp,hn,?_⟩
  rw[b74 n2 n4,<-eA];exact q'
 rw[iX];change aY4 _ [~~~iE C p,~~~aI (rwF n u),!(n:Int),↑((rwF (n+1)<|trP n A).map .int),none,none,none];unfold aY4;rw[aO];left;refine⟨ac,?_⟩
 unfold bS3;rw[aO];refine bJ n (λi=> .int (1+(i:Int))) [~~~iE C p,~~~aI (rwF n u),!(n:Int),↑((rwF (n+1)<|trP n A).map .int),↑[.int 1],none,none] (λQ' q=> ?_)
  (λi ρ=> ∃x y,ρ=[~~~iE C p,~~~aI (rwF n u),!(n:Int),↑((rwF (n+1)<|trP n A).map .int),↑((rwF (i+1)<|chn n A).map .int),x,y]) ⟨none,none,by rw[show(rwF (0+1)<|chn n A).map D.int=[.int 1]by show [D.int<|chn n A 0]=_;rw[aA2 n2 n4]]⟩ ?_ ?_
 .left
  refine⟨⟨ae,ae,ae,ae⟩,?_⟩
  rw[show((n:Int)+1-1).toNat=n by lia]
  exact q
 .rintro i ρ hi' ⟨x,y,rfl⟩;have e1:1+(i:Int)=((i+1:Nat):Int):=ae
  rw[e1];refine⟨af,?_⟩
  dsimp only[set_cons_zero,set_cons_succ];rw[aO,nK,d3,cQ]
  refine cL (t0:=0) (i+1) (λk=> .int (0+(k:Int))) [~~~iE C p,~~~aI (rwF n u),!(n:Int),↑((rwF (n+1)<|trP n A).map .int),↑((rwF (i+1)<|chn n A).map .int),!((i+1:Nat):Int),y] (λQ' q=> ?_) ae (λx l'=>[x,some<|.bo<|(rwF (i+1)<|chn n A).map .int,some<|.bo<|(rwF (n+1)<|trP n A).map .int,!((i+1:Nat):Int),↑l']) none rfl (λ_ _ _=>rfl) (λ_ _=>bW _) (λ_ _ _ q=>q) (λ_ _ _=>rfl) (λm=> .int (chn n A m*trP n A (i+1-m))) ?_ ?_
  .left
   refine⟨⟨ae,ae⟩,?_⟩
   rw[bV];exact q
  .intro m l' Q' hm q';rw[bN]at q'⊢;left;rw[iD hm];right;rw[show((i+1:Nat):Int)-(m:Int)=((i+1-m:Nat):Int)by lia,iD<|show i+1-m<n+1 by lia]
   right;exact⟨.inr ⟨cb m ae,tb _ ae⟩,q'⟩
  .rw[iX];left;unfold rwF;rw[qR];right;have nw:=dP2 n2 n4 A (i+1) ae ae
   have e2:(-(List.map (λm=>chn n A m*trP n A (i+1-m))<|List.range<|i+1).sum).fdiv ((i+1:Nat):Int)=chn n A (i+1):=by
    rw[show -(List.map (λm=>chn n A m*trP n A (i+1-m))<|List.range<|i+1).sum=((i+1:Nat):Int)*chn n A (i+1)from nw,rQ _ ae,Int.mul_ediv_cancel_left _ ae]
   rw[e2,aH,aH,qF,show List.map D.int (List.map (chn n A)<|List.range<|i+1)++[D.int<|chn n A<|i+1]=List.map D.int (List.map (chn n A)<|List.range<|i+1+1)by rw[b9 (n:=i+1),bX,bX];rfl]
   exact⟨⟨ae,bK7 ae ae⟩,aZ (show i+1<100 by lia) ac,_,_,rfl⟩
 .rintro ρ ⟨x,y,rfl⟩;right;unfold bS2;left;rw[dP6];exact⟨trivial,h⟩
theorem cR4 (n2:2<=n)(n4:n<=4)(A:Nat->∅):hoF n A 1=jH 1:=by
 funext j
 show oU n (λ_=>0) A j+(if j=0 then chn n A 0 else 0)=jH 1 j
 rw[aA2 n2 n4,show oU n (λ_=>0) A j=0 by
  match n,n2,n4 with
  | 2,_,_=>simp[aS5]
  | 3,_,_=>simp[aG3]
  | 4,_,_=>simp[aA1]]
 unfold jH
 lia
theorem bE9 {p:List Int}{n:Nat}{f g:∅}(n1:1<=n)(h: ∀j,j<n->f j=g j): ∀i j,j<n->itT p n f i j=itT p n g i j
 | 0,j,hj=>h j hj
 | i+1,j,hj=>aY2 n1 (bE9 n1 h i) j hj
theorem bF0 {s:Nat->∅}(h: ∀i j,i<n->j<n->s i j=t i j):tbL n s=tbL n t:=by
 unfold tbL;refine nQ λi hi=> ?_
 exact gG λj hj=>h i j (d6.mp hi) hj
theorem b75 {u' v v':∅}(n1:1<=n)(hu: ∀j,j<n->u j=u' j)(hv: ∀j,j<n->v j=v' j)(j:Nat)(hj:j<n):dW p n u v j=dW p n u' v' j:=
 vD λi hi=>by rw[hv i hi,bE9 n1 hu i j hj]
theorem cR5 (u:∅)(j:Nat)(hj:j<n):cz n u j=u j:=a8 hj
theorem cR6 (n2:2<=n)(n4:n<=4)(u v:∅)(j:Nat)(hj:j<n):dW p n u v j=dW p n v u j:=by
 have h:=dP5 (bR7 (p:=p) (u:=cz n u) (v:=cz n v) n2 n4 (λk hk=>a6 ae) λk hk=>a6 ae) j hj
 rw[b75 ae (cR5 u) (cR5 v) j hj,b75 ae (cR5 v) (cR5 u) j hj]at h
 exact h
theorem dD2 (n2:2<=n)(n4:n<=4)(w:∅)(a b:Nat->∅)(j:Nat):oU n w (λi=>oU n (a i) b) j=oU n (oU n w a) b j:=by
 match n,n2,n4 with
 | 2,_,_=>simp only[aS5];grind
 | 3,_,_=>simp only[aG3];grind
 | 4,_,_=>simp only[aA1];grind
theorem cR7 (n2:2<=n)(n4:n<=4)(u v w:∅)(j:Nat)(hj:j<n):dW p n (dW p n u v) w j=dW p n u (dW p n v w) j:=by
 have h:dW p n (dW p n u v) w j=oU n w (λi=>oU n (itT p n v i) (itT p n u)) j:=vD λi hi=>by rw[bZ3 u v n2 n4 i j hj]
 rw[h,dD2 n2 n4];rfl
theorem bF1 (v w:∅)(c:Int)(a:Nat->∅)(j:Nat):oU n (λi=>v i+c*w i) a j=oU n v a j+c*oU n w a j:=by
 unfold oU;have: ∀k,fZ k (λi=>(v i+c*w i)*a i j)=fZ k (λi=>v i*a i j)+c*fZ k λi=>w i*a i j:=by
  intro k
  induction k with
  | zero=>show(0:Int)=0+c*0;lia
  | succ k ih=>rw[mI,mI,mI,ih];grind
 exact this n
theorem b76 (u v w:∅)(c:Int)(j:Nat):dW p n u (λi=>v i+c*w i) j=dW p n u v j+c*dW p n u w j:=bF1 v w c _ j
theorem bF2 (u v:∅)(c:Int)(j:Nat):dW p n u (λi=>c*v i) j=c*dW p n u v j:=by
 have h:=bF1 (n:=n) (λ_=>0) v c (itT p n u) j
 have e:(λi=>(λ_=>(0:Int)) i+c*v i)=λi=>c*v i:=funext λi=>bN _
 rw[e]at h;have z:oU n (λ_=>0) (itT p n u) j=0:=by
  have:=bF1 (n:=n) (λ_=>0) (λ_=>0) 1 (itT p n u) j
  rw[show(λi=>(λ_=>(0:Int)) i+1*(λ_=>(0:Int)) i)=λ_=>0 from rfl]at this
  lia
 rw[z,bN]at h;exact h
theorem dP7 (n1:1<=n)(u:∅)(j:Nat):dW p n u (jH 1) j=u j:=by
 unfold dW;have: ∀k,1<=k->fZ k (λi=>jH 1 i*itT p n u i j)=u j:=by
  intro k hk
  induction k with
  | zero=>lia
  | succ k ih=>
   rw[mI]
   by_cases z:k=0
   .subst z;show 0+1*u j=u j
    lia
   .rw[ih ae,show jH 1 k=0 from a6 z]
    lia
 exact this n n1
theorem chn_sc (n2:2<=n)(n4:n<=4)(c:Int)(A:Nat->∅)(k:Nat)(kn:k<=n):chn n (λi j=>c*A i j) k=c^k*chn n A k:=by
 match n,n2,n4 with
 | 2,_,_=>
  show ch2 (λi j=>c*A i j) k=c^k*ch2 A k
  match k,kn with
  | 0,_=>exact(kI 1).symm.trans (cR (· *1) (dN c).symm)
  | 1,_=>simp only[ch2];grind
  | 2,_=>simp only[ch2];grind
 | 3,_,_=>
  show ch3 (λi j=>c*A i j) k=c^k*ch3 A k
  match k,kn with
  | 0,_=>exact(kI 1).symm.trans (cR (· *1) (dN c).symm)
  | 1,_=>simp only[ch3];grind
  | 2,_=>simp only[ch3];grind
  | 3,_=>simp only[ch3];grind
 | 4,_,_=>
  show ch4 (λi j=>c*A i j) k=c^k*ch4 A k
  match k,kn with
  | 0,_=>exact(kI 1).symm.trans (cR (· *1) (dN c).symm)
  | 1,_=>simp only[ch4];grind
  | 2,_=>simp only[ch4];grind
  | 3,_=>simp only[ch4];grind
  | 4,_=>simp only[ch4];grind
theorem aS6 {p:List Int}{n:Nat}(u v:∅)(c:Int): ∀i j,itT p n (λi=>u i+c*v i) i j=itT p n u i j+c*itT p n v i j
 | 0,_=>rfl
 | i+1,j=>by
  have e:itT p n (λi=>u i+c*v i) i=λj=>itT p n u i j+c*itT p n v i j:=funext (aS6 u v c i)
  show ttF p n (itT p n (λi=>u i+c*v i) i) j=_
  rw[e,dP1];rfl
def IP (F:Int->Int):Prop:= ∃c:List Int,∀z,F z=fM c z
theorem IP.con (a:Int):IP λ_=>a:=⟨[a],λz=>by show a=0*z+a;lia⟩
theorem IP.id:IP λz=>z:=⟨[0,1],λz=>by show z=(0*z+1)*z+0;lia⟩
theorem IP.add (hF:IP F)(hG:IP G):IP λz=>F z+G z:=by
 obtain⟨a,ha⟩:=hF;obtain⟨b,hb⟩:=hG;have: ∀a b:List Int,∃c,∀z,fM a z+fM b z=fM c z:=by
  intro a
  induction a with
  | nil=>exact λb=>⟨b,λz=>by show 0+fM b z=_;lia⟩
  | cons x a ih=>
   intro b;cases b with
   | nil=>exact⟨x::a,λz=>by show _+0=_;lia⟩
   | cons y b=>
    obtain⟨c,hc⟩:=ih b;refine⟨(x+y)::c,λz=> ?_⟩
    show fM a z*z+x+(fM b z*z+y)=fM c z*z+(x+y)
    rw[<-hc]
    grind
 obtain⟨c,hc⟩:=this a b;exact⟨c,λz=>by show F z+G z=_;rw[ha,hb,hc]⟩
theorem IP.mul (hF:IP F)(hG:IP G):IP λz=>F z*G z:=by
 obtain⟨a,ha⟩:=hF;have: ∀a:List Int,IP λz=>fM a z*G z:=by
  intro a
  induction a with
  | nil=>exact⟨[],λz=>dA _⟩
  | cons x a ih=>
   obtain⟨c,hc⟩:=ih;obtain⟨b,hb⟩:=hG;obtain⟨d,hd⟩:=IP.add (F:=λz=>fM (0::c) z) (G:=λz=>fM (b.map (x*·)) z) ⟨_,λ_=>rfl⟩ ⟨_,λ_=>rfl⟩
   refine⟨d,λz=> ?_⟩
   rw[<-hd];have e: ∀b:List Int,fM (b.map (x*·)) z=x*fM b z:=by
    intro b
    induction b with
    | nil=>show(0:Int)=x*0;lia
    | cons y b ih=>
     show fM (b.map (x*·)) z*z+x*y=x*(fM b z*z+y)
     rw[ih]
     grind
   show(fM a z*z+x)*G z=fM c z*z+0+fM (b.map (x*·)) z
   rw[e,<-hb,<-hc]
   grind
 obtain⟨c,hc⟩:=this a;exact⟨c,λz=>by show F z*G z=_;rw[ha];exact hc z⟩
theorem IP.det (n2:2<=n)(n4:n<=4){M:Int->Nat->∅}(h: ∀i j,IP λz=>M z i j):IP λz=>jG 4 (tbL n<|M z):=by
 match n,n2,n4 with
 | 2,_,_=>
  simp only[bD9]
  repeat' first|exact h _ _|exact IP.con _|apply IP.add|apply IP.mul
 | 3,_,_=>
  simp only[bE0]
  repeat' first|exact h _ _|exact IP.con _|apply IP.add|apply IP.mul
 | 4,_,_=>
  simp only[bE1]
  repeat' first|exact h _ _|exact IP.con _|apply IP.add|apply IP.mul
theorem cR8 {P:Int}: ∀(W:Nat) (h:∅) (c:List Int),(∀z,z≠0->fM (rwF W h) z=P*fM c z)-> ∀m,m<W->P∣h m
 | 0,_,_,_,m,hm=>absurd hm (aM2 _)
 | W+1,h,c,hv,m,hm=>by
  obtain⟨c0,c',hc⟩: ∃c0 c',∀z,fM c z=fM c' z*z+c0:=by
   cases c with
   | nil=>exact⟨0,[],λz=>by show(0:Int)=0*z+0;lia⟩
   | cons a c=>exact⟨a,c,λz=>rfl⟩
  have e:rwF (W+1) h=h 0::rwF W λj=>h (j+1):=by
   unfold rwF;rw[List.range_succ_eq_map,cN,gD];rfl
  have hz: ∀z,z≠0->(fM (rwF W λj=>h (j+1)) z-P*fM c' z)*z=P*c0-h 0:=λz z0=>by
   have:=hv z z0;rw[e,hc]at this;have:fM (rwF W λj=>h (j+1)) z*z+h 0=P*(fM c' z*z+c0):=this
   grind
  have h0:P*c0-h 0=0:=by
   have d:=hz (((P*c0-h 0).natAbs:Int)+1) ae
   refine yX λne=> ?_
   have:=Int.le_of_dvd (a:=((P*c0-h 0).natAbs:Int)+1) (b:=((P*c0-h 0).natAbs:Int)) ae (Int.dvd_natAbs.mpr ⟨_,d.symm.trans<|eG _ _⟩)
   lia
  have rc:=cR8 (P:=P) W (λj=>h (j+1)) c' λz z0=>by
   have:=hz z z0;rw[h0]at this;rcases Int.mul_eq_zero.mp this with q|q
   .lia
   .exact absurd q z0
  cases m with
  | zero=>exact⟨c0,ae⟩
  | succ m=>exact rc m ae
theorem jM (a:∅)(z:Int): ∀U,fM (rwF (U+1) a) z=fM (rwF U a) z+a U*z^U:=by
 intro U;have: ∀(l:List Int) (x:Int),fM (l++[x]) z=fM l z+x*z^l.length:=by
  intro l
  induction l with
  | nil=>intro x;show 0*z+x=0+x*z^0;rw[dN];lia
  | cons y l ih=>
   intro x;show fM (l++[x]) z*z+y=fM l z*z+y+x*z^(l.length+1);rw[ih,fQ]
   grind
 have e:rwF (U+1) a=rwF U a++[a U]:=by
  unfold rwF;rw[b9,bX];rfl
 rw[e,this,nM]
theorem bZ4 (a b:∅)(c z:Int): ∀U,fM (rwF U λj=>a j+c*b j) z=fM (rwF U a) z+c*fM (rwF U b) z
 | 0=>by show(0:Int)=0+c*0;lia
 | U+1=>by rw[jM,jM,jM,bZ4 a b c z U];grind
theorem cR9 {a b:∅}(z:Int)(h: ∀j,j<U->a j=b j):fM (rwF U a) z=fM (rwF U b) z:=by rw[gG h]
theorem dD3 (b:∅)(z:Int)(k:Nat): ∀V,fM (rwF (k+V)<|shF b k) z=z^k*fM (rwF V b) z
 | 0=>by
  have: ∀m,m<=k->fM (rwF m<|shF b k) z=0:=by
   intro m
   induction m with
   | zero=>exact λ_=>rfl
   | succ m ih=>exact λh=>by rw[jM,ih ae,show shF b k m=0 from a6 ae,dA];rfl
  exact(this k<|aF _).trans (bT _).symm
 | V+1=>by
  rw[<-iB,jM,dD3 b z k V,jM,show shF b k (k+V)=b V by unfold shF;rw[a8 ae,show k+V-k=V by lia],pow_add]
  grind
theorem bF3 {a b:∅}{V:Nat}(hb: ∀j,V<=j->b j=0)(z:Int)(W:Nat): ∀U,U<=W->fM (rwF (W+V)<|conv a b U) z=fM (rwF U a) z*fM (rwF V b) z
 | 0,_=>by
  have: ∀m,fM (rwF m<|conv a b 0) z=0:=by
   intro m
   induction m with
   | zero=>rfl
   | succ m ih=>rw[jM,ih,show conv a b 0 m=0 from rfl,dA];rfl
  exact(this _).trans (dA _).symm
 | U+1,h=>by
  have e1:fM (rwF (W+V)<|conv a b (U+1)) z=fM (rwF (W+V) λj=>conv a b U j+a U*shF b U j) z:=cR9 z λj _=>rfl
  have e2:fM (rwF (W+V)<|shF b U) z=fM (rwF (U+V)<|shF b U) z:=by
   have: ∀k,fM (rwF (U+V+k)<|shF b U) z=fM (rwF (U+V)<|shF b U) z:=by
    intro k
    induction k with
    | zero=>rfl
    | succ k ih=>rw[<-iB,jM,ih,show shF b U (U+V+k)=0 by unfold shF;rw[a8 ae,hb _ ae],dA,eF]
   rw[show W+V=U+V+(W-U)by lia,this]
  rw[e1,bZ4,bF3 hb z W U ae,e2,dD3,jM]
  grind
theorem dD4 (pr:PrI P){d:Nat}: ∀(N r s:Nat) (a b:∅),r+s<=N->(∀j,d<j->a j=0)->(∀j,e<j->b j=0)->b e=P^s->(∀m,P^(s+r)∣conv a b (d+1) m)-> ∀j,P^r∣a j:=by
 have lo:=pr.lo;intro N
 induction N with
 | zero=>
  intro r s a b hN _ _ _ _ j;rw[show r=0 by lia,dN]
  exact one_dvd _
 | succ N ih=>
  intro r s a b hN ha hb be h j;cases r with
  | zero=>rw[dN];exact one_dvd _
  | succ r=>
   rcases dN6 pr (e:=e) (λm=>Int.dvd_trans ⟨P^(s+r),by rw[<-iB,fQ,eG]⟩ (h m))with c|c
   .obtain⟨a',ha',ea⟩:=cQ4 ha c;have rc:=ih r s a' b ae ha' hb be (λm=>by
     have:=h m;rw[show a=λj=>P*a' j from funext ea,aX2,<-iB,fQ,eG<|P^(s+r)]at this
     exact aI1 ae this) j
    rw[ea,fQ,eG];exact Int.mul_dvd_mul_left P rc
   .cases s with
    | zero=>
     have:=c e (aF _);rw[be,dN]at this;have:=Int.le_of_dvd ac this
     lia
    | succ s=>
     obtain⟨b',hb',eb⟩:=cQ4 hb c;refine ih (r+1) s a b' ae ha hb' ?_ (λm=> ?_) j
     .rw[eb,fQ,eG]at be;exact Int.eq_of_mul_eq_mul_right ae be
     .have:=h m;rw[show b=λj=>P*b' j from funext eb,bQ9,show s+1+(r+1)=s+(r+1)+1 by lia,fQ,eG<|P^(s+(r+1))]at this
      exact aI1 ae this
theorem dD5 (pr:PrI P){d:Nat}(r s:Nat)(a b:∅)(ha: ∀j,d<j->a j=0)(hb: ∀j,e<j->b j=0)(be:b e=P^s)(h: ∀m,P^(s+r)∣conv a b (d+1) m): ∀j,P^r∣a j:=dD4 pr (r+s) r s a b (aF _) ha hb be h
theorem c91 (u v w:∅)(c:Int)(j:Nat):dW p n (λi=>u i+c*v i) w j=dW p n u w j+c*dW p n v w j:=by
 show(fZ n λi=>w i*itT p n (λi=>u i+c*v i) i j)=_
 have: ∀m,(fZ m λi=>w i*itT p n (λi=>u i+c*v i) i j)=(fZ m λi=>w i*itT p n u i j)+c*fZ m λi=>w i*itT p n v i j:=by
  intro m
  induction m with
  | zero=>show(0:Int)=0+c*0;lia
  | succ m ih=>rw[mI,mI,mI,ih,aS6];grind
 exact this n
theorem dP8 (n1:1<=n)(u:∅)(w:Int)(j:Nat):dW p n u (jH w) j=w*u j:=by
 have e:jH w=λj=>w*jH 1 j:=funext λj=>by unfold jH;split<;>lia
 rw[e,bF2,dP7 n1]
theorem nr_val (n2:2<=n)(n4:n<=4)(z:Int):nrm p n (λj=>jH z j+(-1)*u j)=fM (rwF (n+1) λj=>chn n (itT p n u) (n-j)) z:=by
 rw[dP4 n2 n4];unfold nrm;refine cR (jG 4) (bF0 λi j hi hj=> ?_)
 have e:(λj=>jH z j+(-1)*u j)=λj=>(λj=>(-1)*u j) j+z*jH 1 j:=by
  funext j
  unfold jH;split<;>lia
 have e2:(λj=>(-1)*u j)=λj=>(λ_=>(0:Int)) j+(-1)*u j:=funext λj=>ae
 have e3: ∀i j,itT p n (λ_=>0) i j=0:=by
  intro i
  induction i with
  | zero=>exact λ_=>rfl
  | succ i ih=>
   intro j;show ttF p n (itT p n (λ_=>0) i) j=0
   rw[show itT p n (λ_=>0) i=λ_=>0 from funext ih]
   unfold ttF;split<;>simp
 rw[e,aS6,e2,aS6,e3,cK3 n2 n4 i j hi hj]
 lia
theorem dD6 (a:∅)(q z:Int): ∀U,fM (rwF U a) (q*z)=fM (rwF U λj=>a j*q^j) z
 | 0=>rfl
 | U+1=>by rw[jM,jM,dD6 a q z U,Int.mul_pow];grind
theorem dD7 (n2:2<=n)(n4:n<=4)(c:Int)(u:∅):nrm p n (λj=>c*u j)=c^n*nrm p n u:=by
 have e: ∀i j,itT p n (λj=>c*u j) i j=c*itT p n u i j:=λi j=>by
  have:=aS6 (p:=p) (n:=n) u u (c-1) i j;rw[show(λi=>u i+(c-1)*u i)=λj=>c*u j from funext λj=>by grind]at this
  rw[this]
  grind
 have h:=chn_sc n2 n4 c (itT p n u) n (aF _);rw[cR3 n2 n4,cR3 n2 n4]at h;unfold nrm;rw[aY3 λi j _=>e i j]
 split at h<;>lia
theorem dP9 (n1:1<=n){v:∅}(h: ∀j,j<n->u j=v j):nrm p n u=nrm p n v:=by
 unfold nrm;rw[aY3 λi j hj=>bE9 n1 h i j hj]
def DL (e:Nat)(L:Int)(F:Int->Int):Prop:= ∃b:∅,(∀j,e<j->b j=0)/\b e=L/\ ∀z,F z=fM (rwF (e+1) b) z
theorem bF4 {b:∅}{e:Nat}(hb: ∀j,e<j->b j=0)(z:Int): ∀k,fM (rwF (e+1+k) b) z=fM (rwF (e+1) b) z
 | 0=>rfl
 | k+1=>by rw[<-iB,jM,bF4 hb z k,hb _ ae,dA,eF]
theorem DL.con (c:Int):DL 0 c λ_=>c:=⟨λj=>if j=0 then c else 0,λj hj=>a6 ae,rfl,λz=>by show c=0*z+c;lia⟩
theorem bF5 (z:Int): ∀m,fM (rwF m λ_=>0) z=0
 | 0=>rfl
 | m+1=>by rw[jM,bF5 z m,dA];rfl
theorem DL.zero (e:Nat):DL e 0 λ_=>0:=⟨λ_=>0,λ_ _=>rfl,rfl,λz=>(bF5 z _).symm⟩
theorem DL.lin {M:Int}(hF:DL e L F)(hG:DL e M G)(c:Int):DL e (L+c*M) λz=>F z+c*G z:=by
 obtain⟨a,a1,a2,a3⟩:=hF;obtain⟨b,b1,b2,b3⟩:=hG;refine⟨λj=>a j+c*b j,λj hj=> ?_,?_,λz=> ?_⟩
 .show a j+c*b j=0
  rw[a1 j hj,b1 j hj,bT];rfl
 .show a e+c*b e=_
  rw[a2,b2]
 .rw[bZ4,<-a3,<-b3]
theorem DL.add {M:Int}(hF:DL e L F)(hG:DL e M G):DL e (L+M) λz=>F z+G z:=by
 have:=hF.lin hG 1;simp only[kI]at this;exact this
theorem DL.mul {f:Nat}{M:Int}(hF:DL e L F)(hG:DL f M G):DL (e+f) (L*M) λz=>F z*G z:=by
 obtain⟨a,a1,a2,a3⟩:=hF;obtain⟨b,b1,b2,b3⟩:=hG;have hb: ∀j,f+1<=j->b j=0:=λj hj=>b1 j ae
 have top: ∀U m,U+f<=m->conv a b U m=0:=λU=>by
  induction U with
  | zero=>exact λm _=>rfl
  | succ U ih=>
   intro m hm;show conv a b U m+a U*shF b U m=0;rw[ih m ae]
   unfold shF;rw[a8 ae,b1 _ ae,bT]
   rfl
 refine⟨conv a b (e+1),λj hj=>top (e+1) j ae,?_,λz=> ?_⟩
 .show conv a b e (e+f)+a e*shF b e (e+f)=_
  rw[top e (e+f)<|aF _];unfold shF;rw[a8 ae,show e+f-e=f by lia,a2,b2,bN]
 .have v:=bF3 hb z (e+1) (e+1) (aF _) (a:=a);have l:=bF4 (b:=conv a b (e+1)) (e:=e+f) (λj hj=>top (e+1) j ae) z 1
  rw[show e+f+1+1=e+1+(f+1)by lia]at l
  show F z*G z=_
  rw[a3,b3,<-v,l]
theorem DL.up (h:DL e L F):DL (e+1) 0 F:=by
 obtain⟨a,a1,a2,a3⟩:=h;exact⟨a,λj hj=>a1 j ae,a1 _ ae,λz=>(a3 z).trans (bF4 a1 z 1).symm⟩
theorem DL.byZ (h:DL e L F):DL (e+1) L λz=>z*F z:=by
 have i:DL 1 1 λz=>z:=⟨λj=>if j=1 then 1 else 0,λj hj=>a6 ae,rfl,λz=>by show z=(0*z+1)*z+0;lia⟩
 have:=h.mul i;rw[kG]at this;simp only[eG]at this⊢;exact this
theorem DL.det {d:Nat}(n2:2<=n)(n4:n<=4){M:Int->Nat->∅}{l:Nat->∅}(h: ∀i j,i<n->j<n->DL d (l i j) λz=>M z i j): ∃e,DL e (jG 4<|tbL n l) λz=>jG 4 (tbL n<|M z):=by
 match n,n2,n4 with
 | 2,_,_=>
  simp only[bD9];refine⟨0+d+d,?_⟩
  repeat' first|exact h _ _ ac ac|exact DL.zero _|exact DL.con _|refine DL.add ?_ ?_|refine DL.mul ?_ ?_
 | 3,_,_=>
  simp only[bE0];refine⟨0+d+(0+d+d),?_⟩
  repeat' first|exact h _ _ ac ac|exact DL.zero _|exact DL.con _|refine DL.add ?_ ?_|refine DL.mul ?_ ?_
 | 4,_,_=>
  simp only[bE1];refine⟨0+d+(0+d+(0+d+d)),?_⟩
  repeat' first|exact h _ _ ac ac|exact DL.zero _|exact DL.con _|refine DL.add ?_ ?_|refine DL.mul ?_ ?_
section
variable {p:List Int}{n:Nat}{x y d:∅}{q:Int}
nonrec def vz (p:List Int)(n:Nat)(x y:∅)(q z:Int):Nat->∅
 | 0=>λ_=>0
 | k+1=>λj=>q*z*vz p n x y q z k j+(-q)*dW p n y (vz p n x y q z k) j+hoF n (itT p n x) (k+1) j
nonrec def qz (p:List Int)(n:Nat)(y d:∅)(z:Int):Nat->∅
 | 0=>jH 1
 | k+1=>λj=>z*qz p n y d z k j+(-1)*dW p n y (qz p n y d z k) j+d (k+1)*jH 1 j
theorem c92 (n2:2<=n)(n4:n<=4)(c:Int)(w:∅)(j:Nat)(hj:j<n):dW p n (jH c) w j=c*w j:=by
 rw[cR6 n2 n4 _ _ j hj,dP8 ae]
theorem dU8 (n2:2<=n)(n4:n<=4)(z:Int)(hc: ∀k,k<=n->chn n (itT p n x) k=q^k*d k): ∀k,k<=n-> ∀j,j<n->dW p n (λi=>jH (q*z) i+(-1)*(x i+q*y i)) (vz p n x y q z k) j=q^k*qz p n y d z k j+(-1)*hoF n (itT p n x) (k+1) j
 | 0,_,j,hj=>by
  have e:vz p n x y q z 0=λi=>0*jH 1 i:=funext λi=>by show(0:Int)=_;lia
  rw[e,bF2,cR4 n2 n4,dN];show 0*_=1*jH 1 j+(-1)*jH 1 j
  lia
 | k+1,hk,j,hj=>by
  have ih:=dU8 n2 n4 z hc k ae
  have n1:1<=n:=ae
  generalize eV:vz p n x y q z k=V at ih;generalize eQ:qz p n y d z k=R at ih;generalize eP:hoF n (itT p n x) (k+1)=P at ih;have sV:vz p n x y q z (k+1)=λj=>(λj=>(λj=>0*jH 1 j+(q*z)*V j) j+(-q)*dW p n y V j) j+1*P j:=funext λj=>by
   show q*z*vz p n x y q z k j+(-q)*dW p n y (vz p n x y q z k) j+hoF n (itT p n x) (k+1) j=_
   rw[eV,eP]
   lia
  have sQ:qz p n y d z (k+1) j=z*R j+(-1)*dW p n y R j+d (k+1)*jH 1 j:=by
   show z*qz p n y d z k j+(-1)*dW p n y (qz p n y d z k) j+d (k+1)*jH 1 j=_
   rw[eQ]
  have sP:hoF n (itT p n x) (k+1+1) j=dW p n x P j+q^(k+1)*d (k+1)*jH 1 j:=by
   show oU n (hoF n (itT p n x)<|k+1) (itT p n x) j+(if j=0 then chn n (itT p n x) (k+1)else 0)=_
   rw[eP,hc (k+1) hk,<-dD0];unfold jH;split<;>lia
  obtain⟨A,eA⟩: ∃A,A=λi=>jH (q*z) i+(-1)*(x i+q*y i):=⟨_,rfl⟩
  rw[<-eA]at ih⊢;have AP:dW p n A P j=q*z*P j+(-1)*(dW p n x P j+q*dW p n y P j):=by
   rw[eA,c91,c92 n2 n4 _ _ j hj,c91]
  have yA:dW p n A (dW p n y V) j=q^k*dW p n y R j+(-1)*dW p n y P j:=by
   rw[<-cR7 n2 n4 _ _ _ j hj,b75 (u':=dW p n y A) (v':=V) n1 (cR6 n2 n4 _ _) (λ_ _=>rfl) j hj,cR7 n2 n4 _ _ _ j hj,b75 (u':=y) (v':=λi=>(λi=>q^k*R i) i+(-1)*P i) n1 (λ_ _=>rfl) ih j hj,b76,bF2]
  rw[sV,b76,b76,b76,bF2,ih j hj,AP,yA,sQ,sP,fQ]
  grind
theorem DL.up0 (c:Int): ∀e,DL (e+1) 0 λ_=>c
 | 0=>(DL.con c).up
 | e+1=>(DL.up0 c e).up
theorem DL.sumL {e:Nat}{F:Int->∅}{L:∅}(c:∅): ∀m,(∀i,DL e (L i) λz=>F z i)->DL e (fZ m λi=>L i*c i) λz=>fZ m λi=>F z i*c i
 | 0,_=>DL.zero e
 | m+1,h=>by
  have:=(DL.sumL c m h).lin (h m) (c m);simp only[mI];rw[eG<|L m,show(λz=>fZ m (λi=>F z i*c i)+F z m*c m)=λz=>fZ m (λi=>F z i*c i)+c m*F z m from funext λz=>by rw[eG<|F z m]]
  exact this
theorem dU9 (n2:2<=n)(n4:n<=4): ∀k j,DL k (q^k*jH 1 j) λz=>vz p n x y q z (k+1) j
 | 0,j=>by
  have e:(λz=>vz p n x y q z (0+1) j)=λ_=>q^0*jH 1 j:=funext λz=>by
   show q*z*0+(-q)*dW p n y (λ_=>0) j+hoF n (itT p n x) (0+1) j=_
   rw[show(λ_=>(0:Int))=λi=>0*jH 1 i from funext λi=>ae,bF2,cR4 n2 n4,dN]
   lia
  rw[e];exact DL.con _
 | k+1,j=>by
  have ih:=dU9 n2 n4 k;have t:=DL.sumL (λi=>itT p n y i j) n ih
  have:=(((DL.zero<|k+1).lin (ih j).byZ q).lin t.up<|-q).add (DL.up0 (hoF n (itT p n x) (k+1+1) j) k);have e:(λz=>vz p n x y q z (k+1+1) j)=λz=>0+q*(z*vz p n x y q z (k+1) j)+ -q*(fZ n λi=>vz p n x y q z (k+1) i*itT p n y i j)+hoF n (itT p n x) (k+1+1) j:=funext λz=>by
   show q*z*vz p n x y q z (k+1) j+(-q)*dW p n y (vz p n x y q z<|k+1) j+hoF n (itT p n x) (k+1+1) j=_
   rw[show dW p n y (vz p n x y q z<|k+1) j=fZ n λi=>vz p n x y q z (k+1) i*itT p n y i j from rfl]
   grind
  rw[e,show q^(k+1)*jH 1 j=0+q*(q^k*jH 1 j)+ -q*0+0 by rw[fQ];grind]
  exact this
theorem DL.it {e:Nat}{v:Int->∅}{l:∅}(h: ∀j,DL e (l j) λz=>v z j): ∀i j,DL e (itT p n l i j) λz=>itT p n (v z) i j
 | 0,j=>h j
 | i+1,j=>by
  have ih:=DL.it h i;have et: ∀f:∅,ttF p n f j=(if j=0 then 0 else f (j-1))+(-p.getD j 0)*f (n-1):=λf=>by unfold ttF;split<;>grind
  show DL e (ttF p n (itT p n l i) j) λz=>ttF p n (itT p n (v z) i) j
  simp only[et];refine DL.lin ?_ (ih<|n-1) _
  by_cases c:j=0
  .simp only[a8 c];exact DL.zero e
  .simp only[a6 c];exact ih (j-1)
theorem IP.sumI {F:Int->∅}(c:∅)(h: ∀i,IP λz=>F z i): ∀m,IP λz=>fZ m λi=>F z i*c i
 | 0=>IP.con 0
 | m+1=>by
  simp only[mI];exact(IP.sumI c h m).add ((h m).mul<|IP.con _)
theorem dV0: ∀k j,IP λz=>qz p n y d z k j
 | 0,j=>IP.con _
 | k+1,j=>by
  have ih:=dV0 k;exact((IP.id.mul<|ih j).add<|(IP.con<|-1).mul<|IP.sumI (λi=>itT p n y i j) ih n).add (IP.con _)
theorem IP.it {v:Int->∅}(h: ∀j,IP λz=>v z j): ∀i j,IP λz=>itT p n (v z) i j
 | 0,j=>h j
 | i+1,j=>by
  have ih:=IP.it h i;have e: ∀f:∅,ttF p n f j=(if j=0 then 0 else f (j-1))+(-p.getD j 0)*f (n-1):=λf=>by unfold ttF;split<;>grind
  show IP λz=>ttF p n (itT p n (v z) i) j
  simp only[e];refine IP.add ?_ ((IP.con _).mul<|ih<|n-1)
  by_cases c:j=0
  .simp only[a8 c];exact IP.con 0
  .simp only[a6 c];exact ih (j-1)
theorem dQ0 (n2:2<=n)(n4:n<=4):nrm p n (jH 1)=1:=by
 unfold nrm;rw[bF0 (t:=λi j=>if i=j then 1 else 0) λi j hi hj=>cK3 n2 n4 i j hi hj]
 match n,n2,n4 with
 | 2,_,_=>decide
 | 3,_,_=>decide
 | 4,_,_=>decide
theorem c93 (n2:2<=n)(n4:n<=4)(pr:PrI q)(h: ∀k,k<=n->q^k∣chn n (itT p n x) k)(y:∅)(k:Nat)(hk:k<=n):q^k∣chn n (itT p n λi=>x i+q*y i) k:=by
 have n1:1<=n:=ae
 have lo:=pr.lo;obtain⟨d,hd⟩: ∃d:∅,∀k,k<=n->chn n (itT p n x) k=q^k*d k:=⟨λk=>chn n (itT p n x) k/q^k,λk hk=>(Int.mul_ediv_cancel'<|h k hk).symm⟩
 obtain⟨e,b,b1,b2,b3⟩:=DL.det n2 n4 (λi j _ _=>DL.it (p:=p) (n:=n) (dU9 (p:=p) (x:=x) (y:=y) (q:=q) n2 n4<|n-1) i j)
 obtain⟨D,hD⟩:=IP.det n2 n4 (IP.it (p:=p) (n:=n)<|dV0 (p:=p) (n:=n) (y:=y) (d:=d) n);rw[show n-1+1=n by lia]at b3
 let a:∅:=λj=>if j<=n then chn n (itT p n λi=>x i+q*y i) (n-j)*q^j else 0
 have hv: ∀z,fM (rwF (n+1+(e+1))<|conv a b (n+1)) z=q^(n*n)*fM D z:=λz=>by
  rw[bF3 (V:=e+1) (λj hj=>b1 j ae) z (n+1) (n+1)<|aF _,<-hD z,<-b3 z]
  rw[cR9 z (b:=λj=>chn n (itT p n λi=>x i+q*y i) (n-j)*q^j) λj hj=>a8 ae,<-dD6,<-nr_val n2 n4]
  show nrm p n _*nrm p n (vz p n x y q z n)=q^(n*n)*nrm p n (qz p n y d z n)
  rw[<-dP0 _ _ n2 n4,Int.pow_mul,<-dD7 n2 n4];refine dP9 n1 λj hj=> ?_
  rw[dU8 n2 n4 z hd n (aF _) j hj,dP3 n2 n4 _ j hj]
  lia
 have hc: ∀m,q^((n-1)*n+n)∣conv a b (n+1) m:=λm=>by
  rw[show(n-1)*n+n=n*n by rw[Nat.sub_mul,one_mul];have:n<=n*n:=Nat.le_mul_of_pos_left n n1;lia]
  by_cases hm:m<n+1+(e+1)
  .exact cR8 (P:=q^(n*n)) _ (conv a b (n+1)) D (λz _=>hv z) m hm
  .rw[b15 (V:=e+1) (λj hj=>b1 j ae) (n+1) m ae]
   exact Int.dvd_zero _
 have be:b e=q^((n-1)*n):=by
  rw[b2];show nrm p n (λj=>q^(n-1)*jH 1 j)=_
  rw[dD7 n2 n4,dQ0 n2 n4,kG,Int.pow_mul]
 have g:=dD5 pr (d:=n) (e:=e) n ((n-1)*n) a b (λj hj=>a6 ae) b1 be hc (n-k)
 have g2:q^n∣(if n-k<=n then chn n (itT p n λi=>x i+q*y i) (n-(n-k))*q^(n-k)else 0):=g
 rw[a8 ae,show n-(n-k)=k by lia]at g2
 rw[show q^n=q^(n-k)*q^k by rw[<-pow_add];congr 1;lia,eG<|chn n _ k]at g2
 exact aI1 (Int.ne_of_gt<|pow_pos ae) g2
end
def aA3:Φ:=λds Q=> ∃(b:Int) (k:Nat),ds=[.int b,.int (k:Int)]/\k<=4/\0<=b/\b<200/\Q (.pu<|.int<|b^k)
def aG4:US:=(rP 2)
def aG5:US:=(aT (iM (eZ<|a7 (aC 1) aK) (cB 3)<|bM 2<|uOp fV (aC 2)<|aC 0) aG4)
def aA4:US:=(aT (bM 2<|@1) aG5)
theorem c94: Ra aA3 aA4 ["b","k","v","s"]:=by
 rintro ds Q ⟨b,k,rfl,k4,b0,b2,h⟩;unfold aA4;show(aT _ _:US) _ [!b,!(k:Int),none,none];rw[aO];left;unfold aG5;rw[aO];refine bJ k (λi=> .int (0+(i:Int))) [!b,!(k:Int),!1,none] (λQ' q=> ?_) (λi ρ=> ∃x,ρ=[!b,!(k:Int),!b^i,x]) ⟨none,by rw[dN]⟩ ?_ ?_
 .left
  refine⟨⟨ae,ae⟩,?_⟩
  rw[bV];exact q
 .rintro i ρ hi ⟨x,rfl⟩;left;exact⟨af,cmR ae ae,_,by rw[fQ]⟩
 .rintro ρ ⟨x,rfl⟩;try right
  unfold aG4;left;exact h
def aA5:ΦM:=λds Q Ex=> ∃p:List Int,ds=[aI p]/\p.length<=1000/\Q [aI p,.int<|(p.length:Int)-1]
theorem cZ1: ∀ds Q Ex,aA5 ds Q Ex->ds.length+1=2:=by rintro ds Q Ex ⟨p,rfl,_⟩;rfl
def aS7:UE:=(aC 1)
def bF6:UE:=(uOp M.gSub (jU<|aS 1)<|@1)
theorem dD8: ∀a ds Q Ex,aA5 ds Q Ex->(init ["self","poly"] (.adr a::ds))[0]? =some (~~~.adr a)/\aS7 (init ["self","poly"] (.adr a::ds)) λb1 ρ1=>bF6 ρ1 λb2 _=>Q [b1.d,b2.d]:=by
 rintro a ds Q Ex ⟨p,rfl,_,h⟩;refine⟨rfl,?_⟩;show aS7 [~~~.adr a,~~~.tup (p.map .int)] _;unfold aS7 bF6;left;rw[aH];exact h
nonrec def wB (q:Int)(p:List Int)(n:Nat)(u:∅):Bool:=(List.range n).all λi=>chn n (itT p n u) (n-i)%q^(n-i)==0
theorem wB_iff :wB q p n u=true↔ ∀k,k<=n->q^k∣chn n (itT p n u) k:=by
 unfold wB;rw[dJ];constructor
 .intro h k hk
  by_cases c:k=0
  .rw[c,dN];exact one_dvd _
  .have:=h (n-k) (d6.mpr ae)
   rw[show n-(n-k)=k by lia]at this
   exact l6 (eH.mp this)
 .intro h i hi;exact eH.mpr (jY<|h (n-i) ae)
def qX:Φ:=λds Q=> ∃(p:List Int) (n:Nat) (q:Int) (u:∅),ds=[aI p,.int q,aI<|rwF n u]/\dG p/\p.length=n+1/\2<=q/\q<200/\(∀j,(u j).natAbs<=2^400)/\Q (.pu<|.bl<|wB q p n u)
def vE:US:=(cZ<|aR cH0<|a7 (eJ [1,3] [none,some 4,some 1,some 3,none] 4 (eZ<|a7 (aC 3) aK) (cB 0) (λρ Q=>Q true ρ)<|uOp (kR false) (uOp oS (uIx (aS 1)<|aC 0)<|aR aA3<|a7 (aC 2)<|a7 (uOp M.gSub (aC 3)<|aC 0) aK)<|@0) aK)
def o9:US:=(aT (bM 4<|aR bE7<|a7 (c63 ["poly","degree"] aA5<|a7 (aC 0) aK)<|a7 (aC 2) aK) vE)
def qY:US:=(aT (bM 3<|uOp M.gSub (jU<|aS 0)<|@1) o9)
theorem aY6: Ra qX qY ["f","p","x","n","w"]:=by
 rintro ds Q ⟨p,n,q,u,rfl,rp,hn,q2,q3,hu,h⟩;have lo:=rp.ok.lo;have hi:=rp.ok.hi;unfold qY;show(aT _ _:US) _ [~~~.tup (p.map .int),!q,~~~aI (rwF n u),none,none];rw[aO];left;rw[aH,show(p.length:Int)-1=(n:Int)by lia]
 change o9 _ [~~~aI p,!q,~~~aI (rwF n u),!(n:Int),none]
 unfold o9;rw[aO];left;refine⟨p,rfl,ae,λC=>⟨C,p,n,u,rfl,rp,hn,hu,?_⟩⟩
 try right
 obtain⟨c,ec⟩: ∃c:∅,c=chn n (itT p n u):=⟨_,rfl⟩;unfold wB at h;rw[<-ec]at h⊢;unfold vE;rw[iI,d3,cQ]
 refine cL (t0:=0) n (λk=> .int (0+(k:Int))) [~~~aI p,!q,~~~aI (rwF n u),!(n:Int),some<|.pu<|aI<|rwF (n+1) λj=>c (n-j)] (λQ' q'=> ?_) ae (λx l=>[x,some<|.pu<|aI<|rwF (n+1) λj=>c (n-j),!q,!(n:Int),↑l]) none rfl (λ_ _ _=>rfl) (λ_ _=>bW _) (λ_ _ _ q=>q) (λ_ _ _=>rfl) (λi=> .bl (c (n-i)%q^(n-i)==0)) ?_ ?_
 .left
  refine⟨⟨ae,ae⟩,?_⟩
  rw[bV];exact q'
 .intro i l Q' hi' q';rw[bN]at q'⊢;have e1:atI ((rwF (n+1) λj=>c (n-j)).map D.int) (i:Int)=some (.int<|c<|n-i):=iD ae
  have pp:0<q^(n-i):=pow_pos ae
  simp only[aI];left;rw[e1];right;refine⟨q,n-i,by rw[show(n:Int)-(i:Int)=((n-i:Nat):Int)by lia],ae,ae,q3,?_⟩
  try right
  refine⟨ae,?_⟩
  rw[dE _ pp];exact q'
 .rw[show(List.range n).map (λi=>D.bl (c (n-i)%q^(n-i)==0))=((List.range n).map λi=>c (n-i)%q^(n-i)==0).map D.bl by rw[gD];rfl]
  left
  rw[qQ];right;rw[all_map];exact h
theorem Pr.no_zero {p:Int}(pp:Pr p)(h:a*b%p=0):a%p=0\/b%p=0:=by
 have p2:=pp.lo
 by_cases c:a%p=0
 .exact .inl c
 .refine .inr ?_
  have a0:=d5 a (show p≠0 by lia)
  have a1:=d4 a (show 0<p by lia)
  have iv:=pp.inv (a%p) ae a1
  generalize bK9 (a%p) p (p.toNat-2)=t at iv;have e:b%p=(t*(a%p))%p*b%p:=by rw[iv,kI]
  rw[e,emL,kD,<-emR,emL a b p,h,bT,eC]
theorem Pr.or (pq:Pr q)(h:q∣a*b):q∣a\/q∣b:=by
 rcases pq.no_zero (jY h)with h|h
 .exact .inl (l6 h)
 .exact .inr (l6 h)
theorem Pr.prI (pq:Pr q):PrI q:=⟨pq.lo,λ_ _ h=>pq.or h⟩
structure c95 (f:List Int)(q:Int)(x:List Int):Prop where
 rp:dG f
 pr:q∈T_SMALL_PRIMES
 len:x.length+1=f.length
 irr: ¬Red f
 sm: ∃c∈x,¬q∣c
 own: ∀k,k<=x.length->q^k∣chn x.length (itT f x.length λj=>x.getD j 0) k
theorem dQ1 {f:List Int}(n2:2<=n)(n4:n<=4)(pr:PrI q)(x:∅):(∀k,k<=n->q^k∣chn n (itT f n λj=>x j%q) k)↔ ∀k,k<=n->q^k∣chn n (itT f n x) k:=by
 have e1:x=λj=>(λj=>x j%q) j+q*(x j/q):=funext λj=>(zC (x j) q).symm
 have e2:(λj=>x j%q)=λj=>x j+q* -(x j/q):=funext λj=>by have:=zC (x j) q;grind
 constructor
 .intro h k hk;have:=c93 n2 n4 pr h (λj=>x j/q) k hk
  rw[<-e1]at this;exact this
 .intro h k hk;have:=c93 n2 n4 pr h (λj=> -(x j/q)) k hk
  rw[<-e2]at this;exact this
def j4:Φ:=λds Q=> ∃(f:List Int) (q:Int) (x:List Int),ds=[aI f,.int q,aI x]/\f.length<=1000/\x.length<=1000/\(c95 f q x->Q (.pu<|.bl true))/\(¬c95 f q x->Q (.pu<|.bl false))
def nA:US:=(cZ<|cN9 (aR d73<|a7 (aC 3) aK)<|aR qX<|a7 (aC 0)<|a7 (aC 1)<|a7 (aC 3) aK)
def sX:US:=(aT (bM 3<|aR cJ<|a7 (eJ [1] [none,some 1,none] 2 (iK<|aC 2) (cB 0) (λρ Q=>Q true ρ)<|uOp oS (aC 0)<|aC 1) aK) nA)
def sY:US:=(aT (iL (uOr (fG<|uOp (kR true) (jU<|aS 2)<|uOp M.gSub (jU<|aS 0)<|@1)<|fG<|aW8 true<|aR v8<|a7 (aC 0) aK) (cZ<|uC<|.bl false) fJ) sX)
def pE:US:=(aT (iL (uOr (d35<|fG<|aR kX<|a7 (aC 0) aK)<|fG<|uOp (gIn true) (aC 1)<|aR iY aK) (cZ<|uC<|.bl false) fJ) sY)
theorem aS8: Ra j4 pE ["f","p","x","l"]:=by
 rintro ds Q ⟨f,q,x,rfl,hf,hx,ht,hF⟩;unfold pE;show(aT _ _:US) _ [~~~aI f,!q,~~~aI x,none];rw[aO];left;refine⟨f,rfl,hf,?_⟩;try right
 by_cases rp:dG f
 .rw[(bC8 f).mpr rp];left;refine⟨rfl,?_⟩;try right
  refine⟨q,T_SMALL_PRIMES,rfl,.inr<|.inl rfl,?_⟩
  left
  by_cases pr:q∈T_SMALL_PRIMES
  .rw[a6<|by simpa using pr]
   have lo:=rp.ok.lo;have hi:=rp.ok.hi;obtain⟨n,hn⟩: ∃n,f.length=n+1:=⟨f.length-1,ae⟩
   have n2:2<=n:=ae
   have n4:n<=4:=ae
   have pq:Pr q:=wY (by rw[a18];exact pr)
   have q2:=pq.lo;have q3:=pq.hi;unfold sY;rw[aO];simp only[aI];left;rw[aH,aH]
   by_cases hl:x.length+1=f.length
   .rw[a6 ae]
    refine⟨f,rfl,rp,λirr=> ?_,λl r _ red=> ?_⟩
    .left
     have xn:x.length=n:=ae
     have ex:x=rwF n λj=>x.getD j 0:=by rw[<-xn];exact aX0 x
     generalize hg:(λj=>x.getD j 0)=g at ex
     have hq:(wB q f n (λj=>g j%q)=true↔ ∀k,k<=n->q^k∣chn n (itT f n g) k):=wB_iff.trans (dQ1 n2 n4 pq.prI g)
     unfold sX;rw[aO,nK,d3,cQ];refine cL (t0:=0) n (λk=>((rwF n g).map D.int).getD k .non) [~~~.tup (f.map .int),!q,~~~.tup ((rwF n g).map .int),none] (λQ' q'=> ?_) ae (λx l=>[x,!q,↑l]) none rfl (λ_ _ _=>rfl) (λ_ _=>bW _) (λ_ _ _ q=>q) (λ_ _ _=>rfl) (λk=> .int (g k%q)) ?_ ?_
     .rw[ex];left;rw[bZ];exact q'
     .intro k l Q' hk q';rw[oZ hk]at q'⊢;left;rw[dE _ ae]
      exact⟨ae,q'⟩
     rw[iX];show nA _ [~~~aI f,!q,~~~.tup ((rwF n g).map .int),some<|.pu<|aI<|rwF n λk=>g k%q]
     unfold nA;simp only[aI];left;rw[qR];right;have an:((rwF n λk=>g k%q).any λx=>x != 0)=true↔ ∃c∈x,¬q∣c:=by
      rw[List.any_eq_true];constructor
      .rintro⟨c,hc,h0⟩;obtain⟨k,hk,rfl⟩:=d8.mp hc;refine⟨g k,by rw[ex];exact d8.mpr ⟨k,hk,rfl⟩,λz=> ?_⟩
       rw[jY z]at h0;exact absurd h0 ac
      .rintro⟨c,hc,h0⟩;rw[ex]at hc;obtain⟨k,hk,rfl⟩:=d8.mp hc;exact⟨g k%q,d8.mpr ⟨k,hk,rfl⟩,bne_iff_ne.mpr λz=>h0 (l6 z)⟩
     by_cases a:((rwF n λk=>g k%q).any λx=>x != 0)=true
     .rw[a8 a];refine⟨f,n,q,λk=>g k%q,rfl,rp,hn,q2,q3,λj=> ?_,?_⟩
      .have h1:=d5 (g j) (show q≠0 by lia)
       have h2:=d4 (g j) (show 0<q by lia)
       exact aG (show(g j%q).natAbs<=2^8 by lia) (cT ac ac)
      .by_cases w:wB q f n (λj=>g j%q)=true
       .rw[w];exact ht ⟨rp,pr,hl,irr,an.mp a,by rw[hg,xn];exact hq.mp w⟩
       .rw[u4.mpr w];exact hF λo=>w (hq.mpr (by have:=o.own;rw[hg,xn]at this;exact this))
     .rw[a6 a];exact hF λo=>a (an.mpr o.sm)
    .left
     exact hF λo=>o.irr red
   .rw[a8 ae]
    exact hF λo=>hl o.len
  .rw[a8<|by simpa using pr]
   exact hF λo=>pr o.pr
 .rw[dO1 rp];left;exact hF λo=>rp o.rp
theorem bF7 {p:List Int}{n:Nat}{u:∅}(n4:n<=4)(hp: ∀x∈p,x.natAbs<=499)(hu: ∀j,(u j).natAbs<=2^6400): ∀k j,(vC p n u k j).natAbs<=2^(k*6429)
 | 0,j=>by
  show(if j=0 then(1:Int)else 0).natAbs<=_
  split<;>simp
 | k+1,j=>bD6 (λj=>by
  have:=bD8 n4 hp (λj=>bF7 n4 hp hu k j) hu j
  rw[show(k+1)*6429=k*6429+6400+29 by lia]
  exact this) j
theorem cS0 (n2:2<=n)(n4:n<=4)(hp: ∀x∈p,x.natAbs<=499)(hu: ∀j,(u j).natAbs<=2^6400)(k:Nat):(trP n (itT p n u) k).natAbs<=2^(6429*k+29):=by
 rw[<-b74 n2 n4];refine aG (oH _ (2^(6429*k+27)) n λi hi=> ?_) ?_
 .exact aG (tN (n:=n) hp (bF7 n4 hp hu k) i i) (cT ac ae)
 .have e:(2:Nat)^(6429*k+29)=4*2^(6429*k+27):=by rw[show 6429*k+29=2+(6429*k+27)by lia,dP]
  rw[e];exact lB _ n4
theorem dQ2 (n2:2<=n)(n4:n<=4)(hp: ∀x∈p,x.natAbs<=499)(hu: ∀j,(u j).natAbs<=2^6400)(k:Nat)(kn:k<=n):(chn n (itT p n u) k).natAbs<=2^(6470*k):=by
 induction k using Nat.strongRecOn with
 | _ k ih=>
  by_cases k0:k=0
  .subst k0;rw[aA2 n2 n4]
   decide
  .have h1:=dP2 n2 n4 (itT p n u) k ae kn
   have h2:(fZ k λi=>chn n (itT p n u) i*trP n (itT p n u) (k-i)).natAbs<=k*2^(6470*k-12):=by
    refine oH _ _ k λi hi=> ?_
    rw[cH];refine aG (eB (ih i hi ae)<|cS0 n2 n4 hp hu<|k-i) ?_
    rw[<-dP];exact cT ac ae
   have h3:((k:Int)*chn n (itT p n u) k).natAbs<=k*2^(6470*k-12):=by
    rw[<-h1,lM];exact h2
   rw[cH,zG]at h3;exact aG (Nat.le_of_mul_le_mul_left h3 ae) (cT ac ae)
theorem cS1 {l:List D}(h:ρ[i]? =some (↑l)):a67 i te E ρ=te ρ λb ρ1=>mU ρ1 i λl=>l.length<sizeLine/\E.nx (ρ1.set i<|↑(l++[b.d])):=by
 unfold a67;rw[show ∀Q,mU ρ i Q=Q l from λQ=>by unfold mU;rw[h]]
theorem dD9 (f:∅): ∀k,k<=4->(fZ k λi=>f (k-1-i))=fZ k f
 | 0,_=>rfl
 | 1,_=>rfl
 | 2,_=>by show f 1+(f 0+0)=f 0+(f 1+0);lia
 | 3,_=>by show f 2+(f 1+(f 0+0))=f 0+(f 1+(f 2+0));lia
 | 4,_=>by show f 3+(f 2+(f 1+(f 0+0)))=f 0+(f 1+(f 2+(f 3+0)));lia
def cK5:Φ:=λds Q=> ∃(p:List Int) (n:Nat) (u:∅),ds=[aI p,aI<|rwF n u]/\dG p/\p.length=n+1/\(∀j,(u j).natAbs<=2^6400)/\(∀j,n<=j->u j=0)/\Q (.ow<|(rwF (n+1)<|chn n<|itT p n u).map .int)
def bF8:US:=(bM 4<|aR aS4<|a7 (aC 0)<|a7 (aC 4)<|a7 (aC 1) aK)
def bF9:US:=(aT (a67 3<|aR c46<|a7 (eJ [] [none,some 6,none] 2 (eZ<|a7 (aC 2) aK) (cB 0) (λρ Q=>Q true ρ)<|uIx (uV<|uIx (aS 1)<|aC 0)<|aC 0) aK) bF8)
def aN9:US:=(aT (bM 6<|aR bE2<|a7 (aC 0)<|a7 (aC 4) aK) bF9)
def c96:US:=(rP 7)
def c97:US:=(aT (iM (a66<|a7 @1<|a7 (uOp fN (aC 2)<|@1) aK) (cB 5)<|a67 7<|uOp b39 (nZ<|aR c46<|a7 (eJ [5] [none,some 7,some 5,some 3,none] 4 (eZ<|a7 (aC 5) aK) (cB 0) (λρ Q=>Q true ρ)<|uOp bP4 (uIx (aS 1)<|uOp M.gSub (uOp M.gSub (aC 2)<|@1)<|aC 0)<|uIx (aS 3)<|aC 0) aK)<|aC 5) c96)
def c98:US:=(aT (bM 7<|eR<|a7 @1 aK) c97)
def c99:US:=(aT (iM (eZ<|a7 (aC 2) aK) (cB 5) aN9) c98)
def cA0:US:=(aT (bM 4<|aR cJ<|a7 (aC 1) aK) c99)
def cA1:US:=(aT (bM 3<|eR aK) cA0)
def cK6:US:=(aT (bM 2<|jU<|aS 1) cA1)
theorem rd_own: Ra cK5 cK6 ["p","x","m","t","w","k","a","s"]:=by
 rintro ds Q ⟨p,n,u,rfl,rp,hn,hu,uz,h⟩;have lo:=rp.ok.lo;have hi:=rp.ok.hi;have n2:2<=n:=ae
 have n4:n<=4:=ae
 have pb:=bF7 (u:=u) n4 rp.ok.small hu;obtain⟨A,eA⟩: ∃A,A=itT p n u:=⟨_,rfl⟩;rw[<-eA]at h;have cb: ∀k,k<=n->Sb (chn n A k):=λk hk=>by rw[eA];exact Sb.pow (dQ2 n2 n4 rp.ok.small hu k hk) ae
 have tb: ∀k,k<=n->Sb (trP n A k):=λk hk=>by rw[eA];exact Sb.pow (cS0 n2 n4 rp.ok.small hu k) ae
 have p1:rwF n u=rwF n (vC p n u 1):=by
  show _=rwF n (cz n<|dW p n (jH 1) u)
  rw[bY7];exact gG λj hj=>by rw[c92 n2 n4 _ _ j hj,kI]
 unfold cK6;show(aT _ _:US) _ [~~~aI p,~~~.tup ((rwF n u).map .int),none,none,none,none,none,none];rw[aO];left;rw[bZ];unfold cA1;rw[aO];left;refine⟨ac,?_⟩
 unfold cA0;rw[aO];left;unfold c99;rw[aO];refine bJ n (λi=> .int (0+(i:Int))) [~~~aI p,~~~.tup ((rwF n u).map .int),!(n:Int),↑[],~~~.tup ((rwF n u).map .int),none,none,none] (λQ' q=> ?_)
  (λk ρ=> ∃x y,ρ=[~~~aI p,~~~.tup ((rwF n u).map .int),!(n:Int),some<|.ow<|(rwF k λi=>trP n A (i+1)).map .int,~~~aI (rwF n (vC p n u (k+1))),x,y,none]) ⟨none,none,by rw[<-p1];rfl⟩ ?_ ?_
 .left
  refine⟨⟨ae,ae⟩,?_⟩
  rw[bV];exact q
 .rintro k ρ hk ⟨x,y,rfl⟩;refine⟨af,?_⟩
  show aN9 _ [~~~aI p,~~~.tup ((rwF n u).map .int),!(n:Int),some<|.ow<|(rwF k λi=>trP n A (i+1)).map .int,~~~aI (rwF n (vC p n u (k+1))),!(0+(k:Int)),y,none]
  unfold aN9;rw[aO];left;have he:(k+1)*6429<=49000:=aG (lB 6429<|show k+1<=4 from aG hk n4) ac
  refine⟨p,n,(k+1)*6429,vC p n u<|k+1,rfl,rp,hn,he,pb<|k+1,?_⟩
  try right
  unfold bF9;rw[aO];rw[cS1 rfl,d3,cQ];generalize eT:itT p n (vC p n u<|k+1)=T
  refine cL (t0:=0) n (λi=> .int (0+(i:Int))) [~~~aI p,~~~.tup ((rwF n u).map .int),!(n:Int),some<|.ow<|(rwF k λi=>trP n A (i+1)).map .int,~~~aI (rwF n (vC p n u (k+1))),!(0+(k:Int)),↑(tbF n n T),none] (λQ' q=> ?_) ae (λx l=>[x,some<|.bo<|tbF n n T,↑l]) none rfl (λ_ _ _=>rfl) (λ_ _=>bW _) (λ_ _ _ q=>q) (λ_ _ _=>rfl) (λi=> .int (T i i)) ?_ ?_
  .left
   refine⟨⟨ae,ae⟩,?_⟩
   rw[bV];exact q
  .intro i l Q' hi' q';rw[bN]at q'⊢;have e1:atI (tbF n n T) (i:Int)=some (aI<|rwF n<|T i):=bX4 hi';have e2:atI ((rwF n<|T i).map D.int) (i:Int)=some (.int<|T i i):=iD hi';simp only[aI]at e1;left;rw[e1];right;rw[e2];exact q'
  rw[iX];left;rw[qR];right;have es:(rwF n λi=>T i i).sum=trP n A (k+1):=by
   rw[eA,<-b74 n2 n4,<-eT];rfl
  rw[es,bZ];have gr:(rwF k λi=>trP n A (i+1)).map D.int++[D.int<|trP n A<|k+1]=(rwF (k+1) λi=>trP n A (i+1)).map D.int:=by
   unfold rwF;rw[b9,bX,bX];rfl
  rw[gr];refine⟨aZ (show k<10 by lia) ac,?_⟩
  unfold bF8;left;refine⟨p,n,(k+1)*6429,vC p n u<|k+1,u,rfl,rp,hn,aG he ac,pb<|k+1,λj=>aG (hu j) (cT ac ?_),λj hj=>cJ9 hj,uz,!(0+(k:Int)),↑(tbF n n T),?_⟩
  .exact aG (show 6400<=1*6429 by decide) (lB 6429<|aL8<|dO k)
  .rw[show rwF n (dW p n (vC p n u<|k+1) u)=rwF n (vC p n u<|k+1+1)from(bY7 n _).symm]
 .rintro ρ ⟨x,y,rfl⟩;try right
  generalize vC p n u (n+1)=pw;unfold c98;rw[aO];left;refine⟨ac,?_⟩
  unfold c97;rw[aO];refine bJ n (λi=> .int (1+(i:Int))) [~~~aI p,~~~.tup ((rwF n u).map .int),!(n:Int),some<|.ow<|(rwF n λi=>trP n A (i+1)).map .int,~~~aI (rwF n pw),x,y,↑[.int 1]] (λQ' q=> ?_)
   (λi ρ=> ∃x,ρ=[~~~aI p,~~~.tup ((rwF n u).map .int),!(n:Int),some<|.ow<|(rwF n λi=>trP n A (i+1)).map .int,~~~aI (rwF n pw),x,y,↑((rwF (i+1)<|chn n A).map .int)]) ⟨x,by rw[show(rwF (0+1)<|chn n A).map D.int=[.int 1]by show [D.int<|chn n A 0]=_;rw[aA2 n2 n4]]⟩ ?_ ?_
  .left
   refine⟨⟨ae,ae,ae,ae⟩,?_⟩
   rw[show((n:Int)+1-1).toNat=n by lia]
   exact q
  .rintro i ρ hi' ⟨x,rfl⟩;have e1:1+(i:Int)=((i+1:Nat):Int):=ae
   rw[e1];refine⟨af,?_⟩
   dsimp only[set_cons_zero,set_cons_succ];rw[cS1 rfl]
   have cmp: ∀Q':B->Ev->Prop,Q' (.ow<|(rwF (i+1) λm=>chn n A (i-m)*trP n A (m+1)).map .int) [~~~aI p,~~~.tup ((rwF n u).map .int),!(n:Int),some<|.ow<|(rwF n λi=>trP n A (i+1)).map .int,~~~aI (rwF n pw),!((i+1:Nat):Int),y,↑((rwF (i+1)<|chn n A).map .int)]->eJ [5] [none,some 7,some 5,some 3,none] 4 (eZ<|a7 (aC 5) aK) (cB 0) (λρ Q=>Q true ρ) (uOp bP4 (uIx (aS 1)<|uOp M.gSub (uOp M.gSub (aC 2)<|@1)<|aC 0)<|uIx (aS 3)<|aC 0) [~~~aI p,~~~.tup ((rwF n u).map .int),!(n:Int),some<|.ow<|(rwF n λi=>trP n A (i+1)).map .int,~~~aI (rwF n pw),!((i+1:Nat):Int),y,↑((rwF (i+1)<|chn n A).map .int)] Q':=λQ' hQ=>by
    refine cL (t0:=0) (i+1) (λk=> .int (0+(k:Int))) [~~~aI p,~~~.tup ((rwF n u).map .int),!(n:Int),some<|.ow<|(rwF n λi=>trP n A (i+1)).map .int,~~~aI (rwF n pw),!((i+1:Nat):Int),y,↑((rwF (i+1)<|chn n A).map .int)] (λQ' q=> ?_) ae (λx l'=>[x,some<|.bo<|(rwF (i+1)<|chn n A).map .int,!((i+1:Nat):Int),some<|.bo<|(rwF n λi=>trP n A (i+1)).map .int,↑l']) none rfl (λ_ _ _=>rfl) (λ_ _=>bW _) (λ_ _ _ q=>q) (λ_ _ _=>rfl) (λm=> .int (chn n A (i-m)*trP n A (m+1))) ?_ ?_
    .left
     refine⟨⟨ae,ae⟩,?_⟩
     rw[bV];exact q
    .intro m l' Q' hm q';rw[bN]at q'⊢;left;rw[show((i+1:Nat):Int)-1-(m:Int)=((i-m:Nat):Int)by lia,iD<|show i-m<i+1 by lia]
     right;rw[iD<|show m<n by lia]
     right;exact⟨⟨cb _ ae,tb _ ae⟩,q'⟩
    .rw[iX];exact hQ
   have nw:=dP2 n2 n4 A (i+1) ae ae
   have rv:=dD9 (λj=>chn n A j*trP n A (i+1-j)) (i+1) ae
   have e3:(rwF (i+1) λm=>chn n A (i-m)*trP n A (m+1)).sum=fZ (i+1) λj=>chn n A j*trP n A (i+1-j):=by
    rw[<-rv];show(fZ (i+1) λm=>chn n A (i-m)*trP n A (m+1))=_
    exact vD λm hm=>by
     show _=chn n A (i+1-1-m)*trP n A (i+1-(i+1-1-m))
     rw[show i+1-1-m=i-m by lia,show i+1-(i-m)=m+1 by lia]
   rw[bB8];unfold nZ;rw[d3,cQ];refine cmp _ ?_;left;rw[qR];right;rw[e3,nw,rQ _ ae,Int.mul_ediv_cancel_left _ ae,bZ]
   have gr:(rwF (i+1)<|chn n A).map D.int++[D.int<|chn n A<|i+1]=(rwF (i+1+1)<|chn n A).map D.int:=by
    unfold rwF;rw[b9 (n:=i+1),bX,bX];rfl
   rw[gr];exact⟨⟨ae,bK7 ae ae⟩,aZ (show i+1<100 by lia) ac,_,rfl⟩
  .rintro ρ ⟨x,rfl⟩;try right
   unfold c96;left;exact h
def aA6:Φ:=λds Q=> ∃i:Nat,ds=[.int<|2+(i:Int)]/\Q (.pu<|.bl<|prC i)
def aA7:US:=(cZ<|aR cH0<|a7 (eJ [0] [none,some 0,none] 2 (a66<|a7 @2<|a7 @15 aK) (cB 0) (λρ Q=>Q true ρ)<|uOrV (uOp (kR true) (uOp oS (aC 1)<|aC 0)<|@0)<|uOp (kR false) (aC 1)<|aC 0) aK)
theorem cA2: Ra aA6 aA7 ["m"]:=by
 rintro ds Q ⟨i,rfl,h⟩;unfold aA7;show(cZ _:US) _ [!(2+(i:Int))];rw[iI,d3,cQ];refine cL (t0:=0) 13 (λk=> .int (2+(k:Int))) [!(2+(i:Int))] ?_ ac (λx l'=>[x,!(2+(i:Int)),↑l']) none rfl (λ_ _ _=>rfl) (λ_ _=>bW _) (λ_ _ _ q=>q) (λ_ _ _=>rfl) (λk=> .bl (prB i k)) ?_ ?_
 .intro Q'' q';left;exact⟨ac,q'⟩
 .intro k l' Q'' hk q';left;unfold prB at q';refine⟨ae,?_⟩
  rw[dE _ ae]
  by_cases c:(2:Int)+(i:Int)=2+(k:Int)
  .rw[a8 c]at q';have ik:i=k:=ae
   subst ik;rw[Int.emod_self]
   exists q'
  .rw[a6 c]at q'
   by_cases c2:((2:Int)+(i:Int))%(2+(k:Int))=0
   .rw[c2]at q'⊢;simp only[c,decide_false,Bool.not_true,decide_true]at q'⊢
    exists q'
   .simp only[c2,decide_false,Bool.not_false]at q'⊢
    exists q'
 .have e:(List.range 13).map (λk=>D.bl (prB i k))=((List.range 13).map<|prB i).map D.bl:=by rw[gD];rfl
  rw[e];left;rw[qQ];exact h
def vF:Φ:=λds Q=>ds=[]/\Q (.ow<|prL.map .int)
def aO0:US:=(cZ<|eJ [] [none,none] 1 (a66<|a7 @2<|a7 @200 aK) (cB 0) (fG<|aR aA6<|a7 (aC 0) aK)<|aC 0)
theorem cK7: Ra vF aO0 []:=by
 rintro ds Q ⟨rfl,h⟩;unfold aO0;show(cZ _:US) _ [];rw[iI];refine bX7 (t0:=0) 198 (λk=> .int (2+(k:Int))) [] ?_ ac (λx l=>[x,↑l]) none rfl (λ_ _ _=>rfl) (λ_ _=>bW _) (λ_ _ _ q=>q) (λ_ _ _=>rfl) prC (λi=> .int (2+(i:Int))) ?_ ?_ ?_
 .intro Q' q;left;exact⟨ac,q⟩
 .intro i l Q' hi q;left;exact⟨i,rfl,q⟩
 .intro i l Q' hi q;left;exact q
 .have e:((List.range 198).filter prC).map (λi:Nat=>D.int (2+(i:Int)))=prL.map .int:=by unfold prL;rw[gD];rfl
  rw[e];exact h
def cK8:Φ:=λds Q=> ∃(f:List Int) (q:Int) (x:List Int),ds=[aI f,.int q,aI x]/\dG f/\x.length<=1000/\(∀c∈x,c.natAbs<=2^6400)/\(c95 f q x->Q (.pu<|.bl true))/\(¬c95 f q x->Q (.pu<|.bl false))
def bG0:US:=(bM 3<|uOp fV (aC 3)<|aC 1)
def aO1:US:=(aT (iL (fG<|uOp (kR true) (uOp oS (aC 4)<|aC 3)<|@0) (cZ<|uC<|.bl false) fJ) bG0)
def cA3:US:=(cZ<|aW8 false<|aR v8<|a7 (aC 0) aK)
def cA4:US:=(aT (iM (iK<|aR cK5<|a7 (aC 0)<|a7 (aC 2) aK) (cB 4) aO1) cA3)
def aA8:US:=(aT (bM 3<|@1) cA4)
def cK9:US:=(aT (iL (uOr (fG<|uOp (gIn true) (aC 1)<|aR vF aK)<|uOr (fG<|uOp (kR true) (jU<|aS 2)<|uOp M.gSub (jU<|aS 0)<|@1)<|fG<|aR cH0<|a7 (eJ [1] [none,some 1,none] 2 (iK<|aC 2) (cB 0) (λρ Q=>Q true ρ)<|uOp (kR false) (uOp oS (aC 0)<|aC 1)<|@0) aK) (cZ<|uC<|.bl false) fJ) aA8)
theorem rd_due: Ra cK8 cK9 ["f","p","x","a","c"]:=by
 rintro ds Q ⟨f,q,x,rfl,rp,hx,xb,ht,hF⟩;have lo:=rp.ok.lo;have hi:=rp.ok.hi;obtain⟨n,hn⟩: ∃n,f.length=n+1:=⟨f.length-1,ae⟩
 have n2:2<=n:=ae
 have n4:n<=4:=ae
 unfold cK9;show(aT _ _:US) _ [~~~aI f,!q,~~~aI x,none,none];rw[aO,bX6];have go:(∀c∈x,q∣c)\/ ¬(∀c∈x,q∣c):=Classical.em _;have main:q∈T_SMALL_PRIMES->x.length+1=f.length-> ¬(∀c∈x,q∣c)->aA8 {Q with} [~~~aI f,!q,~~~aI x,none,none]:=λpr hl nd=>by
  have pq:Pr q:=wY (by rw[a18];exact pr)
  have q2:=pq.lo;have q3:=pq.hi;have xn:x.length=n:=ae
  have ex:x=rwF n λj=>x.getD j 0:=by rw[<-xn];exact aX0 x
  have gb: ∀j,(x.getD j 0).natAbs<=2^6400:=λj=>cP xb j
  have gz: ∀j,n<=j->x.getD j 0=0:=λj hj=>by rw[aJ,i9 ae];rfl
  have nd': ∃c∈x,¬q∣c:=yX λz=>nd λc hc=>yX λw=>z ⟨c,hc,w⟩
  unfold aA8;rw[aO];left;unfold cA4;rw[aO];obtain⟨c,ec⟩: ∃c:∅,c=chn n (itT f n λj=>x.getD j 0):=⟨_,rfl⟩
  have os:c95 f q x↔ ¬Red f/\ ∀k,k<=n->q^k∣c k:=⟨λo=>⟨o.irr,by have:=o.own;rw[xn]at this;rw[ec];exact this⟩,λo=>⟨rp,pr,hl,o.1,nd',by rw[xn];rw[ec]at o;exact o.2⟩⟩
  refine bJ (n+1) (λk=>((rwF (n+1) c).map D.int).getD k .non) [~~~aI f,!q,~~~aI x,!1,none] (λQ' q'=> ?_) (λk ρ=> ∃y,ρ=[~~~aI f,!q,~~~aI x,!q^k,y]/\ ∀i,i<k->q^i∣c i) ⟨none,by rw[dN],λi hi=>absurd hi (aM2 _)⟩ ?_ ?_
  .left
   refine⟨f,n,λj=>x.getD j 0,by rw[<-ex],rp,hn,gb,gz,?_⟩
   rw[<-ec];left;rw[bZ];exact q'
  .rintro k ρ hk ⟨y,rfl,ih⟩;rw[oZ hk];refine⟨af,?_⟩
   show aO1 _ [~~~aI f,!q,~~~aI x,!q^k,!c k]
   unfold aO1;rw[aO];have pp:0<q^k:=pow_pos ae
   left
   refine⟨ae,?_⟩
   rw[dE _ pp]
   by_cases z:c k%q^k=0
   .rw[a6<|by simpa using z]
    unfold bG0;left;refine⟨cmR ae ae,_,by rw[fQ],λi hi=> ?_⟩
    by_cases e:i=k
    .rw[e];exact l6 z
    .exact ih i ae
   .rw[a8<|by simpa using z]
    exact hF λo=>z (jY<|(os.mp o).2 k ae)
  .rintro ρ ⟨y,rfl,ih⟩;try right
   unfold cA3;left;refine⟨f,rfl,rp,λirr=> ?_,λl r _ red=> ?_⟩
   .left
    exact ht (os.mpr ⟨irr,λk hk=>ih k ae⟩)
   .left
    exact hF λo=>o.irr red
 generalize eK:(fun(b:Bool) (ρ1:Ev)=>if b=true then cZ (uC<|D.bl false) {nx:=aA8 {Q with},rt:=({Q with}:UD).rt} ρ1 else fJ {nx:=aA8 {Q with},rt:=({Q with}:UD).rt} ρ1)=K
 have k1: ¬c95 f q x->K true [~~~aI f,!q,~~~aI x,none,none]:=λz=>by
  rw[<-eK];exact hF z
 have k0:q∈T_SMALL_PRIMES->x.length+1=f.length-> ¬(∀c∈x,q∣c)->K false [~~~aI f,!q,~~~aI x,none,none]:=λa b c=>by
  rw[<-eK];exact main a b c
 clear eK main;unfold uOr;rw[cP9,bB8];left;refine⟨rfl,?_⟩;try right
 refine⟨q,prL,rfl,.inr<|.inl rfl,?_⟩
 left
 rw[a18]
 by_cases pr:q∈T_SMALL_PRIMES
 .rw[a6<|by simpa using pr]
  have pq:Pr q:=wY (by rw[a18];exact pr)
  have q2:=pq.lo;simp only[aI]at k1 k0⊢;rw[aH,aH]
  by_cases hl:x.length+1=f.length
  .rw[a6 ae]
   refine cL (t0:=0) x.length (λk=>(x.map D.int).getD k .non) [~~~.tup (f.map .int),!q,~~~.tup (x.map .int),none,none] (λQ' q'=> ?_) ae (λy l=>[y,!q,↑l]) none rfl (λ_ _ _=>rfl) (λ_ _=>bW _) (λ_ _ _ q=>q) (λ_ _ _=>rfl) (λk=> .bl (x.getD k 0%q==0)) ?_ ?_
   .left
    rw[aH];exact q'
   .intro k l Q' hk q';have ek:(x.map D.int).getD k .non= .int (x.getD k 0):=by
     rw[aJ,bG,aP hk,aJ,aP hk];rfl
    rw[ek]at q'⊢;left;rw[dE _ ae]
    exact⟨ae,q'⟩
   rw[show(List.range x.length).map (λk=>D.bl (x.getD k 0%q==0))=((List.range x.length).map λk=>x.getD k 0%q==0).map D.bl by rw[gD];rfl]
   right;rw[qQ];right;have al:(((List.range x.length).map λk=>x.getD k 0%q==0).all id)=true↔ ∀c∈x,q∣c:=by
    rw[all_map,dJ];constructor
    .intro h c hc;obtain⟨k,hk,rfl⟩:=zF hc;have:=h k (d6.mpr hk);have e:x.getD k 0=x[k]:=by rw[aJ,aP hk];rfl
     rw[<-e];exact l6 (eH.mp this)
    .intro h k hk;have hk:=d6.mp hk;have e:x.getD k 0=x[k]:=by rw[aJ,aP hk];rfl
     exact eH.mpr (jY (by rw[e];exact h _ (cV hk)))
   by_cases a:(((List.range x.length).map λk=>x.getD k 0%q==0).all id)=true
   .rw[a];exact k1 λo=>by
     obtain⟨c,hc,nc⟩:=o.sm;exact nc (al.mp a c hc)
   .rw[u4.mpr a];exact k0 pr hl λz=>a (al.mpr z)
  .rw[a8 ae]
   exact k1 λo=>hl o.len
 .rw[a8<|by simpa using pr]
  exact k1 λo=>pr o.pr
def bZ5:Φ:=λds Q=>ds=[]/\ ∀z:Int,z.natAbs<=2^6350->Q (.pu<|.int z)
def bS4:US:=(cZ<|uOp fN (aC 0)<|@7)
def bS5:US:=(aT (iM (eZ<|a7 @38 aK) (cB 1)<|bM 0<|uOp fV (aC 0)<|uOp d45 @10<|@50) bS4)
def bZ6:US:=(aT (bM 0<|@3) bS5)
theorem dQ3: Ra bZ5 bZ6 ["f","s"]:=by
 rintro ds Q ⟨rfl,h⟩;unfold bZ6;show(aT _ _:US) _ [none,none];rw[aO];left;unfold bS5;rw[aO];refine bJ 38 (λi=> .int (0+(i:Int))) [!3,none] (λQ' q=> ?_) (λk ρ=> ∃(z:Int) (y:Option B),ρ=[!z,y]/\z.natAbs<=2^(2+167*k)) ⟨3,none,rfl,ac⟩ ?_ ?_
 .left
  exact⟨⟨ac,ac⟩,q⟩
 .rintro k ρ hk ⟨z,y,rfl,hz⟩;left;have te:((10:Int)^Int.toNat 50).natAbs<=2^167:=ag
  refine⟨af,cpl ac ac ac,.inr ⟨Sm.pow hz ae,Sm.pow te ac⟩,_,_,rfl,?_⟩
  rw[cH,show 2+167*(k+1)=2+167*k+167 by lia,dP]
  exact eB hz te
 .rintro ρ ⟨z,y,rfl,hz⟩;try right
  unfold bS4;left;refine h _ ?_;have h1:=lH z 7;have h2:z.natAbs<=2^6348:=hz;have h3:(2:Nat)^6350=4*2^6348:=by rw[show 6350=2+6348 from rfl,dP]
  have h4:7<=2^6348:=aG (show 7<=2^3 by decide) (cT ac ac)
  rw[h3];generalize (2:Nat)^6348=N at *;have h5:(7:Int).natAbs=7:=rfl
  lia
def aY7:Φ:=λds Q=> ∃(r a b c e q:Int) (d:Nat),ds=[.lst [.int r,.int (d:Int),.int a,.int b,.int c,.int e],.int q]/\d<=2/\r.natAbs<=3/\a.natAbs<=3/\b.natAbs<=3/\c.natAbs<=4/\e.natAbs<=2/\2<=q/\q<200/\ ∀g:List Int,g.length=d+2->Q (.pu<|aI<|g++[1])
def xI:US:=(iM (cO6<|a7 (eR<|a7 (uOp fV (aC 2)<|aC 2)<|a7 (uOp fV (nZ<|@2)<|aC 2)<|a7 @1 aK) aK) (uP<|fY 7<|fY 8 uO)<|aQ1 5 (uOp fN (uIx (aS 5)<|uOp fN (aC 6)<|aC 7)<|uOp fV (uIx (aS 4)<|aC 6)<|aC 8)<|uOp fN (aC 6)<|aC 7)
def b23:US:=(cZ<|aR cJ<|a7 (aC 5) aK)
def b24:US:=(aT (aQ1 5 (uOp fN (uIx (aS 5)<|@1)<|uOp fV (aC 1)<|uIx (aS 0)<|@5)<|@1) b23)
def b25:US:=(aT (aQ1 5 (uOp M.gSub (uOp fN (uIx (aS 5)<|@0)<|uOp fV (uOp fV (aC 1)<|aC 1)<|uIx (aS 0)<|@4)<|uOp fV (uOp fV (aC 1)<|aC 2)<|uIx (aS 0)<|@5)<|@0) b24)
def b26:US:=(aT (iM (eZ<|a7 (jU<|aS 4) aK) (cB 6) xI) b25)
def b27:US:=(aT (bM 5<|uOp fV (eR<|a7 @0 aK)<|uOp fN (aC 3)<|@1) b26)
def b28:US:=(aT (bM 4<|uIx (uV<|eR<|a7 (eR<|a7 @1 aK)<|a7 (eR<|a7 (uIx (aS 0)<|@2)<|a7 @1 aK)<|a7 (eR<|a7 (uIx (aS 0)<|@2)<|a7 (uIx (aS 0)<|@3)<|a7 @1 aK) aK)<|uIx (aS 0)<|@1) b27)
def b29:US:=(aT (bM 3<|uOp fN @2<|uIx (aS 0)<|@1) b28)
def aY8:US:=(aT (bM 2<|uIx (aS 0)<|@0) b29)
theorem bG1 :(l.map D.int).set k (.int v)=(l.set k v).map D.int:=by rw[map_set]
theorem a25 (h:k<l.length):atI (l.map D.int) (k:Int)=some (.int<|l.getD k 0):=by
 refine bK ?_
 rw[bG,aP h,aJ,aP h];rfl
theorem aS9 {j:Nat}(hk:k<l.length):(l.set k v).getD j 0=if j=k then v else l.getD j 0:=by
 rw[aJ,aJ,zI]
 by_cases e:k=j
 .rw[a8 e,a8 e.symm,a8 hk];rfl
 .rw[a6 e,a6 λz=>e z.symm]
theorem dE0 (hl:l.length=n+1)(h:l.getD n 0=1): ∃g:List Int,g.length=n/\l=g++[1]:=by
 refine⟨l.take n,by rw[lJ];lia,?_⟩
 have e:l.drop n=[1]:=by
  rw[List.drop_eq_getElem_cons ae,List.drop_eq_nil_of_le ae]
  rw[aJ,aP ae]at h
  exact cR (λz=>[z]) h
 rw[<-e,List.take_append_drop]
theorem cZ2: Ra aY7 aY8 ["w","p","r","m","d","f","k","j","c"]:=by
 rintro ds Q ⟨r,a,b,c,e,q,d,rfl,d2,rb,ab,bb,cb,eb,q2,q3,h⟩;obtain⟨L,eL⟩: ∃L:List D,L=[.int r,.int (d:Int),.int a,.int b,.int c,.int e]:=⟨_,rfl⟩;have i0:atI L 0=some (.int r):=by rw[eL];exact bK (j:=0) rfl
 have i1:atI L 1=some (.int (d:Int)):=by rw[eL];exact bK (j:=1) rfl
 have i2:atI L 2=some (.int a):=by rw[eL];exact bK (j:=2) rfl
 have i3:atI L 3=some (.int b):=by rw[eL];exact bK (j:=3) rfl
 have i4:atI L 4=some (.int c):=by rw[eL];exact bK (j:=4) rfl
 have i5:atI L 5=some (.int e):=by rw[eL];exact bK (j:=5) rfl
 rw[<-eL];clear eL;obtain⟨dp,dl,d1,db,de⟩: ∃dp:List Int,dp.length=d+1/\dp.getD d 0=1/\(∀j,(dp.getD j 0).natAbs<=3)/\atI [D.lst [D.int 1],D.lst [.int a,.int 1],D.lst [.int a,.int b,.int 1]] (d:Int)=some (D.lst<|dp.map .int):=by
  rcases(show d=0\/d=1\/d=2 by lia)with rfl|rfl|rfl
  .exact⟨[1],rfl,rfl,λj=>cP af j,bK (j:=0) rfl⟩
  .exact⟨[a,1],rfl,rfl,λj=>cP (by simp;lia) j,bK (j:=1) rfl⟩
  .exact⟨[a,b,1],rfl,rfl,λj=>cP (by simp;lia) j,bK (j:=2) rfl⟩
 unfold aY8;show(aT _ _:US) _ [~~~.lst L,!q,none,none,none,none,none,none,none];rw[aO];left;rw[i0];right;unfold b29;rw[aO];left;rw[i1];right;unfold b28;rw[aO];left;simp only[i1,i2,i3];rw[de];right;refine⟨ac,ac,ac,ac,?_⟩
 unfold b27;rw[aO];left;rw[show(2+(d:Int)+1).toNat=d+3 by lia,aR3]
 refine⟨ac,⟨ae,ae,aG (show(0+1)*(d+3)<=10 by lia) ac⟩,?_⟩
 unfold b26;rw[aO];refine bJ (d+1) (λi=> .int (0+(i:Int))) [~~~.lst L,!q,!r,!(2+(d:Int)),~~~.lst (dp.map .int),↑((replicate (d+3) (0:Int)).map .int),none,none,none] (λQ' q'=> ?_)
  (λk ρ=> ∃(l:List Int) (x y z:Option B),ρ=[~~~.lst L,!q,!r,!(2+(d:Int)),~~~.lst (dp.map .int),↑(l.map .int),x,y,z]/\l.length=d+3/\(l.getD (d+2) 0=if k=d+1 then 1 else 0)/\ ∀j,(l.getD j 0).natAbs<=27*3*k) ⟨_,none,none,none,rfl,by rw[l7],?_,λj=> ?_⟩ ?_ ?_
 .left
  rw[aH,dl];refine⟨⟨ae,ae⟩,?_⟩
  rw[bV];exact q'
 .rw[a6 ae,aJ,yY,a8 ae]
  rfl
 .rw[aJ,yY];split<;>simp
 .rintro k ρ hk ⟨l,x,y,z,rfl,hl,ht,hb⟩;rw[bN];refine⟨af,?_⟩
  show xI _ [~~~.lst L,!q,!r,!(2+(d:Int)),~~~.lst (dp.map .int),↑(l.map .int),!(k:Int),y,z]
  unfold xI;obtain⟨pl,ep,pb,p2⟩: ∃pl:List Int,pl=[r*r,-2*r,1]/\(∀j,(pl.getD j 0).natAbs<=9)/\pl.getD 2 0=1:=⟨_,rfl,λj=>cP (by
   intro x hx;have h1:(r*r).natAbs<=9:=by rw[cH];exact eB rb rb
   simp only[aY,dL,dQ]at hx;rcases hx with rfl|rfl|rfl
   .exact h1
   .lia
   .decide) j,rfl⟩
  refine bJ 3 (λi=> .tup [.int (i:Int),(pl.map D.int).getD i .non]) [~~~.lst L,!q,!r,!(2+(d:Int)),~~~.lst (dp.map .int),↑(l.map .int),!(k:Int),y,z] (λQ' q'=> ?_)
   (λj ρ=> ∃(m:List Int) (y z:Option B),ρ=[~~~.lst L,!q,!r,!(2+(d:Int)),~~~.lst (dp.map .int),↑(m.map .int),!(k:Int),y,z]/\m.length=d+3/\(m.getD (d+2) 0=if k=d/\j=3 then 1 else 0)/\ ∀i,(m.getD i 0).natAbs<=27*3*k+27*j) ⟨l,y,z,rfl,hl,?_,λi=>hb i⟩ ?_ ?_
  .left
   rw[ep]at q';exact⟨cmL ae ae,cmL ac ac,ac,q'⟩
  .rw[ht,a6 ae,a6 ae]
  .rintro j ρ hj ⟨m,y,z,rfl,ml,mt,mb⟩;have pj:(pl.map D.int).getD j .non= .int (pl.getD j 0):=by
    have:j<pl.length:=by rw[ep];exact hj
    rw[aJ,bG,aP this,aJ,aP this];rfl
   rw[pj];have a1:atI (m.map D.int) ((k:Int)+(j:Int))=some (.int<|m.getD (k+j) 0):=by
    rw[show(k:Int)+(j:Int)=((k+j:Nat):Int)by lia]
    exact a25 ae
   have a2:atI (dp.map D.int) (k:Int)=some (.int<|dp.getD k 0):=a25 ae
   have b1:=pb j;have b2:=db k;left;rw[a1,a2];right;rw[aH,show(k:Int)+(j:Int)=((k+j:Nat):Int)by lia,bW0<|show k+j<m.length by lia]
   right;rw[bG1];refine⟨af,af,trivial,cmL ae ae,_,_,_,rfl,by rw[dM];exact ml,?_,λi=> ?_⟩
   .rw[aS9 ae]
    by_cases c1:d+2=k+j
    .rw[a8 c1,<-c1,mt,a6 ae,a8 ae,show k=d by lia,show j=2 by lia,d1,p2]
     rfl
    .rw[a6 c1,mt,a6 ae,a6 ae]
   .rw[aS9 ae]
    split
    .have h1:=lH (m.getD (k+j) 0) (dp.getD k 0*pl.getD j 0);have h2:(dp.getD k 0*pl.getD j 0).natAbs<=3*9:=by rw[cH];exact eB b2 b1
     have h3:=mb (k+j)
     lia
    .have:=mb i
     lia
  .rintro ρ ⟨m,y,z,rfl,ml,mt,mb⟩;refine⟨m,_,_,_,rfl,ml,?_,λj=> ?_⟩
   .rw[mt]
    by_cases c1:k=d
    .rw[a8 ⟨c1,rfl⟩,a8 ae]
    .rw[a6 ae,a6 ae]
   .have:=mb j
    lia
 .rintro ρ ⟨l,x,y,z,rfl,hl,ht,hb⟩;try right
  rw[a8 rfl]at ht;have a0:atI (l.map D.int) 0=some (.int<|l.getD 0 0):=a25 (k:=0) ae
  unfold b25;rw[aO];left;have x0:ixN (d+3) 0=some 0:=bW0 (n:=0) ae
  have x1:ixN (d+3) 1=some 1:=bW0 (n:=1) ae
  rw[a0,i4,i5];right;rw[aH,hl,x0];refine⟨cmL ae ae,cmR ae ae,cmL ae ae,cmR ae ae,?_⟩
  right;rw[bG1];generalize el:l.set 0 (l.getD 0 0+q*q*c-q*r*e)=l1;have hl1:l1.length=d+3:=by rw[<-el,dM];exact hl
  have ht1:l1.getD (d+2) 0=1:=by rw[<-el,aS9 ae,a6 ae];exact ht
  have a1:atI (l1.map D.int) 1=some (.int<|l1.getD 1 0):=a25 (k:=1) ae
  unfold b24;rw[aO];left;rw[a1,i5];right;rw[aH,hl1,x1];refine⟨cmL ae ae,?_⟩
  right;rw[bG1];generalize em:l1.set 1 (l1.getD 1 0+q*e)=l2;have hl2:l2.length=d+2+1:=by rw[<-em,dM];exact hl1
  have ht2:l2.getD (d+2) 0=1:=by rw[<-em,aS9 ae,a6 ae];exact ht1
  obtain⟨g,gl,rfl⟩:=dE0 hl2 ht2;unfold b23;left;exact h g gl
def cL0:US:=(bM 2<|@2)
def cL1:US:=(aT (bM 3<|hJ<|a7 @3<|a7 @0<|a7 @1 aK) cL0)
def aA9:US:=(iL (uOr (d35<|fG<|aR gIsi<|a7 (aC 14)<|a7 (uC<|.ty "bool") aK)<|fG<|uOp (kR true) (aC 14)<|aR cK8<|a7 (uIx (aS 13)<|@0)<|a7 (uIx (aS 13)<|@1)<|a7 (uIx (aS 13)<|@2) aK) (cZ<|uC<|.bl false) fJ)
def aB0:US:=(aT (bM 14<|aR j4<|a7 (uIx (aS 13)<|@0)<|a7 (uIx (aS 13)<|@1)<|a7 (uIx (aS 13)<|@2) aK) aA9)
def aY9:US:=(cZ<|cN9 (d70 false true<|aR j4<|a7 (hJ<|a7 @3<|a7 @0<|a7 @1 aK)<|a7 @2<|a7 (hJ<|a7 @1<|a7 @1 aK) aK)<|d70 false false<|aR j4<|a7 (uSl (aS 3) kK<|nF<|@2)<|a7 (aC 2)<|a7 (uSl (aS 7) kK<|nF<|@1) aK)
def aZ0:US:=(aT (iM (iK<|aC 11) (cB 13) aB0) aY9)
def aZ1:US:=(aT (bM 11<|uOp fN (aC 11)<|eR<|a7 (eR<|a7 (aC 3)<|a7 (aC 2)<|a7 (uOp fN (hJ<|a7 (uOp fN (uIx (aS 7)<|@0)<|uOp fV (aC 2)<|aC 12) aK)<|uSl (aS 7) (nF<|@1) kK) aK)<|a7 (eR<|a7 (aC 3)<|a7 (aC 12)<|a7 (aC 7) aK)<|a7 (eR<|a7 (aC 3)<|a7 (aC 2)<|a7 (uOp c53 (hJ<|a7 (aC 12) aK)<|jU<|aS 7) aK) aK) aZ0)
def bS6:US:=(aT (bM 12<|aR bZ5 aK) aZ1)
def aZ2:US:=(aT (bM 11<|uOp fN (aC 11)<|eR<|a7 (eR<|a7 (aC 3)<|a7 (uIx (uV<|aR vF aK)<|uOp fN (uIx (aS 1)<|@1)<|@1)<|a7 (aC 7) aK)<|a7 (eR<|a7 (a12 "poly"<|aC 4)<|a7 (aC 2)<|a7 (aC 10) aK)<|a7 (eR<|a7 (a12 "poly"<|aC 4)<|a7 @2<|a7 (aC 10) aK) aK) bS6)
def aZ3:US:=(aT (bM 11<|uOp fN (aC 11)<|eR<|a7 (eR<|a7 (aC 3)<|a7 (aC 2)<|a7 (uSl (aS 7) (nF<|@1) kK) aK)<|a7 (eR<|a7 (aC 3)<|a7 (aC 2)<|a7 (uOp fN (aC 7)<|hJ<|a7 @0 aK) aK)<|a7 (eR<|a7 (aC 3)<|a7 (aC 2)<|a7 (aR cJ<|a7 (eJ [2] [none,some 2,none] 2 (iK<|aC 8) (cB 0) (λρ Q=>Q true ρ)<|uOp fV (aC 1)<|aC 0) aK) aK)<|a7 (eR<|a7 (aC 3)<|a7 (aC 2)<|a7 (hJ aK) aK) aK) aZ2)
def bS7:US:=(aT (bM 11<|eR<|a7 (eR<|a7 (aC 3)<|a7 (aC 2)<|a7 (aC 7) aK)<|a7 (eR<|a7 (aC 3)<|a7 (aC 2)<|a7 (aC 9) aK)<|a7 (eR<|a7 (aC 3)<|a7 (aC 2)<|a7 (aC 8) aK)<|a7 (eR<|a7 (aC 3)<|a7 @211<|a7 (aC 7) aK)<|a7 (eR<|a7 (aC 3)<|a7 @4<|a7 (aC 7) aK)<|a7 (eR<|a7 (aC 3)<|a7 @0<|a7 (aC 7) aK)<|a7 (eR<|a7 (aC 3)<|a7 (nZ<|aC 2)<|a7 (aC 7) aK) aK) aZ3)
def bS8:US:=(aT (bM 10<|aR bZ2<|a7 (aR a13<|a7 (aC 0)<|a7 @5 aK)<|a7 (a12 "degree"<|aC 4)<|a7 @999999883 aK) bS7)
def bS9:US:=(aT (bM 9<|aR cJ<|a7 (eJ [2] [none,none,some 2,none] 3 (uZip<|a7 (aC 7)<|a7 (aC 8) aK) (uP<|fY 0<|fY 1 uO) (λρ Q=>Q true ρ)<|uOp fN (aC 0)<|uOp fV (aC 2)<|aC 1) aK) bS8)
def cA5:US:=(aT (bM 8<|aR bZ2<|a7 (aR a13<|a7 (aC 0)<|a7 @4 aK)<|a7 (jU<|aS 7)<|a7 @999999893 aK) bS9)
def cA6:US:=(aT (bM 7<|aR cJ<|a7 (aC 5) aK) cA5)
def cA7:US:=(aT (iM (cO8<|a7 (uSl (aS 3) (nF<|@1) kK) aK) (cB 6)<|bM 5<|uOp fN (eR<|a7 (uOp fN (aC 6)<|uIf (fG<|uOp (vW λi j=>decide (j<i)) (jU<|aS 5)<|@0) (uOp fV (uIx (aS 5)<|@0)<|uIx (aS 1)<|@0)<|@0) aK)<|aC 5) cA6)
def bG2:US:=(aT (bM 5<|eR aK) cA7)
def cA8:US:=(aT (iL (fG<|aR gAny<|a7 (eJ [] [none,none] 1 (iK<|aC 3) (cB 0) (λρ Q=>Q true ρ)<|uOp (vW λi j=>decide (j<i)) (aR cV4<|a7 (aC 0) aK)<|@499) aK) cL1 fJ) bG2)
def cA9:US:=(aT (bM 4<|aR bY9<|a7 (aC 0)<|a7 @1<|a7 @999999929 aK) cA8)
def cB0:US:=(aT (bM 3<|aR aY7<|a7 (aC 1)<|a7 (aC 2) aK) cA9)
def cB1:US:=(aT (bM 1<|eR<|a7 (uOp M.gSub (uIx (aS 1)<|@0)<|@3)<|a7 (uIx (aS 1)<|@1)<|a7 (uOp M.gSub (uIx (aS 1)<|@2)<|@3)<|a7 (uOp M.gSub (uIx (aS 1)<|@3)<|@3)<|a7 (uOp M.gSub (uIx (aS 1)<|@4)<|@4)<|a7 (uOp M.gSub (uIx (aS 1)<|@5)<|@2) aK) cB0)
def cB2:US:=(aT (bM 2<|uIx (uV<|aR vF aK)<|uOp oS (uIx (aS 1)<|@6)<|uOp fN @2<|uIx (aS 1)<|@7) cB1)
def bZ7:US:=(aT (bM 1<|aR oY<|a7 (aR a13<|a7 (aC 0)<|a7 @0 aK)<|a7 (eR<|a7 @7<|a7 @3<|a7 @7<|a7 @7<|a7 @9<|a7 @5<|a7 @6<|a7 @4 aK)<|a7 @999999937 aK) cB2)
def It (d:D):Prop:= ∃(f:List Int) (q:Int) (x:List Int),d= .lst [aI f,.int q,aI x]/\dG f/\x.length<=10/\ ∀c∈x,c.natAbs<=2^6400
theorem dV1:dG [3,0,1]:=⟨⟨ac,ac,ac⟩,[3,0],rfl⟩
theorem irr301: ¬Red [3,0,1]:=by
 rintro(⟨z,hz⟩| ⟨v,u,w,s,h⟩)
 .have:z*z+3=0:=by
   have e:ev [3,0,1] z=z*z+3:=by
    unfold ev;simp[fOf,ps]
    grind
   rw[<-e];exact hz
  have e:((z.natAbs*z.natAbs:Nat):Int)=z*z:=Int.natAbs_mul_self
  lia
 .have:=cR length h;simp[qq]at this
theorem out301:c95 [3,0,1] 2 [1,1]:=by
 refine⟨dV1,ac,rfl,irr301,⟨1,ac,ac⟩,λk hk=> ?_⟩
 have hk:k<=2:=hk;rcases(show k=0\/k=1\/k=2 by lia)with rfl|rfl|rfl<;>decide
section
variable {Q:B->Prop}{f:List Int}{q:Int}{x:List Int}{s0 s1 s4 s5 s6 s8 s9 s10 s12:Option B}
nonrec def lwF (s0 s1:Option B)(q:Int)(f:List Int)(s4 s5 s6:Option B)(x:List Int)(s8 s9 s10 s11 s12 s13 s14:Option B):Ev:=[s0,s1,!q,~~~aI f,s4,s5,s6,~~~aI x,s8,s9,s10,s11,s12,s13,s14]
theorem law_17 (rp:dG f)(hx:2<=x.length)(x9:x.length<=4){Ls:List D}(hI: ∀d∈Ls,It d)(h:Q (.pu<|.bl true)) :
  aZ0 {Q with} (lwF s0 s1 q f s4 s5 s6 x s8 s9 s10 (↑Ls) s12 none none):=by
 unfold lwF;unfold aZ0;rw[aO];refine bJ Ls.length (λk=>Ls.getD k .non) (lwF s0 s1 q f s4 s5 s6 x s8 s9 s10 (~~~.lst Ls) s12 none none) (λQ' q'=> ?_) (λk ρ=> ∃y z,ρ=lwF s0 s1 q f s4 s5 s6 x s8 s9 s10 (~~~.lst Ls) s12 y z) ⟨none,none,rfl⟩ ?_ ?_
 .left
  exact q'
 .rintro k ρ hk ⟨y,z,rfl⟩;have hd:Ls.getD k .non∈Ls:=by
   rw[aJ,aP hk];exact cV hk
  obtain⟨g,p,w,e,gp,wl,wb⟩:=hI _ hd;rw[e];refine⟨by unfold lwF;simp,?_⟩
  show aB0 _ (lwF s0 s1 q f s4 s5 s6 x s8 s9 s10 (~~~.lst Ls) s12 (~~~.lst [aI g,.int p,aI w]) z)
  have j0:atI [aI g,.int p,aI w] 0=some (aI g):=bK (j:=0) rfl;have j1:atI [aI g,.int p,aI w] 1=some (.int p):=bK (j:=1) rfl;have j2:atI [aI g,.int p,aI w] 2=some (aI w):=bK (j:=2) rfl
  have go: ∀b:Bool,(b=true↔c95 g p w)->aA9 {nx:=λρ=> ∃y z,ρ=lwF s0 s1 q f s4 s5 s6 x s8 s9 s10 (~~~.lst Ls) s12 y z,rt:=Q,bk:=aY9 {Q with},ct:=λρ=> ∃y z,ρ=lwF s0 s1 q f s4 s5 s6 x s8 s9 s10 (~~~.lst Ls) s12 y z} (lwF s0 s1 q f s4 s5 s6 x s8 s9 s10 (~~~.lst Ls) s12 (~~~.lst [aI g,.int p,aI w])<|~~~.bl b):=λb hb=>by
   unfold lwF;unfold aA9;left;rw[j0,j1,j2];right;refine⟨g,p,w,rfl,gp,ae,wb,λo=> ?_,λo=> ?_⟩
   .rw[hb.mpr o];left;exact⟨_,_,rfl⟩
   .rw[u4.mpr λz=>o (hb.mp z)]
    left
    exact⟨_,_,rfl⟩
  have gl:=gp.ok.hi;unfold lwF at go⊢;unfold aB0;rw[aO];left;rw[j0,j1,j2];right;exact⟨g,p,w,rfl,ae,ae,λo=>go true ⟨λ_=>o,λ_=>rfl⟩,λo=>go false ⟨λz=>absurd z ac,λz=>absurd z o⟩⟩
 .rintro ρ ⟨y,z,rfl⟩;have lo:=rp.ok.lo;have hi:=rp.ok.hi;unfold lwF;try right
  unfold aY9;rw[iI];left;refine⟨ac,ac,[3,0,1],2,[1,1],rfl,ac,ac,λ_=> ?_,λz=>absurd out301 z⟩
  left
  rw[a8 ac]
  simp only[aI];refine⟨λ⟨_,z⟩=> ?_,λ⟨_,z⟩=> ?_,?_⟩
  .rw[aH]at z;unfold HT.sIx at z;simp at z
   lia
  .rw[aH]at z;unfold HT.sIx at z;simp at z
   lia
  rw[show(2:Int)=((2:Nat):Int)from rfl,show(1:Int)=((1:Nat):Int)from rfl,bB4 _ 2 (by rw[aH];lia),bB4 _ 1 (by rw[aH];lia),<-lN,<-lN]
  refine⟨f.take 2,q,x.take 1,rfl,by rw[lJ];lia,by rw[lJ];lia,λo=> ?_,λ_=>h⟩
  have:=o.rp.ok.lo;rw[lJ]at this
  lia
end
theorem It.mk {f:List Int}{x:List Int}(rp:dG f)(hx:x.length<=10)(hb: ∀c∈x,c.natAbs<=2^6400):It (.lst [aI f,.int q,aI x]):=⟨f,q,x,rfl,rp,hx,hb⟩
theorem rW {P:D->Prop}{a:D}{l:List D}(h:P a)(t: ∀d∈l,P d): ∀d∈a::l,P d:=λd hd=>by
 rcases aY.mp hd with rfl|z
 .exact h
 .exact t d z
theorem cS2 {P:D->Prop}: ∀d∈([]:List D),P d:=λ_ h=>absurd h af
theorem dE1 {P:D->Prop}{l m:List D}(h: ∀d∈l,P d)(t: ∀d∈m,P d): ∀d∈l++m,P d:=λd hd=>(fF.mp hd).elim (h d) (t d)
section
variable {Q:B->Prop}{ns:List Int}{L:List D}{r q:Int}{d n:Nat}{f:List Int}{C:Addr}{p:List Int}
theorem dV2 (hl:ns.length<=63)(l0:atI L 0=some (.int r))(l1:atI L 1=some (.int (d:Int)))(d2:d<=2)(rb:r.natAbs<=3)(q2:2<=q)(q3:q<200)(rp:dG f)(hn:f.length=n+1)(rp':dG p)(h:Q (.pu<|.bl true)) :
  bG2 {Q with} [~~~.rol (ns.map .int),~~~.lst L,!q,~~~aI f,~~~pC C p,none,none,none,none,none,none,none,none,none,none]:=by
 have lo:=rp.ok.lo;have hi:=rp.ok.hi;have n2:2<=n:=ae
 have n4:n<=4:=ae
 unfold bG2;rw[aO];left;refine⟨ac,?_⟩
 unfold cA7;rw[aO];have fd:(f.drop 1).length=n:=by rw[qH];lia
 refine bJ n (λk=>((f.drop 1).map D.int).getD (n-1-k) .non) [~~~.rol (ns.map .int),~~~.lst L,!q,~~~aI f,~~~pC C p,↑[],none,none,none,none,none,none,none,none,none] (λQ' q'=> ?_)
  (λk ρ=> ∃(l:List Int) (y:Option B),ρ=[~~~.rol (ns.map .int),~~~.lst L,!q,~~~aI f,~~~pC C p,↑(l.map .int),y,none,none,none,none,none,none,none,none]/\l.length=k/\ ∀c∈l,c.natAbs<=499*4^k) ⟨[],none,rfl,rfl,af⟩ ?_ ?_
 .simp only[aI];left;rw[show(1:Int)=((1:Nat):Int)from rfl,a81 _ 1 (by rw[aH];lia),<-uB,aH,aH,fd]
  refine⟨λ⟨z,_⟩=> ?_,q'⟩
  rw[HT.sIx_nat]at z
  lia
 .rintro k ρ hk ⟨l,y,rfl,ll,lb⟩;have hkk:n-1-k< (f.drop 1).length:=ae
  have ek:((f.drop 1).map D.int).getD (n-1-k) .non= .int ((f.drop 1).getD (n-1-k) 0):=by
   rw[aJ,bG,aP hkk,aJ,aP hkk];rfl
  rw[ek];have cb:((f.drop 1).getD (n-1-k) 0).natAbs<=499:=cP (λx hx=>rp.ok.small x (aK3 hx)) _
  generalize (f.drop 1).getD (n-1-k) 0=c at cb;have p4:1<=4^k:=aG (aL1 (n:=k)) (Nat.pow_le_pow_left ac k)
  have fin: ∀v:Int,v.natAbs<=499*4^(k+1)-> ∃(l':List Int) (y:Option B),[some<|B.pu<|.rol<|ns.map .int,~~~.lst L,!q,~~~aI f,~~~pC C p,↑([D.int v]++l.map .int),!c,none,none,none,none,none,none,none,none]=[~~~.rol (ns.map .int),~~~.lst L,!q,~~~aI f,~~~pC C p,↑(l'.map .int),y,none,none,none,none,none,none,none,none]/\l'.length=k+1/\ ∀c∈l',c.natAbs<=499*4^(k+1):=λv hv=>by
   refine⟨v::l,_,rfl,by rw[dI,ll],λa ha=> ?_⟩
   rcases aY.mp ha with rfl|z
   .exact hv
   .refine aG (lb a z) (tY _ ?_)
    rw[qL]
    lia
  left
  rw[l0,aH];refine⟨ac,?_⟩
  have sl:0+1+l.length<=sizeLine:=aG (show 0+1+l.length<=10 by lia) ac
  have pe:4^(k+1)=4*4^k:=by rw[qL,zW]
  by_cases k0:0<l.length
  .rw[a8 ae,show atI (l.map D.int) 0=some (.int<|l.getD 0 0)from a25 (k:=0) k0]
   right;have hb:(l.getD 0 0).natAbs<=499*4^k:=cP lb 0;refine⟨cmR ae ae,ac,sl,fin _ ?_⟩
   have h1:=lH c (l.getD 0 0*r);have h2:(l.getD 0 0*r).natAbs<=499*4^k*3:=by rw[cH];exact eB hb rb
   rw[pe]
   lia
  .rw[a6 ae]
   refine⟨ac,sl,fin _ ?_⟩
   rw[eF,pe]
   lia
 .rintro ρ ⟨l,y,rfl,ll,lb⟩;try right
  have lb': ∀c∈l,c.natAbs<=2^20:=λc hc=>aG (lb c hc) (aG (tY 499<|cT ac n4) ac)
  unfold cA6;rw[aO];left;unfold cA5;rw[aO];left;refine⟨ns,4,rfl,hl,ac,ac,λc4=> ?_⟩
  left
  refine⟨c4,n,999999893,by rw[aH,ll],n4,ac,λyr hy=> ?_⟩
  obtain⟨yf,rfl,yb,yz⟩:=hy;try right
  unfold bS9;rw[aO,nK,d3,cQ];obtain⟨xf,ex,xb⟩: ∃xf:∅,l=rwF n xf/\ ∀j,(xf j).natAbs<=2^20:=⟨λj=>l.getD j 0,by rw[<-ll];exact aX0 l,λj=>cP lb' j⟩
  subst ex;refine cI9 (t0:=0) (t1:=1) n (λj=>((rwF n xf).map D.int).getD j .non) (λj=>((rwF n yf).map D.int).getD j .non) [~~~.rol (ns.map .int),~~~.lst L,!q,~~~aI f,~~~pC C p,~~~.lst ((rwF n xf).map .int),y,~~~.tup ((rwF n xf).map .int),~~~aI (rwF n yf),none,none,none,none,none,none] ?_ ae
   (λx y l=>[x,y,!q,↑l]) none none rfl (λ_ _ _ _ _=>rfl) (λ_ _ _=>⟨af,af⟩) (λ_ _ _ _ q=>q) (λ_ _ _ _=>rfl) (λj=> .int (xf j+q*yf j)) ?_ ?_
  .intro Q' q';simp only[aI];left;rw[bZ,bZ,Nat.min_self];exact q'
  .intro j l Q' hj q';rw[oZ hj,oZ hj]at q'⊢;left;exact⟨cmL ae ae,q'⟩
  rw[iX];left;have sx: ∀{c:Int} {e:Nat},c.natAbs<=2^e->e<=6400->c.natAbs<=2^6400:=λh1 h2=>aG h1 (cT ac h2)
  have bx: ∀c∈rwF n xf,c.natAbs<=2^6400:=λc hc=>by
   obtain⟨j,_,rfl⟩:=d8.mp hc;exact sx (e:=20) (xb j) ac
  have by': ∀c∈rwF n yf,c.natAbs<=2^6400:=λc hc=>by
   obtain⟨j,_,rfl⟩:=d8.mp hc;exact sx (e:=400) (yb j) ac
  have qb:q.natAbs<=2^8:=ae
  have qy: ∀j,(q*yf j).natAbs<=2^408:=λj=>by
   rw[cH,show 408=8+400 from rfl,dP]
   exact eB qb (yb j)
  have ad: ∀{a b:Int} {e:Nat},a.natAbs<=2^e->b.natAbs<=2^e->(a+b).natAbs<=2^(e+1):=λ{a b e} h1 h2=>by
   have:=lH a b;rw[qL]
   lia
  have bm: ∀c∈rwF n λj=>xf j+q*yf j,c.natAbs<=2^6400:=λc hc=>by
   obtain⟨j,_,rfl⟩:=d8.mp hc;exact sx (e:=409) (ad (e:=408) (aG (xb j)<|cT ac<|show 20<=408 by decide)<|qy j) ac
  have lr: ∀g:∅,(rwF n g).length<=10:=λg=>by rw[nM];lia
  unfold bS8;rw[aO];left;refine⟨ns,5,rfl,hl,ac,ac,λc5=> ?_⟩
  try right
  rw[bY4 (C:=C) (p:=p) rfl];left;obtain⟨m,hm⟩: ∃m,p.length=m+1:=⟨p.length-1,by have:=rp'.ok.lo;lia⟩
  refine⟨c5,m,999999883,by rw[hm,show((m+1:Nat):Int)-1=(m:Int)by lia],by have:=rp'.ok.hi;lia,ac,λzr hz=> ?_⟩
  obtain⟨zf,rfl,zb,zz⟩:=hz;try right
  have bz: ∀c∈rwF m zf,c.natAbs<=2^6400:=λc hc=>by
   obtain⟨j,_,rfl⟩:=d8.mp hc;exact sx (e:=400) (zb j) ac
  have lz:(rwF m zf).length<=10:=by rw[nM];have:=rp'.ok.hi;lia
  unfold bS7;rw[aO];left
  have go13: ∀Ls:List D,(∀d∈Ls,It d)->Ls.length<=7->aZ3 {Q with} [~~~.rol (ns.map .int),~~~.lst L,!q,~~~aI f,~~~pC C p,~~~.lst ((rwF n xf).map .int),y,~~~aI (rwF n xf),~~~aI (rwF n yf),some<|.pu<|aI<|rwF n λj=>xf j+q*yf j,~~~aI (rwF m zf),↑Ls,none,none,none]:=λLs hL nL=>by
   unfold aZ3;rw[aO];have nw: ¬(HT.sIx ((rwF n xf).map D.int).length 0 (some 1)=0/\HT.sIx ((rwF n xf).map D.int).length ((rwF n xf).map D.int).length none=((rwF n xf).map D.int).length):=λ⟨z,_⟩=>by
    rw[show(1:Int)=((1:Nat):Int)from rfl,HT.sIx_nat,bZ]at z
    lia
   have cf:cutD ((rwF n xf).map D.int) (some 1) none=((rwF n xf).drop 1).map D.int:=by
    rw[show(1:Int)=((1:Nat):Int)from rfl,a81 _ 1 (by rw[bZ];lia),<-uB]
   have ax:(rwF n xf).map D.int++[D.int 0]=(rwF n xf++[0]).map D.int:=by rw[bX];rfl
   have dx: ∀c∈(rwF n xf).drop 1,c.natAbs<=2^6400:=λc hc=>bx c (aK3 hc)
   have ld:((rwF n xf).drop 1).length<=9:=by rw[qH,nM];lia
   have go14: ∀Ls:List D,(∀d∈Ls,It d)->Ls.length<=11->aZ2 {Q with} [~~~.rol (ns.map .int),~~~.lst L,!q,~~~aI f,~~~pC C p,~~~.lst ((rwF n xf).map .int),y,~~~aI (rwF n xf),~~~aI (rwF n yf),some<|.pu<|aI<|rwF n λj=>xf j+q*yf j,~~~aI (rwF m zf),↑Ls,none,none,none]:=λLs hL nL=>by
    have go16: ∀z:Int,z.natAbs<=2^6350-> ∀Ls:List D,(∀d∈Ls,It d)->Ls.length<=14->aZ1 {Q with} [~~~.rol (ns.map .int),~~~.lst L,!q,~~~aI f,~~~pC C p,~~~.lst ((rwF n xf).map .int),y,~~~aI (rwF n xf),~~~aI (rwF n yf),some<|.pu<|aI<|rwF n λj=>xf j+q*yf j,~~~aI (rwF m zf),↑Ls,!z,none,none]:=λz hz Ls hL nL=>by
     unfold aZ1;rw[aO];simp only[aI];left;have x0:atI ((rwF n xf).map D.int) 0=some (.int<|xf 0):=iD (i:=0) ae
     rw[x0];right;rw[cf,bZ,bV,aR3,aH];have qz:(q*z).natAbs<=2^6358:=by
      rw[cH,show 6358=8+6350 from rfl,dP]
      exact eB qb hz
     refine⟨cmL ae ae,ac,by rw[bZ]at nw;exact nw,aG (show 0+1+((rwF n xf).drop 1).length<=10 by lia) ac,ac,ac,ac,⟨af,ae,ae,aG (show(0+1)*n<=10 by lia) ac⟩,ac,ac,aG (show Ls.length+(0+1+1+1)<=30 by lia) ac,?_⟩
     refine law_17 (x:=rwF n xf) rp (by rw[nM];exact n2) (by rw[nM];exact n4) (dE1 hL<|rW (It.mk (x:=(xf 0+q*z)::(rwF n xf).drop 1) rp (by rw[dI];lia) ?_)<|rW (It.mk (x:=rwF n xf) rp (lr _) bx)<|rW (It.mk (x:=replicate n z) rp (by rw[l7];lia) ?_) cS2) h
     .intro c hc;rcases aY.mp hc with rfl|w
      .exact sx (e:=6359) (ad (e:=6358) (aG (xb 0)<|cT ac<|show 20<=6358 by decide) qz) ac
      .exact dx c w
     .intro c hc;rw[(List.mem_replicate.mp hc).2];exact sx (e:=6350) hz ac
    unfold aZ2;rw[aO];left;refine⟨rfl,?_⟩;left;rw[l1];right;have kl:d+1<T_SMALL_PRIMES.length:=aZ (show d+1<6 by lia) ac
    rw[a18,show atI (T_SMALL_PRIMES.map D.int) ((d:Int)+1)=some (.int<|T_SMALL_PRIMES.getD (d+1) 0)from a25 kl]
    right;refine⟨ac,?_⟩
    rw[bD4 (C:=C) (p:=p) rfl];left;refine⟨ac,?_⟩
    rw[bD4 (C:=C) (p:=p) rfl];left;refine⟨ac,ac,aG (show Ls.length+(0+1+1+1)<=30 by lia) ac,?_⟩
    unfold bS6;rw[aO];left;refine⟨rfl,λz hz=> ?_⟩
    exact go16 z hz _ (dE1 hL<|rW (It.mk rp (lr _) bx)<|rW (It.mk rp' lz bz)<|rW (It.mk rp' lz bz) cS2) (by rw[cM];simp;lia)
   simp only[aI]at go14⊢;left;refine⟨nw,ac,ac,by rw[bZ];exact aG (show n+(0+1)<=10 by lia) ac,ac,?_⟩
   refine cL (t0:=0) n (λk=>((rwF n yf).map D.int).getD k .non) [~~~.rol (ns.map .int),~~~.lst L,!q,~~~aI f,~~~pC C p,~~~.lst ((rwF n xf).map .int),y,~~~aI (rwF n xf),~~~aI (rwF n yf),some<|.pu<|aI<|rwF n λj=>xf j+q*yf j,~~~aI (rwF m zf),~~~.lst Ls,none,none,none] (λQ' q'=> ?_) ae (λx l'=>[x,!q,↑l']) none rfl (λ_ _ _=>rfl) (λ_ _=>bW _) (λ_ _ _ q=>q) (λ_ _ _=>rfl) (λk=> .int (q*yf k)) ?_ ?_
   .left
    rw[bZ];exact q'
   .intro k l' Q' hk q';rw[oZ hk]at q'⊢;left;exact⟨cmL ae ae,q'⟩
   rw[iX];left;rw[cf,ax];refine⟨ac,ac,ac,ac,aG (show Ls.length+(0+1+1+1+1)<=30 by lia) ac,?_⟩
   refine go14 _ (dE1 hL<|rW (It.mk rp ?_ ?_)<|rW (It.mk (x:=rwF n xf++[0]) rp ?_ ?_)<|rW (It.mk rp (lr _) ?_)<|rW (It.mk (x:=[]) rp ac af) cS2) (by rw[cM];simp;lia)
   .exact aG ld ac
   .exact dx
   .rw[cM,nM];show n+1<=10
    lia
   .intro c hc;rcases fF.mp hc with w|w
    .exact bx c w
    .rw[j7.mp w];exact dO _
   .intro c hc;obtain⟨j,_,rfl⟩:=d8.mp hc;exact sx (e:=408) (qy j) ac
  exact⟨ac,ac,ac,ac,ac,ac,ac,ac,go13 _ (rW (It.mk rp (lr _) bx)<|rW (It.mk rp (lr _) bm)<|rW (It.mk rp (lr _) by')<|rW (It.mk rp (lr _) bx)<|rW (It.mk rp (lr _) bx)<|rW (It.mk rp (lr _) bx)<|rW (It.mk rp (lr _) bx) cS2) af⟩
end
theorem rd_law: Ra bO7 bZ7 ["s","w","p","f","g","b","c","x","y","o","z","a","h","i","j"]:=by
 rintro ds Q ⟨ns,rfl,hl,h⟩;unfold bZ7;show(aT _ _:US) _ [~~~.rol (ns.map .int),none,none,none,none,none,none,none,none,none,none,none,none,none,none];rw[aO];left;refine⟨ns,0,rfl,hl,ac,ac,λc=>⟨ac,c,[7,3,7,7,9,5,6,4],999999937,rfl,ac,ac,ac,λxs hx=> ?_⟩⟩
 obtain⟨w0,w1,w2,w3,w4,w5,w6,w7,rfl⟩: ∃w0 w1 w2 w3 w4 w5 w6 w7,xs=[w0,w1,w2,w3,w4,w5,w6,w7]:=by
  match xs,hx.1 with
  | [w0,w1,w2,w3,w4,w5,w6,w7],_=>exact⟨w0,w1,w2,w3,w4,w5,w6,w7,rfl⟩
 have b0:=hx.2 0 w0 7 rfl rfl;have b1:=hx.2 1 w1 3 rfl rfl;have b2:=hx.2 2 w2 7 rfl rfl;have b3:=hx.2 3 w3 7 rfl rfl;have b4:=hx.2 4 w4 9 rfl rfl;have b5:=hx.2 5 w5 5 rfl rfl;have b6:=hx.2 6 w6 6 rfl rfl;have b7:=hx.2 7 w7 4 rfl rfl;obtain⟨W,eW⟩: ∃W:List D,W=[.int w0,.int w1,.int w2,.int w3,.int w4,.int w5,.int w6,.int w7]:=⟨_,rfl⟩;have i0:atI W 0=some (.int w0):=by rw[eW];exact bK (j:=0) rfl
 have i1:atI W 1=some (.int w1):=by rw[eW];exact bK (j:=1) rfl
 have i2:atI W 2=some (.int w2):=by rw[eW];exact bK (j:=2) rfl
 have i3:atI W 3=some (.int w3):=by rw[eW];exact bK (j:=3) rfl
 have i4:atI W 4=some (.int w4):=by rw[eW];exact bK (j:=4) rfl
 have i5:atI W 5=some (.int w5):=by rw[eW];exact bK (j:=5) rfl
 have i6:atI W 6=some (.int w6):=by rw[eW];exact bK (j:=6) rfl
 have i7:atI W 7=some (.int w7):=by rw[eW];exact bK (j:=7) rfl
 simp only[cN,kF];rw[<-eW];unfold cB2;rw[aO];left;refine⟨rfl,?_⟩;left;rw[i6,i7];right;obtain⟨q,eq,q2,q3⟩: ∃q:Int,atI (prL.map D.int) (w6.fmod<|2+w7)=some (.int q)/\2<=q/\q<200:=by
  rw[dE _ ae]
  have e1:=d5 w6 (show 2+w7≠0 by lia)
  have e2:=d4 w6 (show 0<2+w7 by lia)
  obtain⟨k,ek⟩: ∃k:Nat,w6%(2+w7)=(k:Int):=⟨(w6%(2+w7)).toNat,ae⟩
  rw[ek,a18];have kl:k<T_SMALL_PRIMES.length:=aZ (show k<6 by lia) ac
  refine⟨T_SMALL_PRIMES.getD k 0,a25 kl,?_⟩
  rw[aJ,aP kl];have:=(wY (p:=T_SMALL_PRIMES[k]) (by rw[a18];exact cV kl))
  exact⟨this.lo,this.hi⟩
 rw[eq];refine⟨ae,?_⟩
 right;unfold cB1;rw[aO];left;simp only[i0,i1,i2,i3,i4,i5];clear i0 i1 i2 i3 i4 i5 i6 i7;obtain⟨d,ed⟩: ∃d:Nat,w1=(d:Int):=⟨w1.toNat,ae⟩
 refine⟨ac,?_⟩
 unfold cB0;rw[aO];left;rw[ed];refine⟨w0-3,w2-3,w3-3,w4-4,w5-2,q,d,rfl,ae,ae,ae,ae,ae,ae,q2,q3,λg gl=> ?_⟩
 try right
 obtain⟨L,eL⟩: ∃L:List D,L=[.int<|w0-3,.int (d:Int),.int<|w2-3,.int<|w3-3,.int<|w4-4,.int<|w5-2]:=⟨_,rfl⟩;have l0:atI L 0=some (.int<|w0-3):=by rw[eL];exact bK (j:=0) rfl
 have l1:atI L 1=some (.int (d:Int)):=by rw[eL];exact bK (j:=1) rfl
 rw[<-eL];unfold cA9;rw[aO];left;refine⟨ns,1,999999929,rfl,hl,ac,ac,λC p rp'=> ?_⟩
 try right
 unfold cA8;rw[aO,bX6,cP9,d3,cQ];have gl1:(g++[1]).length=d+3:=by rw[cM,gl];rfl
 generalize ef:g++[1]=f at gl1
 refine cL (t0:=0) f.length (λk=>(f.map D.int).getD k .non) [~~~.rol (ns.map .int),~~~.lst L,!q,~~~aI f,~~~pC C p,none,none,none,none,none,none,none,none,none,none] (λQ' q'=> ?_) ae (λx l'=>[x,↑l']) none rfl (λ_ _ _=>rfl) (λ_ _=>bW _) (λ_ _ _ q=>q) (λ_ _ _=>rfl) (λk=> .bl (decide (499< ((f.getD k 0).natAbs:Int)))) ?_ ?_
 .simp only[aI];left;rw[aH];exact q'
 .intro k l' Q' hk q';have ek:(f.map D.int).getD k .non= .int (f.getD k 0):=by
   rw[aJ,bG,aP hk,aJ,aP hk];rfl
  rw[ek]at q'⊢;left;rw[show(if f.getD k 0<0 then -f.getD k 0 else f.getD k 0)=((f.getD k 0).natAbs:Int)by split<;>lia]
  exact q'
 rw[show(List.range f.length).map (λk=>D.bl (decide (499< ((f.getD k 0).natAbs:Int))))=((List.range f.length).map λk=>decide (499< ((f.getD k 0).natAbs:Int))).map D.bl by rw[gD];rfl]
 left
 rw[qQ];right
 by_cases an:(((List.range f.length).map λk=>decide (499< ((f.getD k 0).natAbs:Int))).any id)=true
 .rw[an];left;refine⟨ac,?_⟩
  exact dV2 hl l0 l1 ae ae ac ac dV1 (n:=2) rfl rp' h
 .rw[u4.mpr an];left;have rp:dG f:=by
   refine⟨⟨ae,ae,λc hc=> ?_⟩,g,ef.symm⟩
   obtain⟨k,hk,rfl⟩:=zF hc;refine yX λz=>an ?_
   rw[any_map,List.any_eq_true];refine⟨k,d6.mpr hk,?_⟩;show decide (499< ((f.getD k 0).natAbs:Int))=true;rw[aJ,aP hk];exact kC (by show(499:Int)< ((f[k]).natAbs:Int);lia)
  exact dV2 (n:=d+2) hl l0 l1 ae ae q2 q3 rp gl1 rp' h
abbrev pR:=sH
abbrev pS:=sI
theorem a60: Ra pR pS ["f","p","u","s","total","v","w"]:=b45
theorem cZ3:bootBuiltins "sorted"=some (.builtin "sorted"):=ag
end M
end
namespace M
set_option maxHeartbeats 4000000
def top (i:Nat):Stmt:=PySem.Challenge.pw_ringhouse_k73_sees_outside.main.body.getD i (.Pass ⟨0,0,0,0⟩)
abbrev bmV:List Value:=[.type "ValueError",.type "Exception",.type "BaseException",.type "object"]
abbrev vN:String:="ValueError.__new__"
def nk:NameKind->Bool
 | .local=>true
 | .cell=>true
 | _=>false
def nm (s:Stmt):List Str:=((aD s).names.filter λx=>nk x.2).map (·.1)
def pm (s:Stmt):List Str:=(nm s).take (iV s).args.length
abbrev hV:Stmt:=top 9
abbrev qZ:List Str:=nm hV
abbrev wI:List Str:=pm hV
abbrev iF:Stmt:=top 10
abbrev vG:List Str:=nm iF
abbrev sZ:List Str:=pm iF
abbrev aT0:Stmt:=top 12
abbrev cS3:List Str:=nm aT0
abbrev cB3:List Str:=pm aT0
abbrev vH:Stmt:=top 13
abbrev bG3:List Str:=nm vH
abbrev b30:List Str:=pm vH
abbrev kN:Stmt:=top 14
abbrev a52:List Str:=nm kN
abbrev yJ:List Str:=pm kN
abbrev rX:Stmt:=top 15
abbrev b31:List Str:=nm rX
abbrev aT1:List Str:=pm rX
abbrev vI:Stmt:=top 18
abbrev bG4:List Str:=nm vI
abbrev b32:List Str:=pm vI
abbrev aB1:Stmt:=top 19
abbrev cB4:List Str:=nm aB1
abbrev bT0:List Str:=pm aB1
abbrev jN:Stmt:=top 20
abbrev yK:List Str:=nm jN
abbrev wJ:List Str:=pm jN
abbrev yL:Stmt:=top 22
abbrev bT1:List Str:=nm yL
abbrev bG5:List Str:=pm yL
abbrev pF:Stmt:=top 23
abbrev aT2:List Str:=nm pF
abbrev aG6:List Str:=pm pF
abbrev j5:Stmt:=top 24
abbrev wK:List Str:=nm j5
abbrev vJ:List Str:=pm j5
abbrev gN:Stmt:=top 25
abbrev rY:List Str:=nm gN
abbrev pT:List Str:=pm gN
abbrev pG:Stmt:=top 27
abbrev aT3:List Str:=nm pG
abbrev aG7:List Str:=pm pG
abbrev aE3:Stmt:=top 29
abbrev cS4:List Str:=nm aE3
abbrev jO:List Str:=pm aE3
abbrev oM:Stmt:=top 30
abbrev aB2:List Str:=nm oM
abbrev aT4:List Str:=pm oM
abbrev tO:Stmt:=top 32
abbrev aZ4:List Str:=nm tO
abbrev bG6:List Str:=pm tO
abbrev yM:Stmt:=top 33
abbrev bT2:List Str:=nm yM
abbrev bG7:List Str:=pm yM
abbrev nI:Stmt:=top 34
abbrev aG8:List Str:=nm nI
abbrev aB3:List Str:=pm nI
abbrev oN:Stmt:=top 35
abbrev aB4:List Str:=nm oN
abbrev aT5:List Str:=pm oN
abbrev pH:Stmt:=top 36
abbrev aT6:List Str:=nm pH
abbrev aG9:List Str:=pm pH
abbrev tP:Stmt:=top 37
abbrev aZ5:List Str:=nm tP
abbrev bG8:List Str:=pm tP
abbrev aT7:Stmt:=top 38
abbrev b77:List Str:=["ring","x","n","sums","places","k","total"]
abbrev cB5:List Str:=["ring","x"]
abbrev mJ:Stmt:=top 40
abbrev a26:List Str:=nm mJ
abbrev aH0:List Str:=pm mJ
abbrev lW:Stmt:=top 41
abbrev aB5:List Str:=nm lW
abbrev a53:List Str:=pm lW
abbrev r6:Stmt:=top 42
abbrev aO2:List Str:=nm r6
abbrev b33:List Str:=pm r6
abbrev lX:Stmt:=top 43
abbrev aB6:List Str:=nm lX
abbrev a54:List Str:=pm lX
abbrev pI:Stmt:=top 45
abbrev aT8:List Str:=nm pI
abbrev aH1:List Str:=pm pI
abbrev nJ:Stmt:=top 46
abbrev aH2:List Str:=nm nJ
abbrev aB7:List Str:=pm nJ
abbrev gI:Stmt:=top 47
abbrev oA:List Str:=nm gI
abbrev t6:List Str:=pm gI
abbrev gO:Stmt:=top 48
abbrev rZ:List Str:=nm gO
abbrev pU:List Str:=pm gO
abbrev kP:Stmt:=top 51
abbrev xJ:List Str:=nm kP
abbrev aB8:List Str:=pm kP
abbrev mK:Stmt:=top 52
abbrev a27:List Str:=nm mK
abbrev aH3:List Str:=pm mK
abbrev jP:Stmt:=top 53
abbrev vK:List Str:=nm jP
abbrev a55:List Str:=pm jP
abbrev oO:Stmt:=top 55
abbrev aB9:List Str:=nm oO
abbrev aT9:List Str:=pm oO
abbrev kQ:Stmt:=top 56
abbrev xK:List Str:=nm kQ
abbrev aC0:List Str:=pm kQ
abbrev fW:Stmt:=top 60
abbrev wL:List Str:=nm fW
abbrev vL:List Str:=pm fW
abbrev gP:Stmt:=top 61
abbrev vM:List Str:=nm gP
abbrev a56:List Str:=pm gP
abbrev hX:Stmt:=top 64
abbrev r8:List Str:=nm hX
abbrev wM:List Str:=pm hX
abbrev iR:Stmt:=top 65
abbrev sL:List Str:=nm iR
abbrev yN:List Str:=pm iR
abbrev bG9:Stmt:=top 67
abbrev dE2:List Str:=nm bG9
abbrev cS5:List Str:=pm bG9
abbrev aU0:Stmt:=top 68
abbrev cS6:List Str:=nm aU0
abbrev cB6:List Str:=pm aU0
abbrev aU1:Stmt:=top 69
abbrev cS7:List Str:=nm aU1
abbrev cB7:List Str:=pm aU1
abbrev yO:Stmt:=top 70
abbrev bT3:List Str:=nm yO
abbrev bH0:List Str:=pm yO
abbrev aZ6:Stmt:=top 71
abbrev cL2:List Str:=nm aZ6
abbrev cS8:List Str:=pm aZ6
abbrev pJ:Stmt:=top 72
abbrev aU2:List Str:=nm pJ
abbrev aH4:List Str:=pm pJ
abbrev bH1:Stmt:=top 73
abbrev dE3:List Str:=nm bH1
abbrev cS9:List Str:=pm bH1
abbrev bT4:Stmt:=top 74
abbrev dE4:List Str:=nm bT4
abbrev dE5:List Str:=pm bT4
abbrev aU3:Stmt:=top 75
abbrev cT0:List Str:=nm aU3
abbrev cB8:List Str:=pm aU3
abbrev b78:Stmt:=top 76
abbrev bZ8:List Str:=["_law_poly_here","_law_x","_law_many","_law_turn","_law_rows","_law_row","_law_k"]
abbrev cB9:List Str:=["_law_poly_here","_law_x"]
abbrev rA:Stmt:=top 77
abbrev aO3:List Str:=nm rA
abbrev b34:List Str:=pm rA
abbrev tQ:Stmt:=top 78
abbrev aZ7:List Str:=nm tQ
abbrev bH2:List Str:=pm tQ
abbrev bH3:Stmt:=top 79
abbrev cT1:List Str:=nm bH3
abbrev dE6:List Str:=pm bH3
abbrev cT2:Stmt:=top 80
abbrev dE7:List Str:=["_law_poly_here","_law_p","_law_x","_law_far","_law_place"]
abbrev dE8:List Str:=["_law_poly_here","_law_p","_law_x"]
abbrev aC1:Stmt:=top 81
abbrev cC0:List Str:=nm aC1
abbrev bT5:List Str:=pm aC1
abbrev bH4:Stmt:=top 82
abbrev dE9:List Str:=nm bH4
abbrev cT3:List Str:=pm bH4
abbrev aH5:Stmt:=top 83
abbrev cC1:List Str:=["_law_script","_law_draws_here","_law_p","_law_poly_here","_law_ring_here","_law_back","_law_place","_law_x","_law_y","_law_more","_law_z","_law_asked","_law_huge_here","_law_one","_law_found"]
abbrev PP_law:List Str:=["_law_script"]
local macro_rules| `(tactic| walk_at "s")=> `(tactic| exact⟨rfl,rfl,rfl,by decide +kernel,rfl,by decide +kernel,by decide +kernel⟩)
theorem aU4:aW qZ wI (aD hV):=by walk_at "s"
theorem aF3:aW vG sZ (aD iF):=by walk_at "s"
theorem bH5:aW cS3 cB3 (aD aT0):=by walk_at "s"
theorem cC2:aW bG3 b30 (aD vH):=by walk_at "s"
theorem eN:aW a52 yJ (aD kN):=by walk_at "s"
theorem tJ:aW b31 aT1 (aD rX):=by walk_at "s"
theorem wN:aW bG4 b32 (aD vI):=by walk_at "s"
theorem yP:aW cB4 bT0 (aD aB1):=by walk_at "s"
theorem aU5:aW yK wJ (aD jN):=by walk_at "s"
theorem aO4:aW bT1 bG5 (aD yL):=by walk_at "s"
theorem xL:aW aT2 aG6 (aD pF):=by walk_at "s"
theorem oB:aW wK vJ (aD j5):=by walk_at "s"
theorem gA:aW rY pT (aD gN):=by walk_at "s"
theorem xM:aW aT3 aG7 (aD pG):=by walk_at "s"
theorem pK:aW cS4 jO (aD aE3):=by walk_at "s"
theorem bZ9:aW aB2 aT4 (aD oM):=by walk_at "s"
theorem aO5:aW aZ4 bG6 (aD tO):=by walk_at "s"
theorem a28:aW bT2 bG7 (aD yM):=by walk_at "s"
theorem bH6:aW aG8 aB3 (aD nI):=by walk_at "s"
theorem a29:aW aB4 aT5 (aD oN):=by walk_at "s"
theorem xN:aW aT6 aG9 (aD pH):=by walk_at "s"
theorem bH7:aW aZ5 bG8 (aD tP):=by walk_at "s"
theorem yQ:aW b77 cB5 (aD aT7):=by walk_at "s"
theorem bL8:aW a26 aH0 (aD mJ):=by walk_at "s"
theorem kO:aW aB5 a53 (aD lW):=by walk_at "s"
theorem cC3:aW aO2 b33 (aD r6):=by walk_at "s"
theorem nN:aW aB6 a54 (aD lX):=by walk_at "s"
theorem xO:aW aT8 aH1 (aD pI):=by walk_at "s"
theorem iG:aW aH2 aB7 (aD nJ):=by walk_at "s"
theorem t7:aW oA t6 (aD gI):=by walk_at "s"
theorem eX:aW rZ pU (aD gO):=by walk_at "s"
theorem bH8:aW xJ aB8 (aD kP):=by walk_at "s"
theorem bL9:aW a27 aH3 (aD mK):=by walk_at "s"
theorem iS:aW vK a55 (aD jP):=by walk_at "s"
theorem a30:aW aB9 aT9 (aD oO):=by walk_at "s"
theorem jQ:aW xK aC0 (aD kQ):=by walk_at "s"
theorem vO:aW wL vL (aD fW):=by walk_at "s"
theorem nO:aW vM a56 (aD gP):=by walk_at "s"
theorem wO:aW r8 wM (aD hX):=by walk_at "s"
theorem rB:aW sL yN (aD iR):=by walk_at "s"
theorem dQ4:aW dE2 cS5 (aD bG9):=by walk_at "s"
theorem bH9:aW cS6 cB6 (aD aU0):=by walk_at "s"
theorem yR:aW cS7 cB7 (aD aU1):=by walk_at "s"
theorem a31:aW bT3 bH0 (aD yO):=by walk_at "s"
theorem aE4:aW cL2 cS8 (aD aZ6):=by walk_at "s"
theorem xP:aW aU2 aH4 (aD pJ):=by walk_at "s"
theorem aE5:aW dE3 cS9 (aD bH1):=by walk_at "s"
theorem cL3:aW dE4 dE5 (aD bT4):=by walk_at "s"
theorem sA:aW cT0 cB8 (aD aU3):=by walk_at "s"
theorem vP:aW bZ8 cB9 (aD b78):=by walk_at "s"
theorem cC4:aW aO3 b34 (aD rA):=by walk_at "s"
theorem cL4:aW aZ7 bH2 (aD tQ):=by walk_at "s"
theorem a32:aW cT1 dE6 (aD bH3):=by walk_at "s"
theorem c00:aW dE7 dE8 (aD cT2):=by walk_at "s"
theorem oP:aW cC0 bT5 (aD aC1):=by walk_at "s"
theorem b79:aW dE9 cT3 (aD bH4):=by walk_at "s"
theorem iQ:aW cC1 PP_law (aD aH5):=by walk_at "s"
abbrev pL:Stmt:=(b69<|top 3).getD 0 (.Pass ⟨0,0,0,0⟩)
theorem bM0:aW ["self","left","right"] ["self","left","right"] (aD pL):=by walk_at "s"
abbrev vQ:Stmt:=(b69<|top 5).getD 0 (.Pass ⟨0,0,0,0⟩)
theorem cC5:aW ["self","prime","number"] ["self","prime","number"] (aD vQ):=by walk_at "s"
abbrev aC2:Stmt:=(b69<|top 59).getD 0 (.Pass ⟨0,0,0,0⟩)
theorem cT4:aW ["self","poly","size"] ["self","poly"] (aD aC2):=by walk_at "s"
abbrev aC3:Stmt:=(b69<|top 63).getD 0 (.Pass ⟨0,0,0,0⟩)
theorem dQ5:aW ["self","poly"] ["self","poly"] (aD aC3):=by walk_at "s"
structure Zs (mg:Str->Option Value):Prop where
 z0:mg "len"=none
 z1:mg "all"=none
 z2:mg "abs"=none
 z3:mg "max"=none
 z4:mg "list"=none
 z5:mg "reversed"=none
 z6:mg "range"=none
 z7:mg "enumerate"=none
 z8:mg "tuple"=none
 z9:mg "sum"=none
 z10:mg "sorted"=none
 z11:mg "min"=none
 z12:mg "any"=none
 z13:mg "int"=none
 z14:mg "zip"=none
 z15:mg "isinstance"=none
 z16:mg "bool"=none
abbrev DT (P:Program)(w:World)(K:Frag)(mg:Str->Option Value)(base:Heap)(N:List Str)(q:Str)(t:Stmt)(k:Nat)(u:US):Prop:= ∀{f:Addr} {cdv:Value} {A:Around} {outer:List Env} {s:Shared} {H:Hp} {E:XK},gT k (A.deeper<|envOfC q (aD t) s.heap.objs.size f cdv)->tD (t9 CX0 P w K mg base N q (aD t) f cdv A outer s H E).nox (dF t) u
section
variable (P:Program)(w:World)(K:Frag)(mg:Str->Option Value)(base:Heap)
abbrev wP:=Fn P w K mg base "is_ring_poly" wI 1 kX
abbrev nB:=Fn P w K mg base "need_ring_poly" sZ 2 gW
abbrev cC6:=Fn P w K mg base "cut" cB3 1 a83
abbrev b35:=Fn P w K mg base "padded" b30 1 wH
abbrev mL:=Fn P w K mg base "poly_parted" yJ 2 gH
abbrev aU6:=Fn P w K mg base "poly_at" aT1 1 tH
abbrev cC7:=Fn P w K mg base "to_the" b32 1 aA3
abbrev cZ4:=Fn P w K mg base "root" bT0 1 aX7
abbrev pM:=Fn P w K mg base "small_primes" wJ 1 iY
abbrev aO6:=Fn P w K mg base "apart" bG5 4 v8
abbrev aH6:=Fn P w K mg base "dividers" aG6 1 rL
abbrev aO7:=Fn P w K mg base "line_and_rest" vJ 3 o7
abbrev a61:=Fn P w K mg base "two_by_two_apart" pT 3 kS
abbrev bM1:=Fn P w K mg base "two_with" aG7 2 xD
abbrev dF0:=Fn P w K mg base "det" jO 5 (gM 4)
abbrev c01:=Fn P w K mg base "without" aT4 1 a14
abbrev cL5:=Fn P w K mg base "times" bG6 3 aN1
abbrev cL6:=Fn P w K mg base "power" bG7 4 aN4
abbrev bI0:=Fn P w K mg base "number_of" aB3 2 vA
abbrev c02:=Fn P w K mg base "t_times" aT5 1 a22
abbrev aH7:=Fn P w K mg base "table_of" aG9 2 rM
abbrev cL7:=Fn P w K mg base "trace" bG8 3 aN7
abbrev dF1:=Fn P w K mg base "own" cB5 5 bE7
abbrev xQ:=Fn P w K mg base "mod_poly" aH0 2 jE
abbrev b48:=Fn P w K mg base "mod_parted" a53 4 sF
abbrev cC8:=Fn P w K mg base "scaled" b33 3 wF
abbrev b49:=Fn P w K mg base "inverse_of" a54 1 sD
abbrev bM2:=Fn P w K mg base "split_by" aH1 6 wZ
abbrev bI1:=Fn P w K mg base "lines_out" aB7 5 uZ
abbrev aF4:=Fn P w K mg base "rootless_parts" t6 2 mY
abbrev a62:=Fn P w K mg base "two_by_two_split" pU 1 pR
abbrev bI2:=Fn P w K mg base "papers_of" aB8 8 v5
abbrev bM3:=Fn P w K mg base "parts_at" aH3 7 xA
abbrev b50:=Fn P w K mg base "outside_of" a55 3 sJ
abbrev c03:=Fn P w K mg base "measure" aT9 6 a20
abbrev bI3:=Fn P w K mg base "root_sums" aC0 1 uW
abbrev aU7:=Fn P w K mg base "sees_outside" wM 7 j4
abbrev aZ8:=Fn P w K mg base "is_whole_by" yN 6 qX
abbrev cT5:=Fn P w K mg base "_law_cell" cS5 1 a13
abbrev cC9:=Fn P w K mg base "_law_mixed" cB6 1 a79
abbrev bI4:=Fn P w K mg base "_law_draws" cB7 2 oY
abbrev cL8:=Fn P w K mg base "_law_shifted" bH0 1 a24
abbrev dQ6:=Fn P w K mg base "_law_poly" cS8 3 bY8
abbrev bM4:=Fn P w K mg base "_law_known_ring" aH4 2 xG
abbrev dQ7:=Fn P w K mg base "_law_ring" cS9 12 bY9
abbrev TF_few:=Fn P w K mg base "_law_few" dE5 3 bZ2
abbrev cD0:=Fn P w K mg base "_law_times" cB8 1 aS4
abbrev dF2:=Fn P w K mg base "_law_table" cB9 2 bE2
abbrev cD1:=Fn P w K mg base "_law_is_prime" b34 1 aA6
abbrev bI5:=Fn P w K mg base "_law_primes" bH2 2 vF
abbrev TF_own:=Fn P w K mg base "_law_own" dE6 3 cK5
abbrev TF_due:=Fn P w K mg base "_law_due" dE8 5 cK8
abbrev cZ5:=Fn P w K mg base "_law_double" bT5 1 aY7
abbrev dQ8:=Fn P w K mg base "_law_huge" cT3 1 bZ5
end
section
variable {P:Program}{w:World}{K:Frag}{mg:Str->Option Value}{base:Heap}
theorem aO8 (Z:Zs mg){rC:Tok}(gJ:mg "GREATEST_PLACE"=some (.int 499 rC)):DT<$>qZ "is_ring_poly" hV 0 pB:=λhr=>
 (mV (PUW.pt<|aM3 (kY cO2 (eI (bI 0) rfl Z.z0) aE)<|aM3 (kY b93 (eI (bI 0) rfl Z.z0) aE)<|aQ0<|kY b94 (cE (bI 0)<|iO aE) aE) (fK bO5)<|fK<|eY (b96 rfl) rfl Z.z1 b97 (aB (jL ["c",".acc"] (aD hV).names qZ (iN<|aQ 0) (λ_ _ _ _ _ _=>dX) λ_ _ _ _ _ _=>(c55 dT6 (eY bV2 rfl Z.z2 bX0 (aN 0 aA))<|cO5 rfl gJ)) aA))
theorem aC4 (Z:Zs mg)(hZ:wP<$>P):DT<$>vG "need_ring_poly" iF 1 n6:=λhr=>
 (bH<|bK5 (bU9<|b88<|dB hZ hr<|aN 0 aA)<|bH c41)
theorem cZ6 (Z:Zs mg):DT<$>cS3 "cut" aT0 0 bC1:=λhr=>
 (bD 1 bH5.nd (eI (bI 0) rfl Z.z0)<|bS (b90 kB (PUW.pt<|b61 (kY b93 (aQ 1) aE)<|aP9<|kY lQ (cE (bI 0)<|aM bQ (aQ 1) aE) aE)<|bH<|us_g 1 bH5.nd aE iu_sub)<|fK<|cW4 (aQ 0) kM<|gU<|aQ 1)
theorem c04 (Z:Zs mg):DT<$>bG3 "padded" vH 0 a94:=λhr=>
 (fK<|aM cC (aQ 0)<|aM cP0 (dD<|aX aA)<|aM bQ (aQ 1)<|eI (bI 0) rfl Z.z0)
theorem aU8 (Z:Zs mg)(a35:cC6<$>P):DT<$>a52 "poly_parted" kN 1 qT:=λhr=>
 (bD 2 eN.nd (aM bQ (eI (bI 1) rfl Z.z0) aE)<|bD 3 eN.nd (eY (cu_max rfl) rfl Z.z3 bt_max (aX<|aB (aM bQ (eI (bI 0) rfl Z.z0)<|aQ 2) aA))<|bD 4 eN.nd (cG bV4 rfl Z.z4 bX1 (aN 0 aA))<|bD 5 eN.nd (aM cD (bO<|aX aA)<|aQ 3)<|bS (o6 6 eN.nd (dL1 rfl Z.z5 rfl Z.z6 (aN 3 aA))<|bD 7 eN.nd (cE (bI 4)<|aM cC (aQ 6)<|aQ 2)<|bS (nY 5 (pv 5) (aQ 7)<|aQ 6)<|bH<|aV8 kB rfl (cO7 (by rfl) Z.z7<|aN 1 aA) (a04 rfl (fU 8 (fT eN.nd rfl (Or.inl rfl))<|fU 9 (fT eN.nd rfl (Or.inl rfl)) tE) (eM<|eM oX)) (bH<|dL0 4 (pv 4) (aM cC (aQ 6)<|aQ 8) (aM cD (aQ 7)<|aQ 9) d19))<|fK<|dD<|aB (dB a35 hr<|aB (cG dS rfl Z.z8 dU (aN 5 aA)) aA)<|aB (dB a35 hr<|aB (cG dS rfl Z.z8 dU (aN 4 aA)) aA) aA)
theorem bM5 (Z:Zs mg):DT<$>b31 "poly_at" rX 0 a19:=λhr=>
 (bD 2 tJ.nd aE<|bS (o6 3 tJ.nd (cO9 rfl Z.z5 (aN 0 aA))<|bH<|a74 2 tJ.nd<|aM cC (aM cD (aQ 2)<|aQ 1)<|aQ 3)<|bH<|mF 2<|pv 2)
theorem c05 (Z:Zs mg):DT<$>bG4 "to_the" vI 0 aA4:=λhr=>
 (bD 2 wN.nd aE<|bS (o6 3 wN.nd (cF rfl Z.z6 (aN 1 aA))<|bH<|a74 2 wN.nd<|aM cD (aQ 2)<|aQ 0)<|bH<|mF 2<|pv 2)
theorem cL9 (Z:Zs mg):DT<$>cB4 "root" aB1 0 aX8:=λhr=>
 (bD 1 yP.nd (aQ 0)<|bD 2 yP.nd (aM a05 (aM cC (aQ 0) aE) aE)<|bS (b90 kB (kY cO2 (aQ 2)<|aQ 1)<|bD 1 yP.nd (aQ 2)<|bH<|a74 2 yP.nd<|aM a05 (aM cC (aQ 1)<|aM a05 (aQ 0)<|aQ 1) aE)<|bH<|mF 1<|pv 1)
theorem aO9 (Z:Zs mg){jR:Addr}(iH:mg "SMALL_PRIMES"=some (.ref jR))(vR:KT K jR (T_SMALL_PRIMES.map V.int)):DT<$>yK "small_primes" jN 0 pA:=λhr=>
 (fK<|cG bV4 rfl Z.z4 bX1 (aB (dL6 rfl iH vR) aA))
theorem cD2 (Z:Zs mg)(dC:nB<$>P)(pN:aO7<$>P)(lY:a61<$>P):DT<$>bT1 "apart" yL 3 aM9:=λhr=>
 (bS (bV7<|dB dC hr<|aN 0 aA)<|bD 1 aO4.nd (dB pN hr<|aN 0 aA)<|mV (PUW.pt<|b61 (bV9<|aQ 1)<|aP9<|kY lQ (eI (bI 0) rfl Z.z0) aE) (bH<|a74 1 aO4.nd<|dB lY hr<|aN 0 aA)<|bH<|mF 1<|pv 1)
theorem bI6 (Z:Zs mg):DT<$>aT2 "dividers" pF 0 xC:=λhr=>
 (mV (kY lQ (aQ 0) aE) (fK<|bO<|aX aA)<|bD 1 xL.nd (bO aA)<|bS (o6 2 xL.nd (qP rfl Z.z6 (aX<|aB (aM cC (eY bV2 rfl Z.z2 bX0 (aN 0 aA)) aE) aA))<|bH<|bK5 (kY lQ (aM gR (aQ 0)<|aQ 2) aE)<|bS (jJ 1 (pv 1)<|aQ 2)<|bH<|jJ 1 (pv 1)<|iO<|aQ 2)<|bH<|mF 1<|pv 1)
theorem aF5 (Z:Zs mg)(mM:aH6<$>P)(oQ:aU6<$>P)(cS:mL<$>P):DT<$>wK "line_and_rest" j5 2 o8:=λhr=>
 (bS (o6 1 oB.nd (iN<|dB mM hr<|aB (cE (bI 0) aE) aA)<|bH<|bK5 (kY lQ (dB oQ hr<|aN 0<|aN 1 aA) aE)<|bD 2 oB.nd (dD<|aF8 (iO<|aQ 1)<|aX aA)<|fK<|dD<|aN 2<|aB (cE (uM<|dB cS hr<|aN 0<|aN 2 aA) aE) aA)<|fK b87)
theorem a33 (Z:Zs mg)(mM:aH6<$>P)(a36:bM1<$>P):DT<$>rY "two_by_two" gN 2 kT:=λhr=>
 (bS (o6 1 gA.nd (iN<|dB mM hr<|aB (cE (bI 0) aE) aA)<|bD 2 gA.nd (aM a05 (cE (bI 0) aE)<|aQ 1)<|bH<|o6 3 gA.nd (iN<|dB a36 hr<|aB (cE (bI 0) aE)<|aB (aM bQ (aM bQ (cE (bI 0) aE)<|aQ 1)<|aQ 2) aA)<|bD 4 gA.nd (aM bQ (cE (bI 0) aE)<|aQ 3)<|bH<|bK5 (kY lQ (aM cC (aM cD (aQ 3)<|aQ 2)<|aM cD (aQ 1)<|aQ 4)<|cE (bI 0) aE)<|fK<|dD<|oG (dD<|aN 1<|aN 3<|aX aA)<|oG (dD<|aN 2<|aN 4<|aX aA) aA)<|fK b87)
theorem bI7 (Z:Zs mg)(bJ3:cZ4<$>P):DT<$>aT3 "two_with" pG 1 xE:=λhr=>
 (bD 2 xM.nd (aM bQ (aM cD (aQ 0)<|aQ 0)<|aM cD aE<|aQ 1)<|mV (kY cO2 (aQ 2) aE) (fK<|bO aA)<|bD 3 xM.nd (dB bJ3 hr<|aN 2 aA)<|mV (kY b94 (aM cD (aQ 3)<|aQ 3)<|aQ 2) (fK<|bO aA)<|fK<|bO<|aB (aM a05 (aM cC (aQ 0)<|aQ 3) aE)<|aB (aM a05 (aM bQ (aQ 0)<|aQ 3) aE) aA)
theorem aE6 (Z:Zs mg){k:Nat}{gM:Φ}(hk:1<=k)(aV1:Fn<$>"det" jO k gM)(oR:c01<$>P):DT<$>cS4 "det" aE3 k (bB5 gM):=λhr=>
 (bS (d39 (aD8 lQ (eI (wT 0<|pv 0) rfl Z.z0) aE<|bT9 _) (bH<|d38<|b92 (uM<|b92 (wT 0<|pv 0) aE λ_ _=>rfl) aE λ_ _=>rfl) cG2)<|bS (a65 1 pK.nd rfl (Or.inl rfl) aE (hl:=il (n:=4) rfl ac))<|bS (a65 2 pK.nd rfl (Or.inl rfl) aE (hl:=il (n:=4) rfl ac))<|bS (aV8 kB rfl (cF rfl Z.z6 (aB (eI (wT 0<|pv 0) rfl Z.z0) aA)) (b62 3<|fT pK.nd rfl (Or.inl rfl)) (bS (d42 1 pK.nd rfl (Or.inl rfl) (aM cD (aM cD (gF 2<|pv 2)<|b92 (uM<|b92 (wT 0<|pv 0) (gF 3<|pv 3) λ_ _=>rfl) aE λ_ _=>rfl)<|aQ4 aV1 hr (aF _) rfl (aB (aQ4 oR hr hk rfl (aB (gF 0<|pv 0)<|aB (gF 3<|pv 3) aA)) aA)) cG5 (hl:=il (n:=4) rfl ac))<|bH<|a65 2 pK.nd rfl (Or.inl rfl) (iO<|gF 2<|pv 2) (hl:=il (n:=4) rfl ac)))<|bH<|mF 1<|pv 1)
theorem bM6 (Z:Zs mg):DT<$>aB2 "without" oM 0 a15:=λhr=>
 (fK<|cG dS rfl Z.z8 dU (aB (jL ["row",".acc"] (aD oM).names aB2 (iN<|aM cC (jK (bI 0) kM<|gU<|aQ 1)<|jK (bI 0) (gU<|aM cC (aQ 1) aE) kM) (λ_ _ _ _ _ _=>dX) λ_ _ _ _ _ _=>(jK (bI 0) (gU aE) kM)) aA))
theorem cD3 (Z:Zs mg)(mO:aH7<$>P):DT<$>aZ4 "times" tO 2 aN2:=λhr=>
 (bD 3 aO5.nd (wW<|aQ 0)<|bD 4 aO5.nd (dB mO hr<|aN 0<|aN 1 aA)<|fK<|cG dS rfl Z.z8 dU (aB (jL ["j","n","y","table",".acc"] (aD tO).names aZ4 (cF rfl Z.z6 (aN 3 aA)) (λ_ _ _ _ _ _=>dX) λ_ _ _ _ _ _=>(eY (aW2 rfl) rfl Z.z9 aW3 (aB (jL ["i","y","table","j",".acc"] [(".0",NameKind.local),("j",NameKind.cell),("sum",NameKind.globalImplicit),("range",NameKind.globalImplicit),("n",NameKind.cell),("table",NameKind.cell),("y",NameKind.cell)] ["j","n","y","table",".acc"] (cF rfl Z.z6 (aN 1 aA)) (λ_ _ _ _ _ _=>dX) λ_ _ _ _ _ _=>(aM cD (cE (bI 1)<|aQ 0)<|cE (uM<|cE (bI 2)<|aQ 0)<|aQ 3)) aA))) aA))
theorem cD4 (Z:Zs mg)(xR:bI0<$>P)(b02:cL5<$>P):DT<$>bT2 "power" yM 3 aN5:=λhr=>
 (bD 3 a28.nd (dB xR hr<|aN 0<|aX aA)<|bS (o6 4 a28.nd (cF rfl Z.z6 (aN 2 aA))<|bH<|a74 3 a28.nd<|dB b02 hr<|aN 0<|aN 3<|aN 1 aA)<|bH<|mF 3<|pv 3)
theorem b51 (Z:Zs mg)(rD:b35<$>P):DT<$>aG8 "number_of" nI 1 vB:=λhr=>
 (fK<|dB rD hr<|oG (dD<|aN 1 aA)<|aB (wW<|aQ 0) aA)
theorem bM7 (Z:Zs mg):DT<$>aB4 "t_times" oN 0 a23:=λhr=>
 (bD 2 a29.nd (cE (bI 1)<|iO aE)<|bD 3 a29.nd (aM cC (dD<|aX aA)<|jK (bI 1) kM<|gU<|iO aE)<|fK<|cG dS rfl Z.z8 dU (aB (jL ["i","moved","last","ring",".acc"] (aD oN).names aB4 (cF rfl Z.z6 (aB (wW<|aQ 0) aA)) (λ_ _ _ _ _ _=>dX) λ_ _ _ _ _ _=>(aM bQ (cE (bI 1)<|aQ 0)<|aM cD (aQ 2)<|cE (uM<|wW<|aQ 3)<|aQ 0)) aA))
theorem bI8 (Z:Zs mg)(aC7:c02<$>P):DT<$>aT6 "table_of" pH 1 xF:=λhr=>
 (bD 2 xN.nd (bO<|aN 1 aA)<|bS (o6 3 xN.nd (cF rfl Z.z6 (aB (aM bQ (wW<|aQ 0) aE) aA))<|bH<|jJ 2 (pv 2)<|dB aC7 hr<|aN 0<|aB (cE (bI 2)<|iO aE) aA)<|fK<|cG dS rfl Z.z8 dU (aN 2 aA))
theorem cD5 (Z:Zs mg)(mO:aH7<$>P):DT<$>aZ5 "trace" tP 2 aN8:=λhr=>
 (bD 2 bH7.nd (dB mO hr<|aN 0<|aN 1 aA)<|fK<|eY (aW2 rfl) rfl Z.z9 aW3 (aB (jL ["i","table",".acc"] (aD tP).names aZ5 (cF rfl Z.z6 (aB (wW<|aQ 0) aA)) (λ_ _ _ _ _ _=>dX) λ_ _ _ _ _ _=>(cE (uM<|cE (bI 1)<|aQ 0)<|aQ 0)) aA))
theorem cZ7 (Z:Zs mg)(b03:cL7<$>P)(b04:cL6<$>P):DT<$>b77 "own" aT7 4 bE8:=λhr=>
 (bD 2 yQ.nd (wW<|aQ 0)<|bD 3 yQ.nd (jL ["k","ring","x",".acc"] (aD aT7).names b77 (cF rfl Z.z6 (aB (aM cC (aQ 2) aE) aA)) (λ_ _ _ _ _ _=>dX) λ_ _ _ _ _ _=>(dB b03 hr<|aN 1<|aB (dB b04 hr<|aN 1<|aN 2<|aN 0 aA) aA))<|bD 4 yQ.nd (bO<|aX aA)<|bS (o6 5 yQ.nd (qP rfl Z.z6 (aX<|aB (aM cC (aQ 2) aE) aA))<|bD 6 yQ.nd (eY (aW2 rfl) rfl Z.z9 aW3 (aB (jL ["i","places","sums","k",".acc"] (aD aT7).names b77 (cF rfl Z.z6 (aN 5 aA)) (λ_ _ _ _ _ _=>dX) λ_ _ _ _ _ _=>(aM cD (cE (bI 1)<|aQ 0)<|cE (bI 2)<|aM bQ (aQ 3)<|aQ 0)) aA))<|bH<|jJ 4 (pv 4)<|aM a05 (iO<|aQ 6)<|aQ 5)<|fK<|cG dS rfl Z.z8 dU (aB (dL8 (bI 4)<|iO aE) aA))
theorem bI9 (Z:Zs mg)(a35:cC6<$>P):DT<$>a26 "mod_poly" mJ 1 wX:=λhr=>
 (fK<|dB a35 hr<|aB (cG dS rfl Z.z8 dU (aB (jL ["c","p",".acc"] (aD mJ).names a26 (iN<|aQ 0) (λ_ _ _ _ _ _=>dX) λ_ _ _ _ _ _=>(aM gR (aQ 0)<|aQ 1)) aA)) aA)
theorem aZ9 (Z:Zs mg)(fX:xQ<$>P)(vS:b49<$>P)(cS:mL<$>P)(a37:cC8<$>P):DT<$>aB5 "mod_parted" lW 3 sG:=λhr=>
 (bD 3 kO.nd (dB fX hr<|aN 1<|aN 2 aA)<|bD 4 kO.nd (dB vS hr<|aB (cE (bI 3)<|iO aE)<|aN 2 aA)<|bS (cG3 (dB cS hr<|aB (dB fX hr<|aN 0<|aN 2 aA)<|aB (dB a37 hr<|aN 3<|aN 4<|aN 2 aA) aA)<|a04 rfl (fU 5 (fT kO.nd rfl (Or.inl rfl))<|fU 6 (fT kO.nd rfl (Or.inl rfl)) tE) (eM<|eM oX))<|fK<|dD<|aB (dB a37 hr<|aN 5<|aN 4<|aN 2 aA)<|aB (dB fX hr<|aN 6<|aN 2 aA) aA)
theorem c06 (Z:Zs mg)(fX:xQ<$>P):DT<$>aO2 "scaled" r6 2 a84:=λhr=>
 (fK<|dB fX hr<|aB (cG dS rfl Z.z8 dU (aB (jL ["c","k",".acc"] (aD r6).names aO2 (iN<|aQ 0) (λ_ _ _ _ _ _=>dX) λ_ _ _ _ _ _=>(aM cD (aQ 1)<|aQ 0)) aA))<|aN 2 aA)
theorem b00 (Z:Zs mg):DT<$>aB6 "inverse_of" lX 0 sE:=λhr=>
 (bD 2 nN.nd aE<|bS (o6 3 nN.nd (cF rfl Z.z6 (aB (aM bQ (aQ 1) aE) aA))<|bH<|a74 2 nN.nd<|aM gR (aM cD (aQ 2)<|aQ 0)<|aQ 1)<|bH<|mF 2<|pv 2)
theorem bJ0 (Z:Zs mg)(eO:pM<$>P)(xS:bI1<$>P)(fX:xQ<$>P)(oC:aF4<$>P):DT<$>aT8 "split_by" pI 5 x8:=λhr=>
 (mV (aD8 b98 (aQ 1) (aM5 eO hr ac rfl) rfl) (bH c41)<|bS (cG3 (dB xS hr<|aB (dB fX hr<|aN 0<|aN 1 aA)<|aN 1 aA)<|a04 rfl (fU 2 (fT xO.nd rfl (Or.inl rfl))<|fU 3 (fT xO.nd rfl (Or.inl rfl)) tE) (eM<|eM oX))<|fK<|aM cC (aQ 2)<|dB oC hr<|aN 3<|aN 1 aA)
theorem b52 (Z:Zs mg)(oQ:aU6<$>P)(vT:b48<$>P):DT<$>aH2 "lines_out" nJ 4 v4:=λhr=>
 (bD 2 iG.nd (bO aA)<|bD 3 iG.nd (aQ 0)<|bS (o6 4 iG.nd (cF rfl Z.z6 (aN 1 aA))<|bD 5 iG.nd aE<|bS (b90 kB (kY lQ (aM gR (dB oQ hr<|aN 3<|aF8 (iO<|aQ 4) aA)<|aQ 1) aE)<|bD 3 iG.nd (cE (uM<|dB vT hr<|aN 3<|oG (dD<|aN 4<|aX aA)<|aN 1 aA) aE)<|bH<|us_g 5 iG.nd aE cG5)<|bH<|bK5 (kY b93 (aQ 5) aE)<|bH<|jJ 2 (pv 2)<|dD<|oG (dD<|aN 4<|aX aA)<|aN 5 aA)<|fK<|dD<|aN 2<|aN 3 aA)
theorem aC5 (Z:Zs mg)(lZ:a62<$>P):DT<$>oA "rootless_parts" gI 1 mZ:=λhr=>
 (mV (kY lQ (eI (bI 0) rfl Z.z0) aE) (fK<|bO aA)<|bD 2 t7.nd (c40 (kY lQ (eI (bI 0) rfl Z.z0) aE) (dB lZ hr<|aN 0<|aN 1 aA)<|bO aA)<|mV (kY lQ (eI (bI 2) rfl Z.z0) aE) (fK<|bO<|oG (dD<|aN 0<|aX aA) aA)<|mV (kY (ou_eqD hr.units) (cE (bI 2) aE)<|cE (bI 2) aE) (fK<|bO<|oG (dD<|aB (cE (bI 2) aE)<|aX aA) aA)<|fK<|jL ["g",".acc"] (aD gI).names oA (iN<|eY d69 rfl Z.z10 cZ3 (aN 2 aA)) (λ_ _ _ _ _ _=>dX) λ_ _ _ _ _ _=>(dD<|aN 0<|aX aA))
theorem a34 (Z:Zs mg):DT<$>rZ "two_by_two" gO 0 pS:=λhr=>
 (bS (o6 2 eX.nd (cF rfl Z.z6 (aN 1 aA))<|bD 3 eX.nd (aM gR (aM bQ (cE (bI 0) aE)<|aQ 2)<|aQ 1)<|bD 4 eX.nd (aM bQ (cE (bI 0) aE)<|aM cD (aQ 2)<|aQ 3)<|bH<|o6 5 eX.nd (cF rfl Z.z6 (aN 1 aA))<|bD 6 eX.nd (aM gR (aM bQ (aQ 4)<|aQ 5)<|aQ 1)<|bH<|bK5 (PUW.pt<|b61 (kY lQ (aM gR (aM cD (aQ 5)<|aQ 6)<|aQ 1)<|cE (bI 0) aE)<|aP9<|kY lQ (aM gR (aM cC (aM cD (aQ 2)<|aQ 6)<|aM cD (aQ 5)<|aQ 3)<|aQ 1)<|cE (bI 0) aE)<|fK<|bO<|oG (dD<|aN 5<|aN 2<|aX aA)<|oG (dD<|aN 6<|aN 3<|aX aA) aA)<|fK<|bO aA)
theorem b53 (Z:Zs mg)(eO:pM<$>P)(a38:bM3<$>P):DT<$>xJ "papers_of" kP 7 v6:=λhr=>
 (fK<|jL ["p","poly","size",".acc"] (aD kP).names xJ (iN<|aM5 eO hr ac rfl) (λ_ _ _ _ _ _=>(cO3<|kY lQ (aM gR (aQ 2)<|aM cD (aQ 0)<|aQ 0) aE)) λ_ _ _ _ _ _=>(dD<|aN 0<|aB (dB a38 hr<|aN 1<|aN 0 aA) aA))
theorem bJ1 (Z:Zs mg)(a39:bM2<$>P)(cS:mL<$>P):DT<$>a27 "parts_at" mK 6 xB:=λhr=>
 (fK<|aQ5 (js:=[0]) (N:=["g","often","poly",".acc"]) (cap:=[none,none,some 0,none]) (last:=3) (esc:=(aD mK).names) (XN:=a27) rfl rfl ag ac ac rfl (iN<|dB a39 hr<|aN 0<|aN 1 aA) (λ_ _ _ _ _ _=>(a04 rfl (fU 0 (fT (show Nodup (["g","often","poly",".acc"]:List Str)by decide +kernel) rfl (Or.inl rfl))<|fU 1 (fT (show Nodup (["g","often","poly",".acc"]:List Str)by decide +kernel) rfl (Or.inl rfl)) tE) (eM<|eM oX))) (λ_ _ _ _ _ _=>dX) (λ_ _ _ _ _ _=>(dD<|aN 0<|aN 1<|aB (cE (uM<|dB cS hr<|aN 2<|aN 0 aA) aE) aA)))
theorem b01 (Z:Zs mg)(cS:mL<$>P):DT<$>vK "outside_of" jP 2 sK:=λhr=>
 (bS (aV8 kB rfl (iN<|aQ 1) (a04 rfl (fU 2 (fT iS.nd rfl (Or.inr rfl))<|fU 3 (fT iS.nd rfl (Or.inl rfl)) tE) (eM<|eM oX)) (bH<|aV8 kB rfl (iN<|aQ 3) (a04 rfl (fU 4 (fT iS.nd rfl (Or.inl rfl))<|fU 5 (fT iS.nd rfl (Or.inl rfl))<|fU 6 (fT iS.nd rfl (Or.inl rfl)) tE) (eM<|eM<|eM oX)) (bH<|bK5 (PUW.pt<|b61 (kY dT7 (aQ 5) aE)<|aP9<|b88<|eY (b96 rfl) rfl Z.z1 b97 (aB (jL ["c","p",".acc"] (aD jP).names vK (iN<|aQ 6) (λ_ _ _ _ _ _=>dX) λ_ _ _ _ _ _=>(c55 lQ (aM gR (aQ 0)<|aM cD (aQ 1)<|aQ 1) aE)) aA))<|fK<|dD<|aN 2<|aB (cE (uM<|dB cS hr<|aN 0<|aN 4 aA) aE) aA)))<|fK b87)
theorem bM8 (Z:Zs mg)(dC:nB<$>P)(xT:bI3<$>P)(aV1:dF0<$>P):DT<$>aB9 "measure" oO 5 a21:=λhr=>
 (bS (bV7<|dB dC hr<|aN 0 aA)<|bD 1 a30.nd (aM bQ (eI (bI 0) rfl Z.z0) aE)<|bD 2 a30.nd (dB xT hr<|aN 0<|aB (aM bQ (aM cD aE<|aQ 1) aE) aA)<|fK<|dB aV1 hr<|aB (cG dS rfl Z.z8 dU (aB (jL ["i","sums","n",".acc"] (aD oO).names aB9 (cF rfl Z.z6 (aN 1 aA)) (λ_ _ _ _ _ _=>dX) λ_ _ _ _ _ _=>(cG dS rfl Z.z8 dU (aB (jK (bI 1) (gU<|aQ 0)<|gU<|aM cC (aQ 0)<|aQ 2) aA))) aA)) aA)
theorem b54 (Z:Zs mg):DT<$>xK "root_sums" kQ 0 uX:=λhr=>
 (bD 2 jQ.nd (aM bQ (eI (bI 0) rfl Z.z0) aE)<|bD 3 jQ.nd (bO<|aN 2 aA)<|bS (o6 4 jQ.nd (qP rfl Z.z6 (aX<|aN 1 aA))<|bD 5 jQ.nd (eY (aW2 rfl) rfl Z.z9 aW3 (aB (jL ["i","poly","n","sums","k",".acc"] (aD kQ).names xK (qP rfl Z.z6 (aX<|aB (aM cC (eY (cu_min rfl) rfl Z.z11 bt_min (aB (aM bQ (aQ 4) aE)<|aN 2 aA)) aE) aA)) (λ_ _ _ _ _ _=>dX) λ_ _ _ _ _ _=>(aM cD (cE (bI 1)<|aM bQ (aQ 2)<|aQ 0)<|cE (bI 3)<|aM bQ (aQ 4)<|aQ 0)) aA))<|mV (kY dT6 (aQ 4)<|aQ 2) (bH<|us_g 5 jQ.nd (aM cD (aQ 4)<|cE (bI 0)<|aM bQ (aQ 2)<|aQ 4) cG5)<|bH<|jJ 3 (pv 3)<|iO<|aQ 5)<|bH<|mF 3<|pv 3)
theorem aC6 (Z:Zs mg){fA:Addr}(j6:mg "FallsApart"=some (.ref fA)){gX:Addr}{bM9:FuncData}(mQ:a77 K fA gX bmV vN=true)(a40:c61 K fA gX bM9 "left" "right")(mS:aO6<$>P){f:Addr}{cdv:Value}{A:Around}{outer:List Env}{s:Shared}{H:Hp}{E:XK}(hr:gT 4 (A.deeper<|envOfC "need_together" (aD fW) s.heap.objs.size f cdv)) :
  a48 (t9 (CXr P w base) P w K mg base wL "need_together" (aD fW) f cdv A outer s H E) E (dF fW) n8:=
 (bW6 (aR0<|a65 1 vO.nd rfl (Or.inl rfl) (aQ4 mS hr ac rfl (aB (gF 0<|pv 0) aA)) (hl:=il (n:=2) rfl ac))<|bA8<|d81 (bA4<|gF 1<|pv 1) (bA8<|bP9 (k:=0) yU mQ a40 (hr.mono ac) rfl j6 rfl (aB (b92 (wT 1<|pv 1) aE λ_ _=>rfl)<|aB (b92 (wT 1<|pv 1) aE λ_ _=>rfl) aA) cI4 rfl ac) cI6)
theorem aU9 (Z:Zs mg){gS:Addr}(mC:mg "NotWhole"=some (.ref gS)){jV:Addr}{cD8:FuncData}(rE:a77 K gS jV bmV vN=true)(aP1:c61 K gS jV cD8 "prime" "number")(vU:b50<$>P)(xU:bI2<$>P)(rD:b35<$>P){f:Addr}{cdv:Value}{A:Around}{outer:List Env}{s:Shared}{H:Hp}{E:XK}(hr:gT 8 (A.deeper<|envOfC "need_whole" (aD gP) s.heap.objs.size f cdv)) :
  a48 (t9 (CXr P w base) P w K mg base vM "need_whole" (aD gP) f cdv A outer s H E) E (dF gP) qV:=
 (bW6 (aR0<|a65 2 nO.nd rfl (Or.inl rfl) (aQ4 vU hr ac rfl (aB (gF 0<|pv 0)<|aB (aQ4 xU hr ac rfl (aB (gF 0<|pv 0)<|aB (gF 1<|pv 1) aA)) aA)) (hl:=il (n:=5) rfl ac))<|bA8<|d81 (bA4<|gF 2<|pv 2) (bW6 (aR0<|cG3 (gF 2<|pv 2)<|a04 rfl (fU 3 (fT nO.nd rfl (Or.inr rfl))<|fU 4 (fT nO.nd rfl (Or.inl rfl)) tE) (eM<|eM oX))<|bA8<|bP9 (k:=0) yU rE aP1 (hr.mono ac) rfl mC rfl (aB (gF 3<|pv 3)<|aB (aQ4 rD hr ac rfl (aB (cG dS rfl Z.z8 dU (aB (aQ5 (js:=[3]) (N:=["c","p",".acc"]) (cap:=[none,some 3,none]) (last:=2) (esc:=(aD gP).names) (XN:=vM) rfl rfl ag ac ac rfl (iN<|gF 4<|pv 4) (λ_ _ _ _ _ _=>(b62 0<|fT (show Nodup (["c","p",".acc"]:List Str)by decide +kernel) rfl (Or.inl rfl))) (λ_ _ _ _ _ _=>dX) (λ_ _ _ _ _ _=>(aM gR (gF 0<|pv 0)<|gF 1<|pv 1))) aA))<|aB (aM bQ (eI (wT 0<|pv 0) rfl Z.z0) aE) aA)) aA) cI4 rfl ac) cI6)
theorem aP0 (Z:Zs mg)(hZ:wP<$>P)(eO:pM<$>P)(mS:aO6<$>P)(sM:aZ8<$>P):DT<$>r8 "sees_outside" hX 6 pE:=λhr=>
 (mV (PUW.pt<|aM3 (bU9<|b88<|dB hZ hr<|aN 0 aA)<|aQ0<|aD8 b98 (aQ 1) (aM5 eO hr ac rfl) rfl) (fK bO5)<|mV (PUW.pt<|aM3 (kY b94 (eI (bI 2) rfl Z.z0)<|aM bQ (eI (bI 0) rfl Z.z0) aE)<|aQ0<|bA4<|dB mS hr<|aN 0 aA) (fK bO5)<|bD 3 wO.nd (cG dS rfl Z.z8 dU (aB (jL ["c","p",".acc"] (aD hX).names r8 (iN<|aQ 2) (λ_ _ _ _ _ _=>dX) λ_ _ _ _ _ _=>(aM gR (aQ 0)<|aQ 1)) aA))<|fK<|d36 (eY (dL9 rfl) rfl Z.z12 d67 (aN 3 aA))<|cG1<|dB sM hr<|aN 0<|aN 1<|aN 3 aA)
theorem aV0 (Z:Zs mg)(c08:MkX<$>"Plan" 1 ["poly","degree"] aA5)(c09:dF1<$>P)(aP2:cC7<$>P):DT<$>sL "is_whole_by" iR 5 qY:=λhr=>
 (bD 3 rB.nd (aM bQ (eI (bI 0) rfl Z.z0) aE)<|bD 4 rB.nd (dB c09 hr<|aB (cP4 c08 hr ac rfl (aN 0 aA))<|aN 2 aA)<|fK<|eY (b96 rfl) rfl Z.z1 b97 (aB (jL ["i","places","p","n",".acc"] (aD iR).names sL (cF rfl Z.z6 (aN 3 aA)) (λ_ _ _ _ _ _=>dX) λ_ _ _ _ _ _=>(c55 lQ (aM gR (cE (bI 1)<|aQ 0)<|dB aP2 hr<|aN 2<|aB (aM bQ (aQ 3)<|aQ 0) aA) aE)) aA))
theorem dF3 (Z:Zs mg):DT<$>dE2 "_law_cell" bG9 0 bW9:=λhr=>
 (mV (kY lQ (eI (bI 0) rfl Z.z0) aE) (fK<|aM cD aE<|aM cC (aQ 1) aE)<|mV (kY cO2 (aQ 1)<|eI (bI 0) rfl Z.z0) (fK<|cE (bI 0)<|aQ 1)<|fK<|aM cC (cE (bI 0)<|aM gR (aQ 1)<|eI (bI 0) rfl Z.z0)<|aM cD aE<|aQ 1)
theorem cZ8 (Z:Zs mg):DT<$>cS6 "_law_mixed" aU0 0 bB1:=λhr=>
 (bD 3 bH9.nd (aM gR (aM cD (aM cC (aM cC (aM cC (aQ 0)<|aM cD (aM cD aE<|aQ 1)<|aQ 1)<|aM cD aE<|aQ 1) aE) aE) aE)<|bD 3 bH9.nd (aM gR (aM cD (aQ 3)<|aQ 3) aE)<|fK<|aM gR (aM cD (aQ 3) aE)<|aQ 2)
theorem cZ9 (Z:Zs mg)(aE7:cC9<$>P):DT<$>cS7 "_law_draws" aU1 1 bB2:=λhr=>
 (bD 3 yR.nd aE<|mV (kY dT7 (aQ 0)<|aM cG4 aE aE) (bH<|a74 3 yR.nd<|aM bQ (aQ 0)<|aM cG4 aE aE)<|bD 4 yR.nd (bO aA)<|bS (o6 5 yR.nd (cF rfl Z.z6 (aB (eI (bI 1) rfl Z.z0) aA))<|bH<|d39 (kY b93 (aQ 3) aE) (bS (jJ 4 (pv 4)<|aM gR (aQ 3)<|cE (bI 1)<|aQ 5)<|bH<|a74 3 yR.nd<|aM a05 (aQ 3)<|cE (bI 1)<|aQ 5)<|bH<|jJ 4 (pv 4)<|aM gR (dB aE7 hr<|aN 0<|aN 5<|aN 2 aA)<|cE (bI 1)<|aQ 5)<|bH<|mF 4<|pv 4)
theorem cD6 (Z:Zs mg):DT<$>bT3 "_law_shifted" yO 0 aN6:=λhr=>
 (bD 2 a31.nd (cG bV4 rfl Z.z4 bX1 (aN 0 aA))<|bS (o6 3 a31.nd (cF rfl Z.z6 (aB (aM bQ (eI (bI 2) rfl Z.z0) aE) aA))<|bH<|o6 4 a31.nd (bP2 rfl Z.z6 (aB (aM bQ (eI (bI 2) rfl Z.z0) aE)<|aB (aM bQ (aQ 3) aE)<|aF8 (iO aE) aA))<|bH<|nY 2 (pv 2) (aM cC (cE (bI 2)<|aQ 4)<|aM cD (aQ 1)<|cE (bI 2)<|aM cC (aQ 4) aE)<|aQ 4)<|fK<|cG dS rfl Z.z8 dU (aN 2 aA))
theorem dF4 (Z:Zs mg)(mT:bI4<$>P)(aE8:cL8<$>P):DT<$>cL2 "_law_poly" aZ6 2 bZ1:=λhr=>
 (bD 2 aE4.nd (dB mT hr<|aN 0<|aB (bO<|aX<|aX aA)<|aN 1 aA)<|bD 3 aE4.nd (jK (uM<|dB mT hr<|aN 0<|aB (bO<|aX<|aX<|aX<|aX<|aX<|aX aA)<|aN 1 aA) (gU aE)<|gU<|aM cC (cE (bI 2) aE) aE)<|mV (kY lQ (cE (bI 2) aE) aE) (fK<|cG dS rfl Z.z8 dU (aB (aM cC (jL ["_law_place",".acc"] (aD aZ6).names cL2 (iN<|aQ 3) (λ_ _ _ _ _ _=>dX) λ_ _ _ _ _ _=>(aM bQ (aQ 0) aE))<|bO<|aX aA) aA))<|bD 4 aE4.nd (dB mT hr<|aN 0<|aB (bO<|aX<|aX<|aX<|aX<|aX<|aX<|aX aA)<|aN 1 aA)<|mV (kY lQ (cE (bI 2) aE) aE) (bD 4 aE4.nd (dB mT hr<|aN 0<|aB (bO<|aX<|aX<|aX<|aX aA)<|aN 1 aA)<|fK<|dD<|aB (aM bQ (cE (bI 4) aE) aE)<|aB (aM bQ (cE (bI 4) aE) aE)<|aX aA)<|mV (kY lQ (cE (bI 2) aE) aE) (fK<|dB aE8 hr<|oG (dD<|aB (aM bQ (cE (bI 4) aE) aE)<|aB (aM bQ (cE (bI 4) aE) aE)<|aB (aM bQ (cE (bI 4) aE) aE)<|aX aA)<|aB (aM bQ (cE (bI 4) aE) aE) aA)<|bD 4 aE4.nd (dB mT hr<|aN 0<|aB (bO<|aX<|aX<|aX<|aX<|aX<|aX<|aX aA)<|aN 1 aA)<|fK<|dB aE8 hr<|oG (dD<|aB (aM bQ (cE (bI 4) aE) aE)<|aB (aM bQ (cE (bI 4) aE) aE)<|aB (aM bQ (cE (bI 4) aE) aE)<|aB (aM bQ (cE (bI 4) aE) aE)<|aX aA)<|aB (aM bQ (cE (bI 4) aE) aE) aA)
theorem bJ2 (Z:Zs mg)(aE7:cC9<$>P):DT<$>aU2 "_law_known_ring" pJ 1 xH:=λhr=>
 (by refine WS.out ?_;exact ws_lw (cH8 (a57<|a57<|a57 a75)<|cH8 (cW7<|a57<|a57 a75)<|cH8 (a57<|a57<|a57 a75)<|cH8 (cW7<|a57<|a57 a75)<|cH8 (cW7<|cW7<|a57<|a57 a75)<|cH8 (cW7<|a57<|a57<|a57 a75)<|cH8 (cW7<|a57<|a57<|a57 a75) a75) (ws_of<|bD 1 xP.nd (aM cC (aQ 1)<|bO<|oG (dD<|aX<|aX<|aX<|aX<|aX aA)<|oG (dD<|aF8 (iO aE)<|aF8 (iO aE)<|aX<|aX<|aX aA)<|oG (dD<|aX<|aX<|aX<|aX<|aX aA)<|oG (dD<|aF8 (iO aE)<|aX<|aX<|aX<|aX aA)<|oG (dD<|aX<|aX<|aF8 (iO aE)<|aX<|aX aA) aA)<|fK<|cE (bI 1)<|aM gR (dB aE7 hr<|aN 0<|aX<|aX aA) aE) xP.nd)
theorem dF5 (Z:Zs mg){gY:Addr}(mD:mg "RingError"=some (.ref gY))(sB:excIn K gY bmV vN=true)(rF: ∀n∈(["FallsApart","TooGreat","NotWhole"]:List Str),∀C,mg n=some (.ref C)->bB0 K gY C bmV vN)(b80:MkX<$>"Ring" 10 ["poly","degree","measure"] yI)(cM1:dQ6<$>P)(a41:cT5<$>P)(a42:bM4<$>P):DT<$>dE3 "_law_ring" bH1 11 bZ0:=λhr=>
 (bD 3 aE5.nd b87<|bS (o6 4 aE5.nd (cF rfl Z.z6 (aX aA))<|bH<|bK5 (bV9<|aQ 3)<|bH<|dM6 3 ["FallsApart","TooGreat","NotWhole"] yU b80 hr ac rfl rfl rfl rfl rfl (λ_=>(aB (dB cM1 hr<|aB (dB a41 hr<|aN 0<|aB (aM cC (aQ 1)<|aQ 4) aA)<|aN 2 aA) aA)) aE5.nd rfl (Or.inl rfl) (λ_=>(bH<|a74 3 aE5.nd b87)) rfl mD sB rF (il (n:=5) rfl ac))<|mV (bV9<|aQ 3) (bH<|a74 3 aE5.nd<|cP4 b80 hr ac rfl (aB (dB a42 hr<|aB (dB a41 hr<|aN 0<|aN 1 aA) aA) aA))<|bH<|mF 3<|pv 3)
theorem dQ9 (Z:Zs mg)(mT:bI4<$>P):DT<$>dE4 "_law_few" bT4 2 cK2:=λhr=>
 (bD 3 cL3.nd (dB mT hr<|aN 0<|aB (aM cC (bO<|aX aA)<|aM cD (bO<|aX aA)<|aQ 1)<|aN 2 aA)<|bD 4 cL3.nd (cE (uM<|bO<|aX<|aX<|aX aA)<|cE (bI 3) aE)<|fK<|cG dS rfl Z.z8 dU (aB (jL ["_law_place","_law_wide",".acc"] (aD bT4).names dE4 (iN<|jK (bI 3) (gU aE) kM) (λ_ _ _ _ _ _=>dX) λ_ _ _ _ _ _=>(aM bQ (aM gR (aQ 0)<|aM cC (aM cD aE<|aQ 1) aE)<|aQ 1)) aA))
theorem d00 (Z:Zs mg):DT<$>cT0 "_law_times" aU3 0 bD5:=λhr=>
 (bD 3 sA.nd (aM bQ (eI (bI 0) rfl Z.z0) aE)<|bD 4 sA.nd (aM cD (bO<|aX aA)<|aM bQ (aM cD aE<|aQ 3) aE)<|bS (o6 5 sA.nd (cF rfl Z.z6 (aN 3 aA))<|bH<|o6 6 sA.nd (cF rfl Z.z6 (aN 3 aA))<|bH<|nY 4 (pv 4) (aM cC (cE (bI 4)<|aM cC (aQ 5)<|aQ 6)<|aM cP2 (cE (bI 1)<|aQ 5)<|cE (bI 2)<|aQ 6)<|aM cC (aQ 5)<|aQ 6)<|bS (o6 7 sA.nd (bP2 rfl Z.z6 (aB (aM bQ (aM cD aE<|aQ 3) aE)<|aB (aM bQ (aQ 3) aE)<|aF8 (iO aE) aA))<|bH<|o6 6 sA.nd (cF rfl Z.z6 (aN 3 aA))<|bD 8 sA.nd (aM cC (aM bQ (aQ 7)<|aQ 3)<|aQ 6)<|bH<|nY 4 (pv 4) (aM bQ (cE (bI 4)<|aQ 8)<|aM cD (cE (bI 4)<|aQ 7)<|cE (bI 0)<|aQ 6)<|aQ 8)<|fK<|cG dS rfl Z.z8 dU (aB (jK (bI 4) kM<|gU<|aQ 3) aA))
theorem d01 (Z:Zs mg)(aE9:cD0<$>P):DT<$>bZ8 "_law_table" b78 1 bE3:=λhr=>
 (bD 2 vP.nd (aM bQ (eI (bI 0) rfl Z.z0) aE)<|bD 3 vP.nd (cG dS rfl Z.z8 dU (aB (jL ["_law_k",".acc"] (aD b78).names bZ8 (cF rfl Z.z6 (aN 2 aA)) (λ_ _ _ _ _ _=>dX) λ_ _ _ _ _ _=>(cG cu_int rfl Z.z13 bt_int (aB (c55 lQ (aQ 0) aE) aA))) aA))<|bD 4 vP.nd (bO aA)<|bD 5 vP.nd (cG dS rfl Z.z8 dU (aN 1 aA))<|bS (o6 6 vP.nd (cF rfl Z.z6 (aN 2 aA))<|bS (jJ 4 (pv 4)<|aQ 5)<|bH<|a74 5 vP.nd<|dB aE9 hr<|aN 0<|aN 3<|aN 5 aA)<|bH<|mF 4<|pv 4)
theorem c07 (Z:Zs mg):DT<$>aO3 "_law_is_prime" rA 0 aA7:=λhr=>
 (fK<|eY (b96 rfl) rfl Z.z1 b97 (aB (jL ["_law_k","_law_m",".acc"] (aD rA).names aO3 (qP rfl Z.z6 (aX<|aX aA)) (λ_ _ _ _ _ _=>dX) λ_ _ _ _ _ _=>(pu_or (c55 b94 (aM gR (aQ 1)<|aQ 0) aE)<|cG1<|c55 lQ (aQ 1)<|aQ 0)) aA))
theorem cD7 (Z:Zs mg)(aP3:cD1<$>P):DT<$>aZ7 "_law_primes" tQ 1 aO0:=λhr=>
 (fK<|jL ["_law_m",".acc"] (aD tQ).names aZ7 (qP rfl Z.z6 (aX<|aX aA)) (λ_ _ _ _ _ _=>(cO3<|b88<|dB aP3 hr<|aN 0 aA)) λ_ _ _ _ _ _=>(aQ 0))
theorem dR0 (Z:Zs mg)(c12:dF2<$>P)(aE9:cD0<$>P):DT<$>cT1 "_law_own" bH3 2 cK6:=λhr=>
 (bD 2 a32.nd (eI (bI 1) rfl Z.z0)<|bD 3 a32.nd (bO aA)<|bD 4 a32.nd (cG dS rfl Z.z8 dU (aN 1 aA))<|bS (o6 5 a32.nd (cF rfl Z.z6 (aN 2 aA))<|bD 6 a32.nd (dB c12 hr<|aN 0<|aN 4 aA)<|bS (jJ 3 (pv 3)<|eY (aW2 rfl) rfl Z.z9 aW3 (aB (jL ["_law_i","_law_table_here",".acc"] (aD bH3).names cT1 (cF rfl Z.z6 (aN 2 aA)) (λ_ _ _ _ _ _=>dX) λ_ _ _ _ _ _=>(cE (uM<|cE (bI 1)<|aQ 0)<|aQ 0)) aA))<|bH<|a74 4 a32.nd<|dB aE9 hr<|aN 0<|aN 4<|aN 1 aA)<|bD 7 a32.nd (bO<|aX aA)<|bS (o6 5 a32.nd (qP rfl Z.z6 (aX<|aB (aM cC (aQ 2) aE) aA))<|bH<|jJ 7 (pv 7)<|aM a05 (iO<|eY (aW2 rfl) rfl Z.z9 aW3 (aB (jL ["_law_i","_law_signed","_law_k","_law_traces",".acc"] (aD bH3).names cT1 (cF rfl Z.z6 (aN 5 aA)) (λ_ _ _ _ _ _=>dX) λ_ _ _ _ _ _=>(aM cP2 (cE (bI 1)<|aM bQ (aM bQ (aQ 2) aE)<|aQ 0)<|cE (bI 3)<|aQ 0)) aA))<|aQ 5)<|bH<|mF 7<|pv 7)
theorem dR1 (Z:Zs mg)(rG:bI5<$>P)(dF8:TF_own<$>P)(mS:aO6<$>P):DT<$>dE7 "_law_due" cT2 4 cK9:=λhr=>
 (mV (PUW.pt<|aM3 (aD8 b98 (aQ 1) (aM5 rG hr ac rfl) rfl)<|aM3 (kY b94 (eI (bI 2) rfl Z.z0)<|aM bQ (eI (bI 0) rfl Z.z0) aE)<|aQ0<|b88<|eY (b96 rfl) rfl Z.z1 b97 (aB (jL ["_law_place","_law_p",".acc"] (aD cT2).names dE7 (iN<|aQ 2) (λ_ _ _ _ _ _=>dX) λ_ _ _ _ _ _=>(c55 lQ (aM gR (aQ 0)<|aQ 1) aE)) aA)) (fK bO5)<|bD 3 c00.nd aE<|bS (o6 4 c00.nd (iN<|dB dF8 hr<|aN 0<|aN 2 aA)<|mV (kY b94 (aM gR (aQ 4)<|aQ 3) aE) (fK bO5)<|bH<|a74 3 c00.nd<|aM cD (aQ 3)<|aQ 1)<|fK<|pu_isN<|dB mS hr<|aN 0 aA)
theorem cM0 (Z:Zs mg):DT<$>cC0 "_law_double" aC1 0 aY8:=λhr=>
 (bD 2 oP.nd (cE (bI 0) aE)<|bD 3 oP.nd (aM cC aE<|cE (bI 0) aE)<|bD 4 oP.nd (cE (uM<|bO<|aB (bO<|aX aA)<|aB (bO<|aB (cE (bI 0) aE)<|aX aA)<|aB (bO<|aB (cE (bI 0) aE)<|aB (cE (bI 0) aE)<|aX aA) aA)<|cE (bI 0) aE)<|bD 5 oP.nd (aM cD (bO<|aX aA)<|aM cC (aQ 3) aE)<|bS (o6 6 oP.nd (cF rfl Z.z6 (aB (eI (bI 4) rfl Z.z0) aA))<|bH<|aV8 kB rfl (cO7 (by rfl) Z.z7<|aB (bO<|aB (aM cD (aQ 2)<|aQ 2)<|aB (aM cD (iO aE)<|aQ 2)<|aX aA) aA) (a04 rfl (fU 7 (fT oP.nd rfl (Or.inl rfl))<|fU 8 (fT oP.nd rfl (Or.inl rfl)) tE) (eM<|eM oX)) (bH<|nY 5 (pv 5) (aM cC (cE (bI 5)<|aM cC (aQ 6)<|aQ 7)<|aM cD (cE (bI 4)<|aQ 6)<|aQ 8)<|aM cC (aQ 6)<|aQ 7))<|bS (nY 5 (pv 5) (aM bQ (aM cC (cE (bI 5) aE)<|aM cD (aM cD (aQ 1)<|aQ 1)<|cE (bI 0) aE)<|aM cD (aM cD (aQ 1)<|aQ 2)<|cE (bI 0) aE) aE)<|bS (nY 5 (pv 5) (aM cC (cE (bI 5) aE)<|aM cD (aQ 1)<|cE (bI 0) aE) aE)<|fK<|cG dS rfl Z.z8 dU (aN 5 aA))
theorem dF6 (Z:Zs mg):DT<$>dE9 "_law_huge" bH4 0 bZ6:=λhr=>
 (bD 0 b79.nd aE<|bS (o6 1 b79.nd (cF rfl Z.z6 (aX aA))<|bH<|a74 0 b79.nd<|aM cD (aQ 0)<|aM cG4 aE aE)<|fK<|aM cC (aQ 0) aE)
theorem dR2 (Z:Zs mg)(mT:bI4<$>P)(a41:cT5<$>P)(rG:bI5<$>P)(bJ4:cZ5<$>P)(cM2:dQ7<$>P)(cT6:TF_few<$>P)(cM3:dQ8<$>P)(jS:aU7<$>P)(dF9:TF_due<$>P):DT<$>cC1 "law" aH5 12 bZ7:=λhr=>
 (bD 1 iQ.nd (dB mT hr<|aB (dB a41 hr<|aN 0<|aX aA)<|aB (bO<|aX<|aX<|aX<|aX<|aX<|aX<|aX<|aX aA)<|aX aA)<|bD 2 iQ.nd (cE (uM<|aM5 rG hr ac rfl)<|aM gR (cE (bI 1) aE)<|aM cC aE<|cE (bI 1) aE)<|bD 1 iQ.nd (bO<|aB (aM bQ (cE (bI 1) aE) aE)<|aB (cE (bI 1) aE)<|aB (aM bQ (cE (bI 1) aE) aE)<|aB (aM bQ (cE (bI 1) aE) aE)<|aB (aM bQ (cE (bI 1) aE) aE)<|aB (aM bQ (cE (bI 1) aE) aE) aA)<|bD 3 iQ.nd (dB bJ4 hr<|aN 1<|aN 2 aA)<|bD 4 iQ.nd (dB cM2 hr<|aN 0<|aX<|aX aA)<|mV (b88<|eY (cu_any rfl) rfl Z.z12 d67 (aB (jL ["_law_place",".acc"] (aD aH5).names cC1 (iN<|aQ 3) (λ_ _ _ _ _ _=>dX) λ_ _ _ _ _ _=>(c55 b93 (eY bV2 rfl Z.z2 bX0 (aN 0 aA)) aE)) aA)) (bD 3 iQ.nd (dD<|aX<|aX<|aX aA)<|bH<|a74 2 iQ.nd aE)<|bD 5 iQ.nd (bO aA)<|bS (o6 6 iQ.nd (cO9 rfl Z.z5 (aB (jK (bI 3) (gU aE) kM) aA))<|bH<|a74 5 iQ.nd<|aM cC (bO<|aB (aM cC (aQ 6)<|c40 (kY b93 (eI (bI 5) rfl Z.z0) aE) (aM cD (cE (bI 5) aE)<|cE (bI 1) aE) aE) aA)<|aQ 5)<|bD 7 iQ.nd (cG dS rfl Z.z8 dU (aN 5 aA))<|bD 8 iQ.nd (dB cT6 hr<|aB (dB a41 hr<|aN 0<|aX aA)<|aB (eI (bI 7) rfl Z.z0)<|aX aA)<|bD 9 iQ.nd (cG dS rfl Z.z8 dU (aB (aQ5 (js:=[2]) (N:=["_law_a","_law_b","_law_p",".acc"]) (cap:=[none,none,some 2,none]) (last:=3) (esc:=(aD aH5).names) (XN:=cC1) rfl rfl ag ac ac rfl (ui_zip (by rfl) Z.z14<|aN 7<|aN 8 aA) (λ_ _ _ _ _ _=>(a04 rfl (fU 0 (fT (show Nodup (["_law_a","_law_b","_law_p",".acc"]:List Str)by decide +kernel) rfl (Or.inl rfl))<|fU 1 (fT (show Nodup (["_law_a","_law_b","_law_p",".acc"]:List Str)by decide +kernel) rfl (Or.inl rfl)) tE) (eM<|eM oX))) (λ_ _ _ _ _ _=>dX) (λ_ _ _ _ _ _=>(aM cC (aQ 0)<|aM cD (aQ 2)<|aQ 1))) aA))<|bD 10 iQ.nd (dB cT6 hr<|aB (dB a41 hr<|aN 0<|aX aA)<|aB (wW<|aQ 4)<|aX aA)<|bD 11 iQ.nd (bO<|aB (bO<|aN 3<|aN 2<|aN 7 aA)<|aB (bO<|aN 3<|aN 2<|aN 9 aA)<|aB (bO<|aN 3<|aN 2<|aN 8 aA)<|aB (bO<|aN 3<|aX<|aN 7 aA)<|aB (bO<|aN 3<|aX<|aN 7 aA)<|aB (bO<|aN 3<|aX<|aN 7 aA)<|aB (bO<|aN 3<|aF8 (iO<|aQ 2)<|aN 7 aA) aA)<|bD 11 iQ.nd (aM cC (aQ 11)<|bO<|aB (bO<|aN 3<|aN 2<|aB (jK (bI 7) (gU aE) kM) aA)<|aB (bO<|aN 3<|aN 2<|aB (aM cC (aQ 7)<|dD<|aX aA) aA)<|aB (bO<|aN 3<|aN 2<|aB (cG dS rfl Z.z8 dU (aB (jL ["_law_place","_law_p",".acc"] (aD aH5).names cC1 (iN<|aQ 8) (λ_ _ _ _ _ _=>dX) λ_ _ _ _ _ _=>(aM cD (aQ 1)<|aQ 0)) aA)) aA)<|aB (bO<|aN 3<|aN 2<|oG (dD aA) aA) aA)<|bD 11 iQ.nd (aM cC (aQ 11)<|bO<|aB (bO<|aN 3<|aB (cE (uM<|aM5 rG hr ac rfl)<|aM cC (cE (bI 1) aE) aE)<|aN 7 aA)<|aB (bO<|aB (wW<|aQ 4)<|aN 2<|aN 10 aA)<|aB (bO<|aB (wW<|aQ 4)<|aX<|aN 10 aA) aA)<|bD 12 iQ.nd (aM5 cM3 hr ac rfl)<|bD 11 iQ.nd (aM cC (aQ 11)<|bO<|aB (bO<|aN 3<|aN 2<|aB (aM cC (dD<|aB (aM cC (cE (bI 7) aE)<|aM cD (aQ 2)<|aQ 12) aA)<|jK (bI 7) (gU aE) kM) aA)<|aB (bO<|aN 3<|aN 12<|aN 7 aA)<|aB (bO<|aN 3<|aN 2<|aB (aM cP0 (dD<|aN 12 aA)<|eI (bI 7) rfl Z.z0) aA) aA)<|bS (o6 13 iQ.nd (iN<|aQ 11)<|bD 14 iQ.nd (dB jS hr<|aB (cE (bI 13) aE)<|aB (cE (bI 13) aE)<|aB (cE (bI 13) aE) aA)<|bH<|bK5 (PUW.pt<|aM3 (bU9<|b88<|eY cu_isi rfl Z.z15 bK8 (aN 14<|aB (pu_ty rfl Z.z16 dM9) aA))<|aQ0<|kY b94 (aQ 14)<|dB dF9 hr<|aB (cE (bI 13) aE)<|aB (cE (bI 13) aE)<|aB (cE (bI 13) aE) aA)<|fK bO5)<|fK<|d36 (d71<|dB jS hr<|oG (dD<|aX<|aX<|aX aA)<|aX<|oG (dD<|aX<|aX aA) aA)<|cG1<|d71<|dB jS hr<|aB (jK (bI 3) kM<|gU aE)<|aN 2<|aB (jK (bI 7) kM<|gU aE) aA)
theorem d02 (Z:Zs mg){oE:Tok}(fH:mg "GREATEST_MEASURE"=some (.int 39999 oE)){rH:Addr}(mE:mg "TooGreat"=some (.ref rH))(rJ:excIn K rH bmV vN=true)(dC:nB<$>P)(aC8:c03<$>P)(oF:FnX<$>"need_together" vL 5 jI)(sN:FnX<$>"need_whole" a56 9 mH){f:Addr}{cdv:Value}{A:Around}{outer:List Env}{s:Shared}{H:Hp}{E:XK}(hr:gT 9 (A.deeper<|envOfC "Ring.__init__" (aD aC2) s.heap.objs.size f cdv)) :
  PSs (t9 (CXr P w base) P w K mg base ["self","poly","size"] "Ring.__init__" (aD aC2) f cdv A outer s H E) (dF aC2) (λD=>lSX K mg E bD0 {D with nx:=tS3 K "poly" "degree" "measure" bD1 bD2 bD3 D}):=
 (b68 (aR0<|bV7<|aQ4 dC hr ac rfl (aB (gF 1<|pv 1) aA))<|b68 (cP3 oF hr ac dT8 rfl (aB (gF 1<|pv 1) aA))<|b68 (aR0<|a65 2 cT4.nd rfl (Or.inl rfl) (aQ4 aC8 hr ac rfl (aB (gF 1<|pv 1) aA)) (hl:=il (n:=3) rfl ac))<|b68 (d81 (aD8 b93 (eY bV2 rfl Z.z2 bX0 (aB (gF 2<|pv 2) aA)) (cO5 rfl fH)<|bT9 _) (bA8<|d82 yU rJ rfl mE rfl (aB pu_str aA) cI4 rfl) cI6)<|dM7 (cP3 sN hr ac dT8 rfl (aB (gF 1<|pv 1)<|aB (gF 2<|pv 2) aA))<|uJ (b84 (pv 0) (gF 1<|pv 1) rfl)<|uJ (b84 (pv 0) (aM bQ (eI (wT 1<|pv 1) rfl Z.z0) aE) rfl)<|b57<|b84 (pv 0) (gF 2<|pv 2) rfl)
theorem d03 (Z:Zs mg){f:Addr}{cdv:Value}{A:Around}{outer:List Env}{s:Shared}{H:Hp}{E:XK}(hr:gT 0 (A.deeper<|envOfC "Plan.__init__" (aD aC3) s.heap.objs.size f cdv)) :
  PSs (t9 (CXr P w base) P w K mg base ["self","poly"] "Plan.__init__" (aD aC3) f cdv A outer s H E) (dF aC3) (tS2 K "poly" "degree" aS7 bF6):=
 (uJ (b84 (pv 0) (gF 1<|pv 1) rfl)<|b57<|b84 (pv 0) (aM bQ (eI (wT 1<|pv 1) rfl Z.z0) aE) rfl)
end
theorem lC {P:List Value->Prop}{n:Nat}(h: ∀a us,us.length=n->P (a::us)): ∀us:List Value,us.length=n+1->P us:=λus=>us.casesOn (λe=>nomatch e) λa us e=>h a us (Nat.succ.inj e)
theorem lN0 {P:List Value->Prop}(h:P []): ∀us:List Value,us.length=0->P us:=λus=>us.casesOn (λ_=>h) λ_ _ e=>nomatch e
local macro_rules| `(tactic| walk_at "b0")=> `(tactic| exact λ_ _ _ _ _ _=>lN0 rfl)
theorem lN1 {P:List Value->Prop}(h: ∀a0,P [a0]): ∀us:List Value,us.length=1->P us:=lC λa0=>lN0 (h a0)
local macro_rules| `(tactic| walk_at "b1")=> `(tactic| exact λ_ _ _ _ _ _=>lN1 λ_=>rfl)
theorem lN2 {P:List Value->Prop}(h: ∀a0 a1,P [a0,a1]): ∀us:List Value,us.length=2->P us:=lC λa0=>lC λa1=>lN0 (h a0 a1)
local macro_rules| `(tactic| walk_at "b2")=> `(tactic| exact λ_ _ _ _ _ _=>lN2 λ_ _=>rfl)
theorem lN3 {P:List Value->Prop}(h: ∀a0 a1 a2,P [a0,a1,a2]): ∀us:List Value,us.length=3->P us:=lC λa0=>lC λa1=>lC λa2=>lN0 (h a0 a1 a2)
local macro_rules| `(tactic| walk_at "b3")=> `(tactic| exact λ_ _ _ _ _ _=>lN3 λ_ _ _=>rfl)
local macro_rules| `(tactic| walk_at "n")=> `(tactic| (intro _ _ h;repeat (first| (obtain⟨e,_⟩:=h;subst e;rfl)|obtain⟨_,h⟩:=h)))
structure FD where
 oc:Value
 od:Option Addr
 kV:Value
 dc:Value
 pm:Value
 an:Option Addr
 cd:Value
 ct:Value
 sl:Array (Option Value)
abbrev fO (K:Frag)(x y:Str)(s:Stmt)(f:Addr):Prop:= ∃d:FD,nsIn K mainGlobals y=some (some<|.ref f)/\K.lookup f=some ⟨d.oc,d.od,.func<|fnOf x x (iV s) (dF s) (aD s) .none d.kV d.dc d.pm d.an d.cd d.ct,d.sl⟩/\codeIn K d.cd x=true/\keepIn K (.ref f)=true
theorem fnAt {K:Frag}{x y:Str}{s:Stmt}{f:Addr}{oc:Value}{od:Option Addr}{kV dc pm:Value}{an:Option Addr}{cd ct:Value}{sl:Array (Option Value)}(a:nsIn K mainGlobals y=some (some<|.ref f))(b:K.lookup f=some ⟨oc,od,.func<|fnOf x x (iV s) (dF s) (aD s) .none kV dc pm an cd ct,sl⟩)(c:codeIn K cd x=true)(k:keepIn K (.ref f)=true):fO K x y s f:=⟨⟨oc,od,kV,dc,pm,an,cd,ct,sl⟩,a,b,c,k⟩
theorem dF7 {K:Frag}{x y:Str}{s:Stmt}{f:Addr}(p:fO K x y s f): ∃fd,Fun K x x s f fd/\nsIn K mainGlobals y=some (some<|.ref f):=let ⟨_,a,b,c,k⟩:=p;⟨_,aV7 b c k,a⟩
section
variable {P:Program}{w:World}{K:Frag}{mg:Str->Option Value}{base h:Heap}(X:K.In h)(G:h.Ns mainGlobals mg){x y:Str}{st:Stmt}{f:Addr}{N ps:List Str}{k:Nat}(p:fO K x y st f)(b: ∀(kV doc pm:Value) (an:Option Addr) (cdv ct:Value) (us:List Value),us.length=ps.length->bindArgs (fnOf x x (iV st) (dF st) (aD st) .none kV doc pm an cdv ct) ⟨us,[]⟩=pure (ps.zip us))(S:aW N ps (aD st))
include X G p b S
theorem fn_b {φ:Φ}(len: ∀ds Q,φ ds Q->ds.length=ps.length){t:US}(der:DT<$>N x st k t)(rd: ∀ds Q,φ ds Q->t {Q with} (init N ds)):Fn<$>y ps (k+1) φ:=
 let ⟨_,U,m⟩:=dF7 p
 Fn.mkA U (eE X G m) (U.binds b) S len (λ_ _ _ _ _ _=>der) rd
theorem fnX_b {φ:ΦX}(q:x=y)(len: ∀ds Q Ex,φ ds Q Ex->ds.length=ps.length){t:USX}(der: ∀(cdv:Value) (A:Around) (outer:List Env) (s:Shared) (H:Hp) (E:XK),gT k (A.deeper<|envOfC x (aD st) s.heap.objs.size f cdv)->a48 (t9 (CXr P w base) P w K mg base N x (aD st) f cdv A outer s H E) E (dF st) t)(rd: ∀ds Q Ex,φ ds Q Ex->t Ex {Q with} (init N ds)):FnX<$>y ps (k+1) φ:=
 let ⟨_,U,m⟩:=dF7 p
 q▸FnX.mk' U (eE X G<|q▸m) (U.binds b) S len der rd
end
theorem all_mk {l:PySem.W.OpenLaw}{w:World}{K:Frag}{h:Heap}{mg:Str->Option Value}{fa f1 f2 f3 f4 f5 f6 f7 f8 f9 f10 f11 f12 f13 f14 f15 f16 f17 f18 f19 f20 f21 f22 f23 f24 f25 f26 f27 f28 f29 f30 f31 f32 f33 f34 f35 f36 f37 f38 f39 f40 f41 f42 f43 f44 f45 f46 f47 f48 f49 f50 f51 f52 f53 f54 f55 f56 f57 gX jV aV2 aV3 fA gS rH gY rK sO jR:Addr}(X:K.In h)(G:h.Ns mainGlobals mg)(hfa:mg "law"=some (.ref fa))
  {bN0 bN1 cD9 cE0 dR3 dR4 dR5 dR6 b55:Option Addr} {bN2 cE1 dR7 dR8 b56:Array (Option Value)} {bN3 bN4 bN5 aH8 bN6 cE2 cE3 cE4 b36 cE5 dR9 dS0 dS1 cT7 dS2 dS3 dS4 dS5 cT8 dS6 dS7 dS8:Value} {tK a43 bJ5:ClassData} {rC oE:Tok} {b05:Array Value} {n_SMALL_PRIMES:Nat}
  (P1:fO K "is_ring_poly" "is_ring_poly" hV f1)
  (P2:fO K "need_ring_poly" "need_ring_poly" iF f2)
  (P3:fO K "cut" "cut" aT0 f3)
  (P4:fO K "padded" "padded" vH f4)
  (P5:fO K "poly_parted" "poly_parted" kN f5)
  (P6:fO K "poly_at" "poly_at" rX f6)
  (P7:fO K "to_the" "to_the" vI f7)
  (P8:fO K "root" "root" aB1 f8)
  (P9:fO K "small_primes" "small_primes" jN f9)
  (P10:fO K "apart" "apart" yL f10)
  (P11:fO K "dividers" "dividers" pF f11)
  (P12:fO K "line_and_rest" "line_and_rest" j5 f12)
  (P13:fO K "two_by_two" "two_by_two_apart" gN f13)
  (P14:fO K "two_with" "two_with" pG f14)
  (P15:fO K "det" "det" aE3 f15)
  (P16:fO K "without" "without" oM f16)
  (P17:fO K "times" "times" tO f17)
  (P18:fO K "power" "power" yM f18)
  (P19:fO K "number_of" "number_of" nI f19)
  (P20:fO K "t_times" "t_times" oN f20)
  (P21:fO K "table_of" "table_of" pH f21)
  (P22:fO K "trace" "trace" tP f22)
  (P23:fO K "own" "own" aT7 f23)
  (P24:fO K "mod_poly" "mod_poly" mJ f24)
  (P25:fO K "mod_parted" "mod_parted" lW f25)
  (P26:fO K "scaled" "scaled" r6 f26)
  (P27:fO K "inverse_of" "inverse_of" lX f27)
  (P28:fO K "split_by" "split_by" pI f28)
  (P29:fO K "lines_out" "lines_out" nJ f29)
  (P30:fO K "rootless_parts" "rootless_parts" gI f30)
  (P31:fO K "two_by_two" "two_by_two_split" gO f31)
  (P32:fO K "papers_of" "papers_of" kP f32)
  (P33:fO K "parts_at" "parts_at" mK f33)
  (P34:fO K "outside_of" "outside_of" jP f34)
  (P35:fO K "measure" "measure" oO f35)
  (P36:fO K "root_sums" "root_sums" kQ f36)
  (P37:fO K "need_together" "need_together" fW f37)
  (P38:fO K "need_whole" "need_whole" gP f38)
  (P39:fO K "sees_outside" "sees_outside" hX f39)
  (P40:fO K "is_whole_by" "is_whole_by" iR f40)
  (P41:fO K "_law_cell" "_law_cell" bG9 f41)
  (P42:fO K "_law_mixed" "_law_mixed" aU0 f42)
  (P43:fO K "_law_draws" "_law_draws" aU1 f43)
  (P44:fO K "_law_shifted" "_law_shifted" yO f44)
  (P45:fO K "_law_poly" "_law_poly" aZ6 f45)
  (P46:fO K "_law_known_ring" "_law_known_ring" pJ f46)
  (P47:fO K "_law_ring" "_law_ring" bH1 f47)
  (P48:fO K "_law_few" "_law_few" bT4 f48)
  (P49:fO K "_law_times" "_law_times" aU3 f49)
  (P50:fO K "_law_table" "_law_table" b78 f50)
  (P51:fO K "_law_is_prime" "_law_is_prime" rA f51)
  (P52:fO K "_law_primes" "_law_primes" tQ f52)
  (P53:fO K "_law_own" "_law_own" bH3 f53)
  (P54:fO K "_law_due" "_law_due" cT2 f54)
  (P55:fO K "_law_double" "_law_double" aC1 f55)
  (P56:fO K "_law_huge" "_law_huge" bH4 f56)
  (P57:fO K "law" "law" aH5 f57)
  (j6:nsIn K mainGlobals "FallsApart"=some (some<|.ref fA))
  (mC:nsIn K mainGlobals "NotWhole"=some (some<|.ref gS))
  (mE:nsIn K mainGlobals "TooGreat"=some (some<|.ref rH))
  (mD:nsIn K mainGlobals "RingError"=some (some<|.ref gY))
  (bJ6:nsIn K mainGlobals "Ring"=some (some<|.ref rK))
  (bJ7:nsIn K mainGlobals "Plan"=some (some<|.ref sO))
  (aH9:findIn K (.ref fA) "__init__"=some (some<|.ref gX))
  (b37:findIn K (.ref gS) "__init__"=some (some<|.ref jV))
  (c13:findIn K (.ref rK) "__init__"=some (some<|.ref aV2))
  (c14:findIn K (.ref sO) "__init__"=some (some<|.ref aV3))
  (a44:K.lookup gX=some ⟨.type "function",bN0,.func<|fnOf "__init__" "FallsApart.__init__" (iV pL) (dF pL) (aD pL) .none bN3 bN4 bN5 bN1 aH8 bN6,bN2⟩)
  (aP4:K.lookup jV=some ⟨.type "function",cD9,.func<|fnOf "__init__" "NotWhole.__init__" (iV vQ) (dF vQ) (aD vQ) .none cE2 cE3 cE4 cE0 b36 cE5,cE1⟩)
  (cM4:K.lookup aV2=some ⟨dS7,dR3,.func<|fnOf "__init__" "Ring.__init__" (iV aC2) (dF aC2) (aD aC2) .none dR9 dS0 dS1 dR4 cT7 dS2,dR7⟩)
  (cM5:K.lookup aV3=some ⟨dS8,dR5,.func<|fnOf "__init__" "Plan.__init__" (iV aC3) (dF aC3) (aD aC3) .none dS3 dS4 dS5 dR6 cT8 dS6,dR8⟩)
  (xV:codeIn K aH8 "FallsApart.__init__"=true)
  (xW:keepIn K (.ref gX)=true)
  (aC9:codeIn K b36 "NotWhole.__init__"=true)
  (aD0:keepIn K (.ref jV)=true)
  (c15:codeIn K cT7 "Ring.__init__"=true)
  (c16:keepIn K (.ref aV2)=true)
  (c17:codeIn K cT8 "Plan.__init__"=true)
  (c18:keepIn K (.ref aV3)=true)
  (mQ:a77 K fA gX [.type "ValueError",.type "Exception",.type "BaseException",.type "object"] "ValueError.__new__"=true)
  (rE:a77 K gS jV [.type "ValueError",.type "Exception",.type "BaseException",.type "object"] "ValueError.__new__"=true)
  (rJ:excIn K rH [.type "ValueError",.type "Exception",.type "BaseException",.type "object"] "ValueError.__new__"=true)
  (sB:excIn K gY [.type "ValueError",.type "Exception",.type "BaseException",.type "object"] "ValueError.__new__"=true)
  (rN:clsIn K fA=some tK)
  (wQ:clsIn K gS=some a43)
  (aD1:clsIn K rH=some bJ5)
  (jT:(tK).mro.contains (.ref gY)=true)
  (kU:(bJ5).mro.contains (.ref gY)=true)
  (kW:(a43).mro.contains (.ref gY)=true)
  (xX:uT (tK).mro=true)
  (xY:(tK).hasDict=true)
  (xZ:findIn K (.ref fA) "__setattr__"=some (some<|.builtin "object.__setattr__"))
  (y8:findIn K (.ref fA) "left"=some none)
  (y9:findIn K (.ref fA) "right"=some none)
  (aD2:uT (a43).mro=true)
  (aD3:(a43).hasDict=true)
  (aD4:findIn K (.ref gS) "__setattr__"=some (some<|.builtin "object.__setattr__"))
  (aD5:findIn K (.ref gS) "prime"=some none)
  (aD6:findIn K (.ref gS) "number"=some none)
  (mk_Ring:makesIn K rK=true)
  (fn_Ring:isFn K (.ref aV2)=true)
  (kc_Ring:keepIn K (.ref rK)=true)
  (pg_Ring:plainGet K rK Str.empty=true)
  (c19:hasDictIn K rK=true)
  (po_Ring:plainOver K rK=true)
  (c20:findIn K (.ref rK) "__setattr__"=some (some<|.builtin "object.__setattr__"))
  (c21:findIn K (.ref rK) "poly"=some none)
  (b06:findIn K (.ref rK) "degree"=some none)
  (aP5:findIn K (.ref rK) "measure"=some none)
  (mk_Plan:makesIn K sO=true)
  (fn_Plan:isFn K (.ref aV3)=true)
  (kc_Plan:keepIn K (.ref sO)=true)
  (pg_Plan:plainGet K sO Str.empty=true)
  (c22:hasDictIn K sO=true)
  (po_Plan:plainOver K sO=true)
  (c23:findIn K (.ref sO) "__setattr__"=some (some<|.builtin "object.__setattr__"))
  (a45:findIn K (.ref sO) "poly"=some none)
  (vV:findIn K (.ref sO) "degree"=some none)
  (dG0:nsIn K mainGlobals "len"=some none)
  (dG1:nsIn K mainGlobals "all"=some none)
  (dG2:nsIn K mainGlobals "abs"=some none)
  (dG3:nsIn K mainGlobals "max"=some none)
  (cM6:nsIn K mainGlobals "list"=some none)
  (aP6:nsIn K mainGlobals "reversed"=some none)
  (c24:nsIn K mainGlobals "range"=some none)
  (aD7:nsIn K mainGlobals "enumerate"=some none)
  (c25:nsIn K mainGlobals "tuple"=some none)
  (dG4:nsIn K mainGlobals "sum"=some none)
  (bJ8:nsIn K mainGlobals "sorted"=some none)
  (dG5:nsIn K mainGlobals "min"=some none)
  (dG6:nsIn K mainGlobals "any"=some none)
  (dG7:nsIn K mainGlobals "int"=some none)
  (dG8:nsIn K mainGlobals "zip"=some none)
  (a46:nsIn K mainGlobals "isinstance"=some none)
  (cM7:nsIn K mainGlobals "bool"=some none)
  (gJ:nsIn K mainGlobals "GREATEST_PLACE"=some (some<|.int 499 rC))
  (fH:nsIn K mainGlobals "GREATEST_MEASURE"=some (some<|.int 39999 oE))
  (iH:nsIn K mainGlobals "SMALL_PRIMES"=some (some<|.ref jR))
  (sR:K.lookup jR=some ⟨.type "tuple",b55,.seq b05 n_SMALL_PRIMES,b56⟩)
  (sS:b05.size<=sizeLine)
  (sT:Vals (T_SMALL_PRIMES.map V.int) b05.toList) :
  ∃fd:FuncData,(∀(s:Shared) (v:Value),BindsTo s fd ⟨[v],[]⟩ [("_law_script",v)])/\ ∀base:Heap,K.In base->base.Ns mainGlobals mg->sC l.prog w K mg base CX0 13 fa fd ["_law_script"] (spP K bO7):=by
 have h15:=P15.choose_spec;have h57:=P57.choose_spec;have e:=hfa.symm.trans (eE X G h57.1);cases e;have Z:Zs mg:=⟨dY X G dG0,dY X G dG1,dY X G dG2,dY X G dG3,dY X G cM6,dY X G aP6,dY X G c24,dY X G aD7,dY X G c25,dY X G dG4,dY X G bJ8,dY X G dG5,dY X G dG6,dY X G dG7,dY X G dG8,dY X G a46,dY X G cM7⟩;have gJ:=eE X G gJ;have fH:=eE X G fH;have iH:=eE X G iH
 have vR:KT K jR (T_SMALL_PRIMES.map V.int):=kt_of sR sS sT;have j6:=eE X G j6;have mC:=eE X G mC;have mE:=eE X G mE;have mD:=eE X G mD;have bJ6:=eE X G bJ6;have bJ7:=eE X G bJ7;have a40:c61 K fA gX _ "left" "right":=cP5 (st:=pL) (x0:="self") (x1:="left") (x2:="right") a44 xV xW rfl bM0 rfl rfl rfl ac ac ac (λ_ _ _ _ _ _=>lN3 λ_ _ _=>rfl) rN xX xY xZ y8 y9
 have aP1:c61 K gS jV _ "prime" "number":=cP5 (st:=vQ) (x0:="self") (x1:="prime") (x2:="number") aP4 aC9 aD0 rfl cC5 rfl rfl rfl ac ac ac (λ_ _ _ _ _ _=>lN3 λ_ _ _=>rfl) wQ aD2 aD3 aD4 aD5 aD6
 have rF: ∀n∈(["FallsApart","TooGreat","NotWhole"]:List Str),∀C,mg n=some (.ref C)->bB0 K gY C bmV vN:=by
  intro n hn C hm;simp only[aY,dL,dQ]at hn;rcases hn with rfl|rfl|rfl
  . (have e:=hm.symm.trans j6;cases e;exact aW9 (.inr ⟨_,mQ⟩) rN jT)
  . (have e:=hm.symm.trans mE;cases e;exact aW9 (.inl rJ) aD1 kU)
  . (have e:=hm.symm.trans mC;cases e;exact aW9 (.inr ⟨_,rE⟩) wQ kW)
 have U15:=aV7 (st:=aE3) h15.2.1 h15.2.2.1 h15.2.2.2;have U57:=aV7 (st:=aH5) h57.2.1 h57.2.2.1 h57.2.2.2;have UR:=aV7 (st:=aC2) cM4 c15 c16;have UP:=aV7 (st:=aC3) cM5 c17 c18;refine⟨fnOf "law" "law" (iV aH5) (dF aH5) (aD aH5) .none P57.choose.kV P57.choose.dc P57.choose.pm P57.choose.an P57.choose.cd P57.choose.ct,λs v=> .of_eq rfl,λbase _ _=> ?_⟩
 have mB:= @fn_b l.prog w K mg base h X G;have mX:= @fnX_b l.prog w K mg base h X G;have hZ:=mB P1 (by walk_at "b1") aU4 ah (aO8 Z gJ) aS1
 have dC:=mB P2 (by walk_at "b1") aF3 ah (aC4 Z hZ) aF1
 have a35:=mB P3 (by walk_at "b1") bH5 ah (cZ6 Z) d96
 have rD:=mB P4 ai cC2 ah (c04 Z) c80
 have cS:=mB P5 ai eN ah (aU8 Z a35) aX1
 have oQ:=mB P6 ai tJ ah (bM5 Z) bY0
 have aP2:=mB P7 ai wN ah (c05 Z) c94
 have bJ3:=mB P8 (by walk_at "b1") yP ah (cL9 Z) cX9
 have eO:=mB P9 (by walk_at "b0") aU5 ah (aO9 Z iH vR) aR8
 have mM:=mB P11 (by walk_at "b1") xL ah (bI6 Z) bL3
 have pN:=mB P12 (by walk_at "b1") oB ah (aF5 Z mM oQ cS) aM8
 have a36:=mB P14 ai xM ah (bI7 Z bJ3) bL4
 have lY:=mB P13 (by walk_at "b1") gA ah (a33 Z mM a36) a58
 have mS:=mB P10 (by walk_at "b1") aO4 ah (cD2 Z dC pN lY) cJ6
 have oR:=mB P16 ai bZ9 ah (bM6 Z) bX2
 have d04:Fn l.prog w K mg base "det" jO 1 (gM 0):=Fn.void U15 (eE X G h15.1) (U15.binds (ps:=jO)<|by walk_at "b1") cI8
 have d05:Fn l.prog w K mg base "det" jO 2 (gM 1):=Fn.mk' U15 (eE X G h15.1) (U15.binds (ps:=jO)<|by walk_at "b1") pK (aE2 _) (λcdv A outer s H E hr=>aE6 Z ac d04 oR hr) (aR4 0 ac)
 have d06:Fn l.prog w K mg base "det" jO 3 (gM 2):=Fn.mk' U15 (eE X G h15.1) (U15.binds (ps:=jO)<|by walk_at "b1") pK (aE2 _) (λcdv A outer s H E hr=>aE6 Z ac d05 oR hr) (aR4 1 ac)
 have d07:Fn l.prog w K mg base "det" jO 4 (gM 3):=Fn.mk' U15 (eE X G h15.1) (U15.binds (ps:=jO)<|by walk_at "b1") pK (aE2 _) (λcdv A outer s H E hr=>aE6 Z ac d06 oR hr) (aR4 2 ac)
 have d08:Fn l.prog w K mg base "det" jO 5 (gM 4):=Fn.mk' U15 (eE X G h15.1) (U15.binds (ps:=jO)<|by walk_at "b1") pK (aE2 _) (λcdv A outer s H E hr=>aE6 Z ac d07 oR hr) (aR4 3 ac)
 have aV1:=d08;have aC7:=mB P20 ai a29 ah (bM7 Z) bY5
 have mO:=mB P21 ai xN ah (bI8 Z aC7) bL5
 have b02:=mB P17 (by walk_at "b3") aO5 ah (cD3 Z mO) cJ8
 have xR:=mB P19 ai bH6 ah (b51 Z rD) bD7
 have b04:=mB P18 (by walk_at "b3") a28 ah (cD4 Z xR b02) cK0
 have b03:=mB P22 ai bH7 ah (cD5 Z mO) cK4
 have c09:=mB P23 ai yQ ah (cZ7 Z b03 b04) dD1
 have fX:=mB P24 ai bL8 ah (bI9 Z a35) bL0
 have vS:=mB P27 ai nN ah (b00 Z) b43
 have a37:=mB P26 (by walk_at "b3") cC3 ah (c06 Z fX) c67
 have vT:=mB P25 (by walk_at "b3") kO ah (aZ9 Z fX vS cS a37) b44
 have xS:=mB P29 ai iG ah (b52 Z oQ vT) bC5
 have lZ:=mB P31 ai eX ah (a34 Z) a60
 have oC:=mB P30 ai t7 ah (aC5 Z lZ) aF0
 have a39:=mB P28 ai xO ah (bJ0 Z eO xS fX oC) bL1
 have a38:=mB P33 ai bL9 ah (bJ1 Z a39 cS) bL2
 have xU:=mB P32 ai bH8 ah (b53 Z eO a38) bC7
 have vU:=mB P34 ai iS ah (b01 Z cS) b46
 have xT:=mB P36 ai jQ ah (b54 Z) bB7
 have aC8:=mB P35 (by walk_at "b1") a30 ah (bM8 Z dC xT aV1) bY1
 have oF:=mX P37 (by walk_at "b1") vO rfl a95 (λ_ _ _ _ _ _ hr=>aC6 Z j6 mQ a40 mS hr) aF2
 have sN:=mX P38 ai nO rfl aS2 (λ_ _ _ _ _ _ hr=>aU9 Z mC rE aP1 vU xU rD hr) aX9
 have okP:OkC K sO ["poly","degree"]:=⟨⟨pg_Plan,c22,po_Plan,c23⟩,λf hf=>by
  simp only[aY,dL,dQ]at hf;rcases hf with rfl|rfl
  .exact a45
  .exact vV⟩
 have fP:=d88 (P:=l.prog) (w:=w) (base:=base) UP dQ5 okP ac cZ1 (λcdv A outer s H E hr=>d03 Z hr) dD8
 have bP:=UP.binds (ps:=["self","poly"]) λ_ _ _ _ _ _ us hl=>match us,hl with| [_,_],_=>rfl
 have c08:MkX l.prog w K mg base "Plan" 1 ["poly","degree"] aA5:=⟨sO,aV3,_,["self","poly"],Mk.mk mk_Plan c14 fn_Plan kc_Plan,okP,fP,bP,bJ7⟩;have sM:=mB P40 (by walk_at "b3") rB ah (aV0 Z c08 c09 aP2) aY6
 have jS:=mB P39 (by walk_at "b3") wO ah (aP0 Z hZ eO mS sM) aS8
 have a41:=mB P41 ai dQ4 ah (dF3 Z) dM8
 have aE7:=mB P42 (by walk_at "b3") bH9 ah (cZ8 Z) d89
 have mT:=mB P43 (by walk_at "b3") yR ah (cZ9 Z aE7) d90
 have aE8:=mB P44 ai a31 ah (cD6 Z) cK1
 have cM1:=mB P45 ai aE4 ah (dF4 Z mT aE8) dO9
 have a42:=mB P46 (by walk_at "b1") xP ah (bJ2 Z aE7) bL7
 have okR:OkC K rK ["poly","degree","measure"]:=⟨⟨pg_Ring,c19,po_Ring,c20⟩,λf hf=>by
  simp only[aY,dL,dQ]at hf;rcases hf with rfl|rfl|rfl
  .exact c21
  .exact b06
  .exact aP5⟩
 have fR:=d87 UR cT4 okR ac ac ac cY1 ac (λcdv A outer s H E hr=>d02 Z fH mE rJ dC aC8 oF sN hr) dB5
 have bR:=UR.binds (ps:=["self","poly"]) λ_ _ _ _ _ _ us hl=>match us,hl with| [_,_],_=>rfl
 have b80:MkX l.prog w K mg base "Ring" 10 ["poly","degree","measure"] yI:=⟨rK,aV2,_,["self","poly"],Mk.mk mk_Ring c13 fn_Ring kc_Ring,okR,fR,bR,bJ6⟩;have cM2:=mB P47 (by walk_at "b3") aE5 ah (dF5 Z mD sB rF b80 cM1 a41 a42) dO7
 have cT6:=mB P48 (by walk_at "b3") cL3 ah (dQ9 Z mT) rd_few
 have aE9:=mB P49 (by walk_at "b3") sA ah (d00 Z) dC0
 have c12:=mB P50 ai vP ah (d01 Z aE9) dC3
 have aP3:=mB P51 (by walk_at "b1") cC4 ah (c07 Z) cA2
 have rG:=mB P52 (by walk_at "b0") cL4 ah (cD7 Z aP3) cK7
 have dF8:=mB P53 ai a32 ah (dR0 Z c12 aE9) rd_own
 have dF9:=mB P54 (by walk_at "b3") c00 ah (dR1 Z rG dF8 mS) rd_due
 have bJ4:=mB P55 ai oP ah (cM0 Z) cZ2
 have cM3:=mB P56 (by walk_at "b0") b79 ah (dF6 Z) dQ3
 exact bV5 U57 iQ dN0 (λcdv A outer s H E hr=>⟨bZ7,dR2 Z mT a41 rG bJ4 cM2 cT6 cM3 jS dF9 hr,rd_law⟩)
end M
open PySem PySem.W PyProof.Rows
local macro_rules| `(tactic| walk_at "f")=> `(tactic| (refine' M.fnAt ?x1 ?x2 ?x3 ?x4;(case x1=>k_is);(case x2=>k_is);(case x3=>k_is);(case x4=>k_is)))
namespace PySem.W.Fast
def tw1627423130286591855:=()
def tw14325742796157013917:=()
def tw6353874244439634075:=()
def tw1923280875525782360:=()
def tw14823856222067652994:=()
def tw16520254380931285432:=()
def tw15389142679841826818:=()
def tw10961215962445074584:=()
def tw16238027268830454204:=()
def tw4690102992735506871:=()
def tw317081465876936890:=()
def tw9462482056360010624:=()
def tw15674468016238503961:=()
def tw14493761591381518869:=()
def tw8506640166893464421:=()
def tw9032490911479589800:=()
def tw14733937715489038865:=()
def tw6802206245868336425:=()
def tw2663123790318993509:=()
def tw4977279347531551513:=()
def tw1476894212866344359:=()
def tw12390648524634327199:=()
def tw11649291709658164252:=()
def tw7448635690696065917:=()
def tw921160733556480433:=()
def tw10501218995033967657:=()
def tw18095522808534973891:=()
def tw16584028643660525380:=()
def tw11412645541394663118:=()
def tw4691747484468018695:=()
def tw7629713299484297998:=()
def tw1648158056821468278:=()
def tw17833010075744607238:=()
def tw10171931698813165783:=()
def tw8232051204288552441:=()
def tw17772287116434232588:=()
def tw10599475450636755397:=()
def tw6871600439639837523:=()
def tw7454942264614908469:=()
def tw14973683629709803506:=()
def tw4100480245189889923:=()
def tw3497282238134337148:=()
def tw10253733175335770756:=()
def tw14593047838090675921:=()
def tw1176326198788034493:=()
def tw5023355857262366910:=()
def tw11650585595439089539:=()
def tw11094758453168169490:=()
def tw8327100700212021143:=()
def tw289848268571058913:=()
def tw1444488335407637406:=()
def tw9507500096773659199:=()
def tw16601849029514383688:=()
def tw17142554348233034366:=()
def tw8961170674959313664:=()
def tw11690026973777258403:=()
def tw13477487789177160134:=()
def tw1394216917298583680:=()
def tw3609653621796401361:=()
def tw14858503660324401110:=()
def tw12423272932723666639:=()
def tw3766460409737604407:=()
def tw4983645411226639183:=()
def tw4007055242593843226:=()
def tw3206366820672899385:=()
def tw12770054903848458977:=()
def tw3550386883921926620:=()
def tw12452933744527907461:=()
def tw6175813977438493416:=()
def tw6461429527663862775:=()
def tw17201012672165481197:=()
def tw5993339818351982268:=()
def tw9703197457252430334:=()
def tw17600886531481482753:=()
def tw16830462614378730424:=()
def tw17526162458168936765:=()
def tw8361366022717151516:=()
def tw5565575726870133718:=()
def tw18373613723628481372:=()
def tw11000725772550617864:=()
def tw17354675252363845048:=()
def tw13437876707282917661:=()
def tw14628850268121089698:=()
def tw15943626414193134377:=()
def tw6658118846731080470:=()
def tw15149319979948844923:=()
def tw6438145590878450763:=()
def tw14127928211123974482:=()
def tw7237144206412449665:=()
def tw2923685970675712356:=()
def tw10844714376514918938:=()
def tw16060438706578457480:=()
def tw9693290290463918113:=()
def tw14503490348687706555:=()
def tw10219072624409414107:=()
def tw6314360755579566606:=()
def tw11021711658262376570:=()
def tw15324552514398796711:=()
def tw4764323768806069256:=()
def tw4101423411835609633:=()
def tw16873843969612320808:=()
def tw3385616567178457780:=()
def tw2241694255510309992:=()
def tw17489027712477224243:=()
def tw13450757205304435590:=()
def tw15404523217325886018:=()
def tw3597775223514829211:=()
def tw12596977302630858385:=()
def tw17564973004544938274:=()
def tw16931849082359673713:=()
def tw17555764594887840717:=()
def tw17058244305204445590:=()
def tw625613158014590892:=()
def tw1769825729628641068:=()
def tw5440349719872450458:=()
def tw18150713445156505970:=()
def tw14501680118087646230:=()
def tw13521239928268289559:=()
def tw4061855092323021761:=()
def tw12372265265614594425:=()
def tw8679749816363659764:=()
def tw2884858294775239671:=()
def tw12116145676265108989:=()
def tw16216350541536127143:=()
def tw12919493447155241120:=()
def tw980904604759935415:=()
def tw5264667342209993745:=()
def tw9530325811037851309:=()
def tw6952666213005791896:=()
def tw12419993062843274367:=()
def tw14437070948142719996:=()
def tw3676117933426124070:=()
def tw3781879630945871583:=()
def tw4412165544768637787:=()
def tw12421520864236771856:=()
def tw4981464567015721665:=()
def tw9329434092243759396:=()
def tw12242283752394240257:=()
def tw16037923523981568765:=()
def tw17448246135610978797:=()
def tw16570509456095788284:=()
def tw17439314451185394584:=()
def tw8189678817495251007:=()
def tw13347189228598692403:=()
def tw10261451259886063295:=()
def tw5739187053236753182:=()
def tw4890808417637580673:=()
def tw17484479818842013958:=()
def tw15682849426527231118:=()
def tw9741311384901839062:=()
def tw6811989682830909281:=()
def tw9473284382625450651:=()
def tw6187363567444658863:=()
def tw17645340237753667592:=()
def tw13819019085089765115:=()
def tw990931708468201884:=()
def tw10884031865353822653:=()
def tw9564795602691398118:=()
def tw2032671744691965864:=()
def tw12027737634558185286:=()
def tw11987767065517390888:=()
def tw16260724423566856462:=()
def tw3010730691300214106:=()
def tw11491518915481822417:=()
def tw8130422123669535084:=()
def tw8920565512061417013:=()
def tw4026595890791550013:=()
def tw3706777705757931505:=()
def tw17739926241299218307:=()
def tw14788920496251134858:=()
def tw504387963533903912:=()
def tw13742234317577161388:=()
def tw18033655436757193350:=()
def tw15016347096589320896:=()
def tw4533118209866287464:=()
def tw965233168343171904:=()
end PySem.W.Fast
set_option maxRecDepth 100000 in
set_option maxHeartbeats 0 in
theorem PySem.Challenge.cw_ringhouse_k73_sees_outside_holds : PySem.Challenge.rw_ringhouse_k73_sees_outside.Holds := by
 w_on;o_law;k_head;(case hw=>w_witness2)
 k_fill
 refine M.walkM (l:=PySem.Challenge.rw_ringhouse_k73_sees_outside) (k:=13) (x:="_law_script") rfl rfl ⟨rfl,ac,ac⟩ (λw h Y=>PySem.W.kIn_of Y) ?F
 case F=>
  intro w mg fa h KX G hmg
  refine' M.all_mk KX G hmg ?P1 ?P2 ?P3 ?P4 ?P5 ?P6 ?P7 ?P8 ?P9 ?P10 ?P11 ?P12 ?P13 ?P14 ?P15 ?P16 ?P17 ?P18 ?P19 ?P20 ?P21 ?P22 ?P23 ?P24 ?P25 ?P26 ?P27 ?P28 ?P29 ?P30 ?P31 ?P32 ?P33 ?P34 ?P35 ?P36 ?P37 ?P38 ?P39 ?P40 ?P41 ?P42 ?P43 ?P44 ?P45 ?P46 ?P47 ?P48 ?P49 ?P50 ?P51 ?P52 ?P53 ?P54 ?P55 ?P56 ?P57 ?j6 ?mC ?mE ?mD ?bJ6 ?bJ7 ?aH9 ?b37 ?c13 ?c14 ?a44 ?aP4 ?cM4 ?cM5 ?xV ?xW ?aC9 ?aD0 ?c15 ?c16 ?c17 ?c18 ?mQ ?rE ?rJ ?sB ?rN ?wQ ?aD1 ?jT ?kU ?kW ?xX ?xY ?xZ ?y8 ?y9 ?aD2 ?aD3 ?aD4 ?aD5 ?aD6 ?mk_Ring ?fn_Ring ?kc_Ring ?pg_Ring ?c19 ?po_Ring ?c20 ?c21 ?b06 ?aP5 ?mk_Plan ?fn_Plan ?kc_Plan ?pg_Plan ?c22 ?po_Plan ?c23 ?a45 ?vV ?dG0 ?dG1 ?dG2 ?dG3 ?cM6 ?aP6 ?c24 ?aD7 ?c25 ?dG4 ?bJ8 ?dG5 ?dG6 ?dG7 ?dG8 ?a46 ?cM7 ?gJ ?fH ?iH ?sR ?sS ?sT
  (case P1|P2|P3|P4|P5|P6|P7|P8|P9|P10|P11|P12|P13|P14|P15|P16|P17|P18|P19|P20|P21|P22|P23|P24|P25|P26|P27|P28|P29|P30|P31|P32|P33|P34|P35|P36|P37|P38|P39|P40|P41|P42|P43|P44|P45|P46|P47|P48|P49|P50|P51|P52|P53|P54|P55|P56|P57=>walk_at "f");(case j6|mC|mE|mD|bJ6|bJ7|aH9|b37|c13|c14|a44|aP4|cM4|cM5|xV|xW|aC9|aD0|c15|c16|c17|c18|rN|wQ|aD1|xZ|y8|y9|aD4|aD5|aD6|mk_Ring|fn_Ring|kc_Ring|pg_Ring|c19|po_Ring|c20|c21|b06|aP5|mk_Plan|fn_Plan|kc_Plan|pg_Plan|c22|po_Plan|c23|a45|vV|dG0|dG1|dG2|dG3|cM6|aP6|c24|aD7|c25|dG4|bJ8|dG5|dG6|dG7|dG8|a46|cM7|gJ|fH|iH|sR=>k_is);(case mQ|rE=>first|kernel_rfl|rfl);(case rJ|sB=>k_exc);(case jT|kU|kW|xX|xY|aD2|aD3=>first|kernel_rfl|rfl|decide);(case sS=>first|decide| (trace_state;decide +kernel));(case sT=>first| (show L2.Vals (List.map _ _) (List.toList _);simp only[M.T_SMALL_PRIMES,List.map];repeat (first|exact .nil|refine .cons (.int _ _) ?_))| (repeat constructor)|trace_state)
