import PyProof.Rows.All
import Wide.All
import OpenK.AllK
import Wide.FinOn
import Lean
import PyProof.EqAt
import PyProof.EqKinds
import PyProof.TupleCall
import PySem.Challenge.RW_ringhouse_k74_sees_whole
set_option Elab.async false
set_option linter.all false
open PySem.W (instObj methodObj Frag lookIn InstAt plainGet hasDictIn findIn plainOver takerIn makesIn emptyDict keepIn fnOf codeIn KatLex KasT kas_sort Looks excIn clsIn nsIn)
open List (replicate length all_cons any_cons foldl Nodup)
open Nat (ne_of_gt le_of_eq add_comm mul_comm pow_succ mul_succ sub_self)
open Int (le_total mul_nonneg dvd_add le_of_dvd dvd_refl)
open PySem.Heap (SameBut ExtBut FlyingW HeldW MadeExcOf)
open Option (getD_none map_some bind_some)
open Array (toList)
set_option maxRecDepth 100000
set_option compiler.extract_closed false
set_option bootstrap.genMatcherCode false
local macro_rules | `(tactic| walk_at "z") => `(tactic| first|exact .inl rfl|exact .inr rfl|assumption)
def aa{p:Prop}(h:p:=by omega):p:=h
def ac{p:Prop}(h:p:=by decide):p:=h
def ad{p:Prop}(h:p:=by lia):p:=h
def ae{p:Prop}(h:p:=by simp):p:=h
def af{p:Prop}(h:p:=by decide +kernel):p:=h
def am{p:Prop}(h:p:=by rfl):p:=h
local macro_rules|`(↥$t)=>`(autoParam $t am._auto_1)|`(⇑$t)=>`(autoParam $t ac._auto_1)
local macro_rules|`(nonrec def $i:declId $s:optDeclSig $v:declVal)=>`(noncomputable def $i:declId $s:optDeclSig $v:declVal)
local macro_rules|`($x∩$e $s*)=>`(PySem.wpAny (PySem.model ($x).prog ($x).w) ($x).A $e $s*)
local macro_rules|`($x∪0)=>`(($x==("__debug__":PySem.Str))=false)
local macro_rules|`({$q:ident with})=>`({nx:=λ_=>$q (.pu .non),rt:=$q})
local macro_rules|`(@$n:num)=>`($(Lean.mkIdent `M.uC) (.int $n))
local macro_rules|`($f<$>$x:ident)=>`($f $x $(Lean.mkIdent `w) $(Lean.mkIdent `K) $(Lean.mkIdent `mg) $(Lean.mkIdent `base))|`($f<$>$g $s*)=>`($f $(Lean.mkIdent `P) $(Lean.mkIdent `w) $(Lean.mkIdent `K) $(Lean.mkIdent `mg) $(Lean.mkIdent `base) $g $s*)
local macro_rules|`(tactic|exists $t)=>`(tactic|simpa using $t)
local macro_rules|`(tactic|right)=>`(tactic|dsimp only)
def ag{p:Prop}(h:p:=by walk_at "n"):p:=h
def ai{p:Prop}(h:p:=by walk_at "b2"):p:=h
def aL:= @List.getD_eq_getElem?_getD
def a9:= @PySem.wpAny_bind
def a7:= @if_neg
def aO:= @List.getElem?_eq_getElem
def aF:= @List.length_map
def a8:= @if_pos
def aG:= @Nat.le_refl
def aN:= @Nat.le_trans
def bE:= @PySem.Heap.get?_push_of_some
def aK:= @PySem.wpAny_pure
def aT:= @List.mem_cons
def b7:= @List.mem_cons_self
def b6:= @List.size_toArray
def bM:= @List.mem_cons_of_mem
def aV:= @PySem.Heap.lt_size
def bI:= @Nat.lt_of_lt_of_le
def bJ:= @Bool.false_ne_true
def aY:= @Int.mul_zero
def bG:= @List.mem_append
def bP:= @Bool.and_eq_true
def bX:= @List.getElem?_map
def cI:= @List.length_append
def b9:= @Nat.ne_of_lt
def bY:= @List.getElem_mem
def cZ:= @List.mem_append_right
def cO:= @PySem.Heap.get?_push_size
def bT:= @List.map_append
def cC:= @List.all_eq_true
def bZ:= @decide_eq_false
def bQ:= @decide_eq_true
def cR:= @decide_eq_true_eq
def bD:= @PySem.wpAny_mono
def cJ:= @List.mem_range
def dO:= @Int.emod_lt_of_pos
def fY:= @Int.dvd_of_emod_eq_zero
def dP:= @List.length_cons
def cD:= @List.mem_map
def eQ:= @List.mem_singleton
def dQ:= @List.lookup_cons
def dR:= @Nat.zero_lt_succ
def dS:= @Int.emod_nonneg
def cS:= @List.map_cons
def eR:= @List.not_mem_nil
def dD:= @Int.zero_emod
def fN:= @Int.emod_eq_of_lt
def eS:= @List.mem_filter
def eC:= @Int.natAbs_mul
def dU:= @Nat.lt_irrefl
def gS:= @List.mem_append_left
def bO:= @congrArg
def fZ:= @of_decide_eq_true
def eV:= @Nat.mul_le_mul
def gG:= @PySem.W.mg_none_of
def dW:= @List.map_map
def dI:= @Nat.zero_le
def iI:= @List.map_congr_left
def eE:= @Int.zero_add
def eF:= @Int.add_zero
def l8:= @List.getElem?_eq_some_iff
def fA:= @PySem.W.mg_of
def mM:= @PyProof.Rows.callWith_type1
def cP:= @And.right
def iJ:= @List.pairwise_cons
def gH:= @List.length_set
def gI:= @List.range_succ
def j8:= @List.filterMap_cons
def lB:= @Int.emod_eq_zero_of_dvd
def iK:= @Nat.lt_succ_of_lt
def iL:= @PySem.Heap.get?_push_ne
def fB:= @Int.zero_mul
def oO:= @Int.mul_le_mul_of_nonneg_left
def iN:= @Option.some.inj
def jT:= @Nat.add_sub_cancel
def lD:= @List.replicate_succ
def jU:= @Int.toNat_natCast
def gT:= @Int.mul_assoc
def mO:= @List.getElem?_eq_none
def lF:= @Nat.lt_of_le_of_lt
def oP:= @List.length_eq_zero_iff
def oQ:= @Int.dvd_mul_of_dvd_left
def mQ:= @PySem.Heap.get?_none_of_le
def jV:= @List.length_take
def jW:= @PySem.wpAny_call_entry
def jX:= @PySem.Heap.size_update
def iO:= @PySem.wpAny_holding
def gU:= @Int.mul_emod
def rA:= @PySem.F.excBase_ValueError
def j9:= @Bool.false_xor
def lH:= @PySem.wpAny_newObj_type
def gA:= @beq_iff_eq
def lJ:= @PySem.wpAny_loadPart'
def jY:= @PySem.PassesOwn.never
def rB:= @Classical.byContradiction
def eW:= @or_false
def mS:= @List.filter_append
def oR:= @List.forall_mem_cons
def rC:= @PySem.wpAny_callSpecial?_slot
def mT:= @PySem.wpAny_truthy_bool
def lK:= @List.append_nil
def oS:= @Array.length_toList
def iP:= @PySem.wpAny_field
def jA:= @Int.add_emod
def uQ:= @List.getElem?_append_right
def jZ:= @List.map_take
def k8:= @Int.emod_emod
def a01:= @PySem.F.slot_tuple_iterator_next
def rD:= @PySem.Heap.get?_update_self
def rE:= @Bool.beq_eq_decide_eq
def oU:= @Bool.false_eq_true
def uS:= @Decidable.byContradiction
def uT:= @List.pairwise_iff_getElem
def a02:= @PyProof.Rows.slot_tuple_getitem
def rF:= @PySem.wpAny_loadName_local
def kA:= @Int.pow_zero
def oV:= @List.flatten_cons
def oW:= @PySem.wpAny_loadPart_at
def uU:= @List.getElem?_cons_zero
def uW:= @List.pairwise_singleton
def rG:= @beq_eq_false_iff_ne
def rH:= @PySem.mem_of_lookup
def rJ:= @PySem.Heap.get?_update_ne
def rK:= @List.getElem_of_mem
def gJ:= @Prod.ext
def oZ:= @List.ext_getElem
def aM8:= @Int.emod_eq_emod_iff_emod_sub_eq_zero
def kB:= @Int.mul_one
def rL:= @PySem.wpAny_Call_Name_kw
def rM:= @PySem.Obj.data_mapFields
def rN:= @List.zip_cons_cons
def pA:= @PySem.wpAny_execs_nil
def pB:= @PySem.wpAny_passesOwn
def uX:= @Int.emod_add_mul_ediv
def gW:= @if_false
def mU:= @Bool.true_xor
def a03:= @List.getElem?_append_left
def uY:= @Nat.mul_le_mul_right
def uZ:= @List.pairwise_append
def lL:= @PySem.wpAny_of_eq
def rO:= @Nat.lt_succ_self
def mV:= @List.map_nil
def mW:= @Int.mul_comm
def v5:= @PySem.Heap.SameBut.update
def v6:= @Nat.mul_le_mul_left
def aM9:= @PySem.plainObj_wpAny_Assign_Attribute
def a04:= @decide_eq_false_iff_not
def v7:= @PySem.W.of_hideAll
def rP:= @Nat.not_lt_zero
def a05:= @Nat.lt_of_succ_lt_succ
def v8:= @Bool.not_eq_true'
def v9:= @List.pairwise_map
def rQ:= @PySem.Heap.size_push
def iQ:= @if_true
def rR:= @PySem.isSubtype_type
def a06:= @PySem.builtinLookup_eq_fast
def rS:= @Int.natAbs_neg
def a07:= @List.length_filter_le
def vA:= @PySem.wpAny_execs_cons
def mY:= @PySem.call_meets
def vB:= @List.filter_cons
def rT:= @PySem.wpAny_standAt
def aN0:= @List.length_eraseIdx_of_lt
def pC:= @Nat.le_succ
def pE:= @Nat.pow_add
def a08:= @List.length_reverse
def a09:= @PySem.wpAny_isSubtype_exc
def vC:= @Nat.min_eq_left
def vD:= @Bool.or_eq_true
def rV:= @Nat.le_of_lt
def aN1:= @Option.isSome_iff_exists
def aN2:= @PySem.F.args_tuple_add_2
def aN3:= @PySem.AutoSeq1.wpAny_loadPart'
def aN4:= @PySem.F.args_tuple_mul_2
def aN5:= @List.mem_of_mem_eraseIdx
def rW:= @Int.pow_succ
def rX:= @Int.sub_self
def a10:= @Int.ofNat_dvd_left
def pF:= @PySem.wpAny_Name
def vE:= @PySem.wpAny_setField
def aN6:= @PySem.F.entry_tuple_add
def aN7:= @PySem.F.entry_tuple_mul
def a11:= @List.reverse_cons
def a12:= @PySem.wpAny_pyIter_list
def a13:= @Nat.le_succ_of_le
def a14:= @Bool.eq_false_iff
def a15:= @List.length_range
def a16:= @Int.natAbs_add_le
def aN8:= @List.getElem?_set_self
def aN9:= @PySem.wpAny_pyIter_rangeiter
def aO0:= @PySem.W.cellsFrom_some
def aO1:= @PySem.F.slot_tuple_add
def aO2:= @PySem.Heap.get?_update_other
def aO3:= @List.take_of_length_le
def aO4:= @PySem.F.slot_tuple_mul
def rY:= @Int.mul_add
def vF:= @PyProof.Rows.listUpdate_at
def vG:= @Bool.true_and
def vH:= @Nat.add_assoc
def a17:= @List.length_drop
def a18:= @PySem.W.kat_cons
def aO5:= @List.length_singleton
def aO6:= @PySem.Obj.isFreed_of_fields
def aO7:= @List.countP_mono_left
def aO8:= @Int.natAbs_dvd_natAbs
def aO9:= @List.take_append_drop
def aP0:= @List.getElem?_set_ne
def a19:= @Bool.eq_iff_iff
def vI:= @PySem.codeAny_mono
def a20:= @List.nodup_cons
def a21:= @List.of_mem_zip
def aP1:= @List.mem_of_getElem?
def aP2:= @PySem.Calls.evalArgs_plain
def a22:= @List.nil_append
def a23:= @Int.natCast_mul
def a24:= @PySem.typeLookup_type
def rZ:= @PyProof.Rows.size_push'
def a25:= @PySem.W.kat_yes
def aP3:= @PySem.SeqAt.eqBoolOverData
def aP4:= @Nat.pow_le_pow_right
def vJ:= @Int.sub_emod
def aP5:= @PySem.W.looks_clsIn
def a26:= @PySem.W.kat_no
def a27:= @Int.mul_le_mul
def vK:= @PyProof.Rows.seqEpoch_at
def vL:= @Int.one_mul
def vM:= @Int.mul_pos
def aP6:= @List.mem_filterMap
def aP7:= @PySem.W.callWith_K
def aP8:= @List.contains_cons
def bC7:= @List.set_cons_zero
def bC8:= @List.set_cons_succ
def a28:= @PySem.wpAny_newList
def a29:= @List.map_drop
def a30:= @Nat.le_of_dvd
def aP9:= @List.getElem?_set
def aQ0:= @bne_self_eq_false
def aQ1:= @List.ext_getElem?
def aQ2:= @Nat.lt_trichotomy
def aQ3:= @Int.lt_trichotomy
def aQ4:= @Int.dvd_mul_right
def aQ5:= @List.reverse_perm
def vO:= @PySem.wpAny_call
def vQ:= @PySem.typeIs_int
def vR:= @PySem.wpAny_rule
def aQ6:= @PySem.noFill_tuple_add
def a31:= @PySem.wpAny_typeOf
def a32:= @PySem.seqIndex_neg
def aQ7:= @PySem.AutoSeq1.idx_int
def aQ8:= @beq_self_eq_true
def aQ9:= @PySem.W.kat_kind
def aR0:= @PySem.Around.in1_units
def a33:= @Nat.sub_zero
def a34:= @Int.add_comm
def aR1:= @List.take_length
def aR2:= @List.map_reverse
def vS:= @PyProof.Rows.IsTup.new
def aR3:= @PySem.pushCells_keeps
def aR4:= @List.sum_append
def aR5:= @Int.emod_two_eq
def a35:= @PySem.seqIndex_of
def a36:= @Int.add_mul
def a37:= @Prod.mk.inj
open PySem PySem.Spec PyProof.Rows
section
variable {us vs its bmB:List Value}{a b it f t C dx R sl l fI:Addr}{P q:Program}{w:World}{h g base h':Heap}{ob o oe:Obj}{t' i j k n tk k' last kt:Nat}{ch fp:List Addr}{x qual y f1 f2:Str}{e c tg iter elt:Expr}{N loose XN ks:List Str}{A:Around}{E Q:Value->Shared->Prop}{u v vu fl:Value}{s' s:Shared}{pos pos' tpos p cpos p2 spos py tp np:Pos}{pins:List (Addr×Obj)}{op:CmpOp}{K:Frag}{st:Stmt}{es ifs elts:List Expr}{body sts:List Stmt}{lo:Int}{hi:Option Int}{kw:List (Str×Value)}{mg:Str->Option Value}{fd:FuncData}{outer:List Env}{scope:Scope}{items xs:Array Value}{YP:World->Heap->Prop}{od:Option Addr}{φ:Φ}{T:Bool}{cl:List (Str×Addr)}{cap:List (Option Nat)}{em:Value->Env->Sem Unit}{js:List Nat}{esc:List (Str×NameKind)}{newId initId:String}
namespace L2
abbrev Key:=Sum Int Str
nonrec def dW1:Key->Value->Bool
 | .inl k,v=>Value.isInt k v
 | .inr x,v=>Value.isStrOf x v
nonrec def keyH (w:World):Key->Int
 | .inl k=>hashInt k
 | .inr x=>hashStr w x
theorem jL: ∀{k:Key} {v:Value},dW1 k v=true->(∃i t,k=Sum.inl i/\v=Value.int i t)\/(∃x t,k=Sum.inr x/\v=Value.str x t)
 | .inl i,v,h=>by
  obtain⟨t,e⟩:=Value.isInt_shape (k:=i) (v:=v) h;exact .inl ⟨i,t,rfl,e⟩
 | .inr x,v,h=>by
  obtain⟨t,e⟩:=Value.isStrOf_shape (x:=x) (v:=v) h;exact .inr ⟨x,t,rfl,e⟩
theorem key_ll (a b:Int):decide ((Sum.inl a:Key)=Sum.inl b)=(a==b):=by
 by_cases e:a=b
 .subst e;simp
 .have h: ¬(Sum.inl a:Key)=Sum.inl b:=λq=>e (Sum.inl.inj q)
  rw[bZ h];exact(rG.mpr e).symm
theorem key_rr (a b:Str):decide ((Sum.inr a:Key)=Sum.inr b)=decide (a=b):=by
 by_cases e:a=b
 .subst e;simp
 .have h: ¬(Sum.inr a:Key)=Sum.inr b:=λq=>e (Sum.inr.inj q)
  rw[bZ h,bZ e]
theorem key_lr (a:Int)(b:Str):decide ((Sum.inl a:Key)=Sum.inr b)=false:=bZ (λq=>nomatch q)
theorem key_rl (a:Str)(b:Int):decide ((Sum.inr a:Key)=Sum.inl b)=false:=bZ (λq=>nomatch q)
nonrec def cO9 (prog:Program)(w:World):PySem.KeyKind prog w Key where
 is:=dW1
 hash:=keyH w
 inj:=λv a b ha hb=>by
  rcases jL ha with⟨i,t,rfl,rfl⟩| ⟨x,t,rfl,rfl⟩
  .rcases jL hb with⟨j,u,rfl,e⟩| ⟨y,u,rfl,e⟩
   .injection e with e1 _;rw[e1]
   .exact nomatch e
  .rcases jL hb with⟨j,u,rfl,e⟩| ⟨y,u,rfl,e⟩
   .exact nomatch e
   .injection e with e1 _;rw[e1]
 byValue:=λk v h=>by
  rcases jL h with⟨i,t,rfl,rfl⟩| ⟨x,t,rfl,rfl⟩<;>rfl
 pyHash:=λhv h=>by
  rcases jL hv with⟨i,t,rfl,rfl⟩| ⟨x,t,rfl,rfl⟩
  .exact wpAny_pyHash_int h
  .exact wpAny_pyHash_str h
 eqBool:=λhu hv h=>by
  rcases jL hu with⟨i,t,rfl,rfl⟩| ⟨x,t,rfl,rfl⟩
  .rcases jL hv with⟨j,u,rfl,rfl⟩| ⟨y,u,rfl,rfl⟩
   .rw[key_ll]at h;exact wpAny_eqBool_int h
   .rw[key_lr]at h;exact SeqAt.EqAt.int_str i t y u _ _ _ _ h
  .rcases jL hv with⟨j,u,rfl,rfl⟩| ⟨y,u,rfl,rfl⟩
   .rw[key_rl]at h;exact SeqAt.EqAt.str_int x t j u _ _ _ _ h
   .rw[key_rr]at h;exact wpAny_eqBool_str h
 «strs» :=λk x t v h=>by
  rcases jL h with⟨i,u,rfl,e⟩| ⟨y,u,rfl,e⟩
  .exact nomatch e
  .injection e with e1 _
   subst e1;cases v<;>rfl
end L2
open L2
namespace L2
inductive V where
 | non|bl (b:Bool)|int (i:Int)|str (x:Str)|byt (b:Array UInt8)|flt (b:UInt64)|ref (a:Addr)|ty (n:String)
 deriving DecidableEq
def RelV:V->Value->Prop
 | .non,u=>u=Value.none
 | .bl b,u=>u=Value.bool b
 | .int i,u=> ∃t,u=Value.int i t
 | .str x,u=> ∃t,u=Value.str x t
 | .byt b,u=> ∃t,u=Value.bytes b t
 | .flt b,u=> ∃t,u=Value.float b t
 | .ref a,u=>u=Value.ref a
 | .ty n,u=>u=Value.type n
abbrev Vals:List V->List Value->Prop:=Paired RelV
theorem Vals.length {xs:List V}(r:Vals xs us):xs.length=us.length:=Paired.length r
theorem Vals.get: ∀{xs:List V} {us:List Value} {i:Nat} {x:V},Vals xs us->xs[i]? =some x-> ∃u,us[i]? =some u/\RelV x u
 | _,_,_,_,.nil,e=>by simp at e
 | _,_,0,_,.cons r _,e=>by simp at e;subst e;exact⟨_,rfl,r⟩
 | _,_,i+1,x,.cons _ t,e=>by
  obtain⟨u,h1,h2⟩:=Vals.get (i:=i) (x:=x) t (by exists e)
  exact⟨u,by simpa using h1,h2⟩
theorem Vals.set {x:V}{u:Value}(r:RelV x u): ∀{xs:List V} {us:List Value} (i:Nat),Vals xs us->Vals (xs.set i x) (us.set i u)
 | _,_,_,.nil=> .nil
 | _,_,0,.cons _ t=> .cons r t
 | _,_,i+1,.cons q t=> .cons q (Vals.set r i t)
theorem Vals.append: ∀{xs ys:List V} {us ws:List Value},Vals xs us->Vals ys ws->Vals (xs++ys) (us++ws)
 | _,_,_,_,.nil,s=>s
 | _,_,_,_,.cons r t,s=> .cons r (Vals.append t s)
theorem Vals.take: ∀{xs:List V} {us:List Value} (n:Nat),Vals xs us->Vals (xs.take n) (us.take n)
 | _,_,0,_=> .nil
 | _,_,_+1,.nil=> .nil
 | _,_,n+1,.cons r t=> .cons r (Vals.take n t)
theorem Vals.drop: ∀{xs:List V} {us:List Value} (n:Nat),Vals xs us->Vals (xs.drop n) (us.drop n)
 | _,_,0,r=>r
 | _,_,_+1,.nil=> .nil
 | _,_,n+1,.cons _ t=>Vals.drop n t
def cH3:Option V->Option Value->Prop
 | some v,some u=>RelV v u
 | none,none=>True
 | _,_=>False
def KV {κ:Type}:List (κ×V)->List (κ×Value)->Prop:=Paired fun(p:κ×V) (q:κ×Value)=>p.1=q.1/\RelV p.2 q.2
nonrec def kV:Key->V
 | .inl i=> .int i
 | .inr x=> .str x
inductive HO where
 | lst (xs:List V)
 | tup (xs:List V)
 | dK (kvs:List (Key×V))|dT (kvs:List (List Key×V))
 | set (S:Int->Bool) (n:Nat)
 | ins (C dx:Addr) (fs:List (Str×V))
 | own (x:Addr)
 | xd (fs:List (Str×V))
 | met (f x:Addr)
 | rng (lo hi:Int)
 | frz (o:Obj) (u:HO)
 | tbl (ps:Array Value)
 | ext (φ:Heap->Prop)
abbrev Hp:=Addr->Option HO
nonrec def upd (H:Hp)(a:Addr)(o:HO):Hp:=λb=>if b=a then some o else H b
theorem jM {H:Hp}{o:HO}:upd H a o a=some o:=by unfold upd;rw[a8 rfl]
theorem cV {H:Hp}{o:HO}(h:b≠a):upd H a o b=H b:=by unfold upd;rw[a7 h]
theorem dX {H:Hp}{o:HO}(h:H a=some o)(h':H b=none):a≠b:=by
 intro e;subst e;rw[h]at h';cases h'
section
variable (P:Program)(w:World)
nonrec def t9 (H:Hp)(h:Heap)(a:Addr):HO->Prop
 | .lst xs=>xs.length<=sizeLine/\ ∃(its:List Value) (n:Nat),Vals xs its/\h.get? a=some {cls:= .type "list",data:= .seq its.toArray n}
 | .tup xs=>xs.length<=sizeLine/\ ∃its:List Value,Vals xs its/\IsTup h a its.toArray
 | .dK kvs=>kvs.length<=sizeLine/\(a==sysModules)=false/\ ∃vs,KV kvs vs/\h.DictOf (cO9 P w) a vs
 | .dT kvs=>kvs.length<=sizeLine/\(a==sysModules)=false/\ ∃xs:List (List Key×Addr×Value),
   Paired (fun(p:List Key×V) (q:List Key×Addr×Value)=>p.1=q.1/\H q.2.1=some (.tup<|p.1.map kV)/\RelV p.2 q.2.2) kvs xs/\
   ∃o es ep,h.get? a=some o/\o.ExactDict/\o.data= .dict es ep/\es.toList=xs.map (entryOfKey<|tupleKind<|cO9 P w)/\(xs.map (·.1)).Nodup
 | .set S n=>h.SetOf (intKind P w) a S n
 | .ins C dx fs=>H dx=some (.own a)/\fs.length<=1000/\dx≠a/\h.get? a=some (instObj C dx)/\
   ∃mA,h.Ns1 dx mA/\(∀f,cH3 (fs.lookup f)<|mA f)/\PySem.Within mA (fs.map (·.1))
 | .own _=> ∃o,h.get? a=some o
 | .xd fs=> ∃mA,h.Ns1 a mA/\ ∀f,cH3 (fs.lookup f) (mA f)
 | .rng lo hi=> ∃t u v,h.get? a=some {cls:= .type "range",data:= .fields #[.int lo t,.int hi u,.int 1 v]}
 | .frz o u=>h.get? a=some o/\t9 H h a u
 | .tbl ps=>h.get? a=some {cls:= .none,data:= .fields ps}
 | .met f x=>h.get? a=some (methodObj (.ref f)<|.ref x)
 | .ext φ=>φ h/\(∃o,h.get? a=some o)/\ ∀h1 h2:Heap,φ h1->(∀o,h1.get? a=some o->h2.get? a=some o)->φ h2
def HOk (H:Hp)(h:Heap):Prop:= ∀a o,H a=some o->t9 P w H h a o
end
section
variable {P:Program}{w:World}{H H':Hp}{h h':Heap}{a:Addr}{o:HO}
theorem t9.lt (x:t9 P w H h a o):a<h.objs.size:=by
 cases o with
 | lst xs=>obtain⟨_,_,_,_,e⟩:=x;exact aV e
 | tup xs=>obtain⟨_,_,_,p⟩:=x;exact p.lt
 | dK kvs=>obtain⟨_,_,_,_,o,_,_,e,_⟩:=x;exact aV e
 | dT kvs=>obtain⟨_,_,_,_,o,_,_,e,_⟩:=x;exact aV e
 | set S n=>obtain⟨o,_,_,_,e,_⟩:=x;exact aV e
 | ins C dx fs=>obtain⟨_,_,_,e,_⟩:=x;exact aV e
 | own y=>obtain⟨_,e⟩:=x;exact aV e
 | xd fs=>obtain⟨_,⟨_,_,_,e,_⟩,_⟩:=x;exact aV e
 | rng lo hi=>obtain⟨_,_,_,e⟩:=x;exact aV e
 | frz ob u=>obtain⟨e,_⟩:=x;exact aV e
 | tbl ps=>exact aV (show h.get? a=some _ from x)
 | met f y=>exact aV (show h.get? a=some _ from x)
 | ext φ=>obtain⟨_,⟨_,e⟩,_⟩:=x;exact aV e
theorem Paired.mapP {α β:Type}{F G:α->β->Prop}: ∀{l₁:List α} {l₂:List β},Paired F l₁ l₂->(∀a b,F a b->G a b)->Paired G l₁ l₂
 | _,_,.nil,_=> .nil
 | _,_,.cons r t,f=> .cons (f _ _ r) (Paired.mapP t f)
theorem t9.stay (x:t9 P w H h a o)(k: ∀b u,(b=a\/H b=some (.own a))->h.get? b=some u->h'.get? b=some u)
  (ho: ∀b,H b=some (.own a)->H' b=some (.own a)) (ht: ∀b xs,H b=some (.tup xs)->H' b=some (.tup xs)):t9 P w H' h' a o:=by
 induction o with
 | lst xs=>obtain⟨z,its,n,r,e⟩:=x;exact⟨z,its,n,r,k _ _ (.inl rfl) e⟩
 | tup xs=>obtain⟨z,its,r,ob,e,c⟩:=x;exact⟨z,its,r,ob,k _ _ (.inl rfl) e,c⟩
 | dK kvs=>obtain⟨z,y,vs,r,ob,es,ep,e,c⟩:=x;exact⟨z,y,vs,r,ob,es,ep,k _ _ (.inl rfl) e,c⟩
 | dT kvs=>
  obtain⟨z,y,xs,r,ob,es,ep,e,c⟩:=x;exact⟨z,y,xs,Paired.mapP r λp q z=>⟨z.1,ht _ _ z.2.1,z.2.2⟩,ob,es,ep,k _ _ (.inl rfl) e,c⟩
 | set S n=>obtain⟨ob,es,ep,t,e,c⟩:=x;exact⟨ob,es,ep,t,k _ _ (.inl rfl) e,c⟩
 | ins C dx fs=>
  obtain⟨d,z,ne,e,mA,⟨od,es,ep,e2,c⟩,r⟩:=x;exact⟨ho _ d,z,ne,k _ _ (.inl rfl) e,mA,⟨od,es,ep,k _ _ (.inr d) e2,c⟩,r⟩
 | own y=>obtain⟨ob,e⟩:=x;exact⟨ob,k _ _ (.inl rfl) e⟩
 | xd fs=>obtain⟨mA,⟨od,es,ep,e,c⟩,r⟩:=x;exact⟨mA,⟨od,es,ep,k _ _ (.inl rfl) e,c⟩,r⟩
 | rng lo hi=>obtain⟨t,u,v,e⟩:=x;exact⟨t,u,v,k _ _ (.inl rfl) e⟩
 | frz ob u ih=>obtain⟨e,q⟩:=x;exact⟨k _ _ (.inl rfl) e,ih q⟩
 | tbl ps=>
  have e:h.get? a=some {cls:= .none,data:= .fields ps}:=x;show h'.get? a=some {cls:= .none,data:= .fields ps};exact k a _ (.inl rfl) e
 | met f y=>
  have e:h.get? a=some (methodObj (.ref f)<|.ref y):=x;show h'.get? a=some (methodObj (.ref f)<|.ref y);exact k a _ (.inl rfl) e
 | ext φ=>obtain⟨p,⟨o,e⟩,st⟩:=x;exact⟨st _ _ p λo q=>k _ _ (.inl rfl) q,⟨o,k _ _ (.inl rfl) e⟩,st⟩
theorem HOk.lt (x:HOk P w H h)(e:H a=some o):a<h.objs.size:=(x a o e).lt
theorem HOk.fresh (x:HOk P w H h)(e:h.objs.size<=a):H a=none:=by
 cases q:H a with
 | none=>rfl
 | some u=>exact absurd (bI (x.lt q) e) (dU _)
theorem HOk.kept (x:HOk P w H h)(k: ∀b u,h.get? b=some u->h'.get? b=some u):HOk P w H h':=λa o e=>
 (x a o e).stay (λb u _ q=>k b u q) (λ_ q=>q) λ_ _ q=>q
theorem HOk.laid (x:HOk P w H h)(k: ∀b u,h.get? b=some u->h'.get? b=some u)(hp:h.objs.size<=a)(new:t9 P w (upd H a o) h' a o):HOk P w (upd H a o) h':=λb u e=>by
 have hn:=x.fresh hp
 by_cases hb:b=a
 .subst hb;rw[jM]at e;cases e;exact new
 .rw[cV hb]at e;exact(x b u e).stay (λc v _ q=>k c v q) (λc q=>by rw[cV<|dX q hn];exact q) λc xs q=>by rw[cV<|dX q hn];exact q
end
def Rd (H:Hp)(a:Addr)(u:HO):Prop:=H a=some u\/ ∃o,H a=some (.frz o u)
theorem Rd.ok {H:Hp}{u:HO}(r:Rd H a u)(x:HOk P w H h):t9 P w H h a u:=by
 rcases r with r| ⟨o,r⟩
 .exact x a u r
 .obtain⟨_,q⟩:=x a _ r;exact q
def Mut:Option HO->Prop
 | some (.lst _)=>True
 | some (.dK _)=>True
 | some (.dT _)=>True
 | some (.set _ _)=>True
 | some (.ins _ _ _)=>True
 | some (.ext _)=>True
 | _=>False
section
variable {P:Program}{w:World}{H:Hp}{h h':Heap}{x e:Addr}{o':HO}
theorem HOk.write (ok:HOk P w H h)(mu:Mut (H x))(he:e=x\/H e=some (.own x))(k: ∀b u,b≠e->h.get? b=some u->h'.get? b=some u)(heo: ∃u,h'.get? e=some u)
  (new:t9 P w (upd H x o') h' x o'):HOk P w (upd H x o') h':=λb u q=>by
 have nown: ∀c y,H c=some (.own y)->c≠x:=λc y r z=>by subst z;rw[r]at mu;exact mu
 have ntup: ∀c xs,H c=some (.tup xs)->c≠x:=λc xs r z=>by subst z;rw[r]at mu;exact mu
 by_cases hb:b=x
 .subst hb;rw[jM]at q;cases q;exact new
 .rw[cV hb]at q
  by_cases hbe:b=e
  .have q':H b=some (.own x):=by
    rcases he with z|z
    .exact absurd (hbe.trans z) hb
    .rw[hbe];exact z
   rw[q]at q';cases q';obtain⟨v,hv⟩:=heo;exact⟨v,by rw[hbe];exact hv⟩
  .refine(ok b u q).stay (λc v hc r=>k c v ?_ r) (λc r=>by rw[cV<|nown c b r];exact r) λc xs r=>by rw[cV<|ntup c xs r];exact r
   rcases hc with rfl|hc
   .exact hbe
   .rintro rfl;rcases he with z|z
    .exact nown c b hc z
    .rw[hc]at z;cases z;exact hb rfl
end
structure Un (fs ex:List Addr)(H H':Hp)(h h':Heap):Prop where
 keep: ∀b o,h.get? b=some o->H b=none->b ∉ fs->b ∉ ex->h'.get? b=some o
 slot: ∀b o,h.get? b=some o->H b=none->b∈fs->b ∉ ex-> ∃sl,h'.get? b=some {o with slots:=sl}
 free: ∀b o,h.get? b=some o->H b=none->b ∉ ex->H' b=none
 there: ∀b o,h.get? b=some o->b ∉ ex-> ∃o',h'.get? b=some o'
 tups: ∀b xs,H b=some (.tup xs)->H' b=some (.tup xs)
 frzs: ∀b o u,H b=some (.frz o u)->H' b=some (.frz o u)
 tbls: ∀b ps,H b=some (.tbl ps)-> ∃more,H' b=some (.tbl<|ps++more)
section
variable {fs fs' ex ex':List Addr}{H H1 H2:Hp}{h h1 h2 h':Heap}{a x e:Addr}{o:HO}
theorem Un.any (u:Un fs ex H H1 h h1)(q:h.get? b=some ob)(n:H b=none)(hx:b ∉ ex): ∃sl,h1.get? b=some {ob with slots:=sl}:=by
 by_cases hb:b∈fs
 .exact u.slot b ob q n hb hx
 .exact⟨ob.slots,u.keep b ob q n hb hx⟩
theorem Un.kept (k: ∀b u,h.get? b=some u->h'.get? b=some u):Un fs ex H H h h':=
 ⟨λb ob q _ _ _=>k b ob q,λb ob q _ _ _=>⟨ob.slots,k b ob q⟩,λ_ _ _ n _=>n,λb ob q _=>⟨ob,k b ob q⟩,λ_ _ q=>q,λ_ _ _ q=>q,λ_ ps q=>⟨#[],by rw[q];simp⟩⟩
theorem Un.refl:Un fs ex H H h h:=Un.kept λ_ _ q=>q
theorem Un.laid (k: ∀b u,h.get? b=some u->h'.get? b=some u)(hp:h.objs.size<=a)(hn:H a=none):Un fs ex H (upd H a o) h h' where
 keep:=λb u q _ _ _=>k b u q
 slot:=λb u q _ _ _=>⟨u.slots,k b u q⟩
 free:=λb u q n _=>by rw[cV<|b9<|bI (aV q) hp];exact n
 there:=λb u q _=>⟨u,k b u q⟩
 tups:=λb xs q=>by rw[cV<|dX q hn];exact q
 frzs:=λb u xs q=>by rw[cV<|dX q hn];exact q
 tbls:=λb ps q=>⟨#[],by rw[cV<|dX q hn,q];simp⟩
theorem Un.write (mu:Mut (H x))(he:e=x\/H e=some (.own x))(k: ∀b u,b≠e->h.get? b=some u->h'.get? b=some u)(heo: ∃u,h'.get? e=some u):Un fs ex H (upd H x o) h h':=by
 have hx: ∀b,H b=none->b≠x:=λb n z=>by subst z;rw[n]at mu;exact mu
 have hb: ∀b,H b=none->b≠e:=λb n z=>by
  subst z;rcases he with r|r
  .exact hx b n r
  .rw[n]at r;cases r
 have hm: ∀b u,H b=some u-> ¬Mut (some u)->b≠x:=λb u q nm z=>by subst z;rw[q]at mu;exact nm mu
 refine⟨λb u q n _ _=>k b u (hb b n) q,λb u q n _ _=>⟨u.slots,k b u (hb b n) q⟩,λb u q n _=>by rw[cV<|hx b n];exact n,λb u q _=> ?_,
  λb xs q=>by rw[cV<|hm b _ q λz=>z];exact q,λb u xs q=>by rw[cV<|hm b _ q λz=>z];exact q,λb ps q=>⟨#[],by rw[cV<|hm b _ q λz=>z,q];simp⟩⟩
 by_cases hbe:b=e
 .subst hbe;exact heo
 .exact⟨u,k b u hbe q⟩
end
nonrec def trk (h:Heap)(H:Hp):List Addr:=(List.range h.objs.size).filter λa=>(H a).isSome
nonrec def bX2 (h:Heap)(H:Hp):Heap:=PySem.W.hideAll h (trk h H)
theorem cW5 (h:Heap)(H:Hp):(bX2 h H).objs.size=h.objs.size:=PySem.W.hideAll_size _ _
theorem d36 {H:Hp}(e:h.get? b=some o)(n:H b=none):(bX2 h H).get? b=some o:=
 PySem.W.hideAll_get _ e λhm=>by
  have q:(H b).isSome=true:=(eS.mp hm).2;rw[n]at q;simp at q
theorem dK5 {H:Hp}(e:(bX2 h H).get? b=some o):h.get? b=some o/\H b=none:=by
 have e':h.get? b=some o:=v7 (trk h H) e;refine⟨e',?_⟩;cases q:H b with
 | none=>rfl
 | some x=>
  have hm:b∈trk h H:=eS.mpr ⟨cJ.mpr<|aV e',by simp[q]⟩
  have z:(bX2 h H).get? b=none:=PySem.W.hideAll_none (trk h H) hm;rw[z]at e;cases e
nonrec def dK6 (g h:Heap)(L:Addr):List (Addr×Obj):=(List.range h.objs.size).filterMap λa=>if a=L\/(g.get? a).isSome=true then none else(h.get? a).map λo=>(a,o)
nonrec def iA (g h:Heap)(L d:Addr):List (Addr×Obj):=(dK6 g h L).filter λp=>decide (p.1≠d)
structure Mod (K:Frag)(mg:Str->Option Value)(base:Heap):Prop where
 kin:K.In base
 glob:base.Ns mainGlobals mg
 blt: ∃mb,base.Ns builtinsNs mb/\ ∀x:Str,x≠"__name__"->mb x=bootBuiltins x
 nolimit:base.NoLimit
structure Cx where
 prog:Program
 w:World
 K:Frag
 mg:Str->Option Value
 base:Heap
 A:Around
 N:List Str
 s₀:Shared
 H₀:Hp
 env:Env
 outer:List Env
 stack:List Env
 ex:List Addr
 fn:Str->Bool
 calm:Bool
 pn:List (Addr×Obj)
 xe:Value->Shared->Prop
nonrec def frs (l:List Env):List Addr:=l.filterMap (·.frame)
noncomputable abbrev Cx.fs (X:Cx):List Addr:=frs X.outer
def Vis (sc:Scope)(x:Str):Prop:=sc.names.lookup x=some .local\/sc.names.lookup x=some .cell\/sc.names.lookup x=some .free
def Loc (sc:Scope)(x:Str):Prop:=sc.names.lookup x=some .local\/sc.names.lookup x=some .cell
def Look (env:Env)(h:Heap)(m:Str->Option Value)(x:Str)(u:Value):Prop:=
 (env.kindOf x=some .local/\m x=some u)\/((env.kindOf x=some .cell\/env.kindOf x=some .free)/\ ∃c,env.cells.lookup x=some c/\h.IsCell c (some u))
structure Cx.Ok (X:Cx):Prop where
 mod:Mod X.K X.mg X.base
 kind:X.env.scope.kind= .function
 glob:X.env.globals=mainGlobals
 blt:X.env.builtins=builtinsNs
 above:X.s₀.heap.objs.size<=X.env.locals
 inj: ∀x y c,X.env.cells.lookup x=some c->X.env.cells.lookup y=some c->x=y
 has: ∀x,(X.env.kindOf x=some .cell\/X.env.kindOf x=some .free)-> ∃c,X.env.cells.lookup x=some c
 cab: ∀x c,X.fn x=true->X.env.cells.lookup x=some c->X.s₀.heap.objs.size<=c
 hd:X.calm=true->X.A.handled=none
 frames:X.A.frames=some X.stack
 stk:X.stack=X.outer\/(X.stack=X.env::X.outer/\X.env.frame=some X.env.locals)
 exf: ∀b∈X.ex,b≠X.env.locals/\ ∀x c,X.env.cells.lookup x=some c->c≠b
 bs: ∀b o,X.base.get? b=some o->X.s₀.heap.get? b=some o/\X.H₀ b=none
 bsz:X.base.objs.size<=X.s₀.heap.objs.size
 noex: ∀b o,X.base.get? b=some o->b ∉ X.ex
 exfs: ∀b∈X.ex,b ∉ X.fs
 funs:X.s₀.heap.FunFrames X.base X.outer
 frf: ∀b∈X.fs,X.H₀ b=none
structure Inv (X:Cx)(pins:List (Addr×Obj))(σ:List (Option V))(H:Hp)(s:Shared):Prop where
 ok:X.Ok
 os:s.os=X.s₀.os
 bare:AllBare s.gens
 base:Un X.fs X.ex X.H₀ H X.s₀.heap s.heap
 loc: ∃m,s.heap.Ns X.env.locals m/\ ∀(i:Nat) (x:Str) (v:V),X.N[i]? =some x->σ[i]? =some (some v)->Vis X.env.scope x-> ∃u,RelV v u/\Look X.env s.heap m x u
 cell: ∀x c,X.env.cells.lookup x=some c-> ∃v,s.heap.IsCell c v
 free:H X.env.locals=none
 freeC: ∀x c,X.env.cells.lookup x=some c->H c=none
 pin: ∀p∈X.pn++pins,s.heap.get? p.1=some p.2/\H p.1=none/\p.1≠X.env.locals/\p.1 ∉ X.fs/\ ∀v,p.2.data≠ .cell v
 hok:HOk X.prog X.w H s.heap
 len:σ.length=X.N.length
section
variable {X:Cx}{pins:List (Addr×Obj)}{σ:List (Option V)}{H H':Hp}{s:Shared}{h':Heap}
theorem Cx.Ok.nofr (ok:X.Ok)(e:X.base.get? b=some o):b ∉ X.fs:=λhb=>by
 have:=(ok.funs.mem hb).1;rw[e]at this;cases this
theorem Inv.bs (I:Inv X pins σ H s): ∀b o,X.base.get? b=some o->s.heap.get? b=some o/\H b=none:=λb o e=>
 ⟨I.base.keep b o (I.ok.bs b o e).1 (I.ok.bs b o e).2 (I.ok.nofr e)<|I.ok.noex b o e,I.base.free b o (I.ok.bs b o e).1 (I.ok.bs b o e).2<|I.ok.noex b o e⟩
theorem Inv.bk (I:Inv X pins σ H s): ∀b o,X.base.get? b=some o->s.heap.get? b=some o:=λb o e=>(I.bs b o e).1
theorem Inv.mod (I:Inv X pins σ H s):Mod X.K X.mg X.base:=I.ok.mod
theorem Inv.kIn (I:Inv X pins σ H s):X.K.In s.heap:=I.ok.mod.kin.keeps I.bk
theorem Inv.nolimit (I:Inv X pins σ H s):s.heap.NoLimit:=I.ok.mod.nolimit.keeps I.bk
theorem Inv.lt (I:Inv X pins σ H s):X.env.locals<s.heap.objs.size:=let ⟨_,hn,_⟩:=I.loc;hn.lt
theorem Inv.sz (I:Inv X pins σ H s):X.s₀.heap.objs.size<=s.heap.objs.size:=aN I.ok.above (rV I.lt)
theorem Inv.nofs (I:Inv X pins σ H s)(h:s.heap.objs.size<=a):a ∉ X.fs:=λhb=>by
 obtain⟨_,o,ho,_⟩:=I.ok.funs.mem hb;exact absurd (bI (aV ho)<|aN I.sz h) (dU _)
theorem Inv.cne (I:Inv X pins σ H s): ∀x c,X.env.cells.lookup x=some c->c≠X.env.locals:=λx c e z=>by
 obtain⟨v,o,ho,hd⟩:=I.cell x c e;obtain⟨m,⟨o',es,ep,ho',hd',_⟩,_⟩:=I.loc;rw[z,ho']at ho;cases ho;rw[hd']at hd;cases hd
theorem Inv.funs (I:Inv X pins σ H s):s.heap.FunFrames X.base X.outer:=by
 have all: ∀(l:List Env),(∀b∈frs l,b∈X.fs)->X.s₀.heap.FunFrames X.base l->s.heap.FunFrames X.base l:=by
  intro l
  induction l with
  | nil=>intro _ _;trivial
  | cons env r ih=>
   intro hs hl;obtain⟨hk,⟨L,o,hf,hn,ho,hd⟩,hr⟩:=hl;have hL:L∈X.fs:=hs L (by unfold frs;rw[j8,hf];exact b7)
   obtain⟨sl,e⟩:=I.base.slot L o ho (I.ok.frf L hL) hL λz=>I.ok.exfs L z hL
   exact⟨hk,⟨L,_,hf,hn,e,hd⟩,ih (λb hb=>hs b (by unfold frs;rw[j8,hf];exact bM _ hb)) hr⟩
 exact all X.outer (λ_ hb=>hb) I.ok.funs
theorem Inv.stack (I:Inv X pins σ H s):s.heap.FunFrames X.base X.stack:=by
 rcases I.ok.stk with e| ⟨e,hf⟩
 .rw[e];exact I.funs
 .rw[e];obtain⟨m,hn,_⟩:=I.loc;refine .cons (by rw[I.ok.kind];decide) hf hn ?_ I.funs
  exact mQ (aN I.ok.bsz I.ok.above)
theorem Inv.stkSub (I:Inv X pins σ H s): ∀b∈frs X.stack,b∈X.env.locals::X.fs:=λb hb=>by
 rcases I.ok.stk with e| ⟨e,hf⟩
 .rw[e]at hb;exact bM _ hb
 .rw[e]at hb;unfold frs at hb;rw[j8,hf]at hb;exact hb
theorem Inv.stkFree (I:Inv X pins σ H s): ∀b∈frs X.stack,H b=none:=λb hb=>by
 rcases aT.mp (I.stkSub b hb)with e|hb
 .rw[e];exact I.free
 .obtain⟨_,o,ho,_⟩:=I.ok.funs.mem hb;exact I.base.free b o ho (I.ok.frf b hb) λz=>I.ok.exfs b z hb
theorem Inv.step {g':Array GenState}{d':Drawn}(I:Inv X pins σ H s)
  (hch: ∀b∈ch,(b∈X.ex\/X.s₀.heap.objs.size<=b)/\b≠X.env.locals/\(∀x c,X.env.cells.lookup x=some c->c≠b)/\ ∀p∈X.pn++pins,p.1≠b)
  (keep: ∀b o,b≠X.env.locals->b ∉ X.fs->b ∉ ch->s.heap.get? b=some o->H b=none->h'.get? b=some o)
  (slot: ∀b o,b≠X.env.locals->b∈X.fs->b ∉ ch->s.heap.get? b=some o->H b=none-> ∃sl,h'.get? b=some {o with slots:=sl}) (free: ∀b o,b ∉ ch->s.heap.get? b=some o->H b=none->H' b=none)
  (there: ∀b o,b ∉ ch->s.heap.get? b=some o-> ∃o',h'.get? b=some o')
  (tups: ∀b xs,H b=some (.tup xs)->H' b=some (.tup xs)) (frzs: ∀b o u,H b=some (.frz o u)->H' b=some (.frz o u)) (tbls: ∀b ps,H b=some (.tbl ps)-> ∃more,H' b=some (.tbl<|ps++more))
  (ns: ∀m,s.heap.Ns X.env.locals m->h'.Ns X.env.locals m) (hok:HOk X.prog X.w H' h') (hg:AllBare g') :
  Inv X pins σ H' {s with heap:=h',gens:=g',drawn:=d',toks:=t'}:=by
 have neL: ∀b o,X.s₀.heap.get? b=some o->b≠X.env.locals:=λb o e=>b9 (bI (aV e) I.ok.above)
 have neC: ∀b o,X.s₀.heap.get? b=some o->b ∉ X.ex->b ∉ ch:=λb o e hx hb=>by
  rcases(hch b hb).1 with z|z
  .exact hx z
  .exact absurd (bI (aV e) z) (dU _)
 have cellK: ∀x c,X.env.cells.lookup x=some c-> ∀v,s.heap.IsCell c v->h'.IsCell c v:=λx c e v ⟨o,ho,hd⟩=>by
  have nch:c ∉ ch:=λz=>(hch c z).2.2.1 x c e rfl
  by_cases hc:c∈X.fs
  .obtain⟨sl,q⟩:=slot c o (I.cne x c e) hc nch ho (I.freeC x c e);exact⟨_,q,hd⟩
  .exact⟨o,keep c o (I.cne x c e) hc nch ho<|I.freeC x c e,hd⟩
 refine⟨I.ok,I.os,hg,⟨λb o e n hb hx=> ?_,λb o e n hb hx=> ?_,λb o e n hx=> ?_,λb o e hx=> ?_,λb xs e=>tups b xs (I.base.tups b xs e),λb o xs e=>frzs b o xs (I.base.frzs b o xs e),λb ps e=> ?_⟩,?_,λx c e=> ?_,?_,λx c e=> ?_,λp hp=> ?_,hok,I.len⟩
 .exact keep b o (neL b o e) hb (neC b o e hx) (I.base.keep b o e n hb hx) (I.base.free b o e n hx)
 .obtain⟨sl,e1⟩:=I.base.slot b o e n hb hx;obtain⟨sl',e2⟩:=slot b _ (neL b o e) hb (neC b o e hx) e1 (I.base.free b o e n hx);exact⟨sl',e2⟩
 .obtain⟨o',e1⟩:=I.base.there b o e hx;exact free b o' (neC b o e hx) e1 (I.base.free b o e n hx)
 .obtain⟨o',e1⟩:=I.base.there b o e hx;exact there b o' (neC b o e hx) e1
 .obtain⟨m1,e1⟩:=I.base.tbls b ps e;obtain⟨m2,e2⟩:=tbls b _ e1;exact⟨m1++m2,by rw[e2,Array.append_assoc]⟩
 .obtain⟨m,hn,hl⟩:=I.loc;refine⟨m,ns m hn,λi x v e1 e2 e3=> ?_⟩
  obtain⟨u,r,l⟩:=hl i x v e1 e2 e3;refine⟨u,r,?_⟩;rcases l with l| ⟨k,c,e,z⟩
  .exact .inl l
  .exact .inr ⟨k,c,e,cellK x c e _ z⟩
 .obtain⟨v,z⟩:=I.cell x c e;exact⟨v,cellK x c e v z⟩
 .obtain⟨m,⟨o,_,_,ho,_⟩,_⟩:=I.loc;exact free _ o (λz=>(hch _ z).2.1 rfl) ho I.free
 .obtain⟨v,o,ho,hd⟩:=I.cell x c e;exact free c o (λz=>(hch c z).2.2.1 x c e rfl) ho (I.freeC x c e)
 .obtain⟨e,n,ne,nf,d⟩:=I.pin p hp;have nch:p.1 ∉ ch:=λz=>(hch p.1 z).2.2.2 p hp rfl
  exact⟨keep p.1 p.2 ne nf nch e n,free p.1 p.2 nch e n,ne,nf,d⟩
theorem Inv.un (I:Inv X pins σ H s)(u:Un X.fs [] H H' s.heap h')(hok:HOk X.prog X.w H' h'):Inv X pins σ H' {s with heap:=h',toks:=t'}:=by
 obtain⟨m,⟨o,es,ep,ho,r⟩,_⟩:=id I.loc;obtain⟨sl,hL⟩:=u.any ho I.free ae
 exact I.step (g':=s.gens) (d':=s.drawn) (ch:=[]) (λ_ z=>nomatch z) (λb o _ hb _ e n=>u.keep b o e n hb ae) (λb o _ hb _ e n=>u.slot b o e n hb ae) (λb o _ e n=>u.free b o e n ae) (λb o _ e=>u.there b o e ae) u.tups u.frzs u.tbls (λm' hm=>by
  obtain⟨o',es',ep',ho',r'⟩:=hm;rw[ho]at ho';cases ho';exact⟨_,es',ep',hL,r'⟩) hok I.bare
theorem Inv.call {g':Array GenState}{d':Drawn}(I:Inv X pins σ H s)(u:Un (frs X.stack) ch H H' s.heap h')(hok:HOk X.prog X.w H' h')(hg:AllBare g')
  (hch: ∀b∈ch,(b∈X.ex\/X.s₀.heap.objs.size<=b)/\b≠X.env.locals/\(∀x c,X.env.cells.lookup x=some c->c≠b)/\ ∀p∈X.pn++pins,p.1≠b) :
  Inv X pins σ H' {s with heap:=h',gens:=g',drawn:=d',toks:=t'}:=by
 obtain⟨m,⟨o,es,ep,ho,r⟩,_⟩:=id I.loc;obtain⟨sl,hL⟩:=u.any ho I.free λz=>(hch _ z).2.1 rfl
 exact I.step (ch:=ch) hch (λb o hL hb hc e n=>u.keep b o e n (λz=>(aT.mp<|I.stkSub b z).elim hL hb) hc) (λb o _ _ hc e n=>u.any e n hc) (λb o hc e n=>u.free b o e n hc) (λb o hc e=>u.there b o e hc) u.tups u.frzs u.tbls (λm' hm=>by
  obtain⟨o',es',ep',ho',r'⟩:=hm;rw[ho]at ho';cases ho';exact⟨_,es',ep',hL,r'⟩) hok hg
theorem Inv.turned (I:Inv X pins σ H s)(k: ∀b o,b≠it->s.heap.get? b=some o->h'.get? b=some o)(hn:H it=none)(hL:it≠X.env.locals)
  (h1:it∈X.ex\/X.s₀.heap.objs.size<=it) (h2: ∀x c,X.env.cells.lookup x=some c->c≠it) (h3: ∀p∈X.pn++pins,p.1≠it):Inv X pins σ H {s with heap:=h',toks:=t'}:=by
 have nit: ∀b u,H b=some u->b≠it:=λb u e z=>by rw[z,hn]at e;cases e
 refine I.step (g':=s.gens) (d':=s.drawn) (ch:=[it]) (λb hb=> ?_) (λb o _ _ hc e _=>k b o (λz=>hc (by simp[z])) e) (λb o _ _ hc e _=>⟨o.slots,k b o (λz=>hc (by simp[z])) e⟩) (λ_ _ _ _ n=>n)
  (λb o hc e=>⟨o,k b o (λz=>hc (by simp[z])) e⟩) (λ_ _ e=>e) (λ_ _ _ e=>e) (λb ps e=>⟨#[],by rw[e];simp⟩) (λm hm=> ?_) (λb u e=> ?_) I.bare
 .have e:b=it:=by exists hb
  subst e;exact⟨h1,hL,h2,h3⟩
 .obtain⟨o,es,ep,ho,r⟩:=hm;exact⟨o,es,ep,k _ o (Ne.symm hL) ho,r⟩
 .refine(I.hok b u e).stay (λc v hc q=>k c v ?_ q) (λ_ q=>q) λ_ _ q=>q
  rcases hc with z|z
  .rw[z];exact nit b u e
  .exact nit c _ z
theorem Inv.tok (I:Inv X pins σ H s)(t:Nat):Inv X pins σ H {s with toks:=t}:=I.un (h':=s.heap) (t':=t) Un.refl I.hok
theorem Inv.kept (I:Inv X pins σ H s)(k: ∀b u,s.heap.get? b=some u->h'.get? b=some u):Inv X pins σ H {s with heap:=h',toks:=t'}:=I.un (Un.kept k) (I.hok.kept k)
theorem Inv.laid {o:HO}(I:Inv X pins σ H s)(k: ∀b u,s.heap.get? b=some u->h'.get? b=some u)(hp:s.heap.objs.size<=a)(new:t9 X.prog X.w (upd H a o) h' a o) :
  Inv X pins σ (upd H a o) {s with heap:=h',toks:=t'}:=I.un (Un.laid k hp<|I.hok.fresh hp) (I.hok.laid k hp new)
theorem Inv.write {x e:Addr}{o:HO}(I:Inv X pins σ H s)(mu:Mut (H x))(he:e=x\/H e=some (.own x))(k: ∀b u,b≠e->s.heap.get? b=some u->h'.get? b=some u)(heo: ∃u,h'.get? e=some u)
  (new:t9 X.prog X.w (upd H x o) h' x o):Inv X pins σ (upd H x o) {s with heap:=h',toks:=t'}:=I.un (Un.write mu he k heo) (I.hok.write mu he k heo new)
theorem Inv.pins_of {pins':List (Addr×Obj)}(I:Inv X pins σ H s)(h: ∀p∈pins',s.heap.get? p.1=some p.2/\H p.1=none/\p.1≠X.env.locals/\p.1 ∉ X.fs/\ ∀v,p.2.data≠ .cell v):Inv X pins' σ H s:=
 ⟨I.ok,I.os,I.bare,I.base,I.loc,I.cell,I.free,I.freeC,λp hp=>(bG.mp hp).elim (λz=>I.pin p (gS _ z)) (h p),I.hok,I.len⟩
theorem c65 (hN:N.Nodup)(a:N[i]? =some x)(b:N[j]? =some x):i=j:=by
 obtain⟨h1,e1⟩:=l8.mp a;obtain⟨h2,e2⟩:=l8.mp b;exact(List.getElem_inj hN).mp (e1.trans e2.symm)
theorem cW6 {M:Model}{v:V}{Q:Unit->Shared->Prop}(I:Inv X pins σ H s)(hN:X.N.Nodup)(hi:X.N[i]? =some x)(hx:Loc X.env.scope x)(r:RelV v u)
  (h: ∀s',Inv X pins (σ.set i<|some v) H s'->(∃a,SameBut a s.heap s'.heap/\(a=X.env.locals\/X.env.cells.lookup x=some a))->Q () s') (hf:X.fn x=true\/X.env.scope.names.lookup x=some .local:=by walk_at "z"):wpAny M A (storeName X.env x u) Q E s:=by
 obtain⟨m,hn,hl⟩:=id I.loc;have hcls:(X.env.scope.kind== .class||(X.env.scope.kind== .module&&X.env.locals != X.env.globals))=false:=by rw[I.ok.kind];rfl
 have hiσ:i<σ.length:=by rw[I.len];exact(l8.mp hi).1
 have cne:=I.cne;have tracked: ∀{a:Addr} {h':Heap},(∃o,s.heap.get? a=some o/\H a=none)->SameBut a s.heap h'->HOk X.prog X.w H h':=λ{a h'} ha hs b ob e=>by
  obtain⟨_,_,hfree⟩:=ha;refine(I.hok b ob e).stay (λc w' hc q=>(hs.2 c ?_).trans q) (λ_ q=>q) λ_ _ q=>q
  rintro rfl;rcases hc with rfl|hc
  .rw[hfree]at e;cases e
  .rw[hfree]at hc;cases hc
 rcases hx with hk|hk
 .refine wpAny_storeName_local hk hn (λh' hn' hs=> ?_) hcls
  obtain⟨oL,_,_,hoL,_⟩:=id hn;refine h _ ⟨I.ok,I.os,I.bare,⟨λb o e n hb hx=> ?_,λb o e n hb hx=> ?_,I.base.free,λb o e hx=> ?_,I.base.tups,I.base.frzs,I.base.tbls⟩,⟨_,hn',λj y v' e1 e2 e3=> ?_⟩,λy c e=> ?_,I.free,I.freeC,λp hp=> ?_,tracked ⟨oL,hoL,I.free⟩ hs,by exists I.len⟩ ⟨_,hs,.inl rfl⟩
  .exact(hs.2 b<|b9<|bI (aV e) I.ok.above).trans (I.base.keep b o e n hb hx)
  .obtain⟨sl,e1⟩:=I.base.slot b o e n hb hx;exact⟨sl,(hs.2 b<|b9<|bI (aV e) I.ok.above).trans e1⟩
  .obtain⟨o',e1⟩:=I.base.there b o e hx;exact⟨o',(hs.2 b<|b9<|bI (aV e) I.ok.above).trans e1⟩
  .by_cases hj:j=i
   .subst hj;rw[hi]at e1;cases e1;rw[aN8 hiσ]at e2;cases e2;exact⟨u,r,.inl ⟨hk,ae⟩⟩
   .rw[aP0<|Ne.symm hj]at e2;obtain⟨u',r',q⟩:=hl j y v' e1 e2 e3;refine⟨u',r',?_⟩;rcases q with⟨k,e⟩| ⟨k,c,e,z⟩
    .refine .inl ⟨k,?_⟩
     have:y≠x:=λe=>hj (c65 hN e1<|e▸hi)
     simp[this,e]
    .exact .inr ⟨k,c,e,z.sameBut hs<|cne y c e⟩
  .obtain⟨w',z⟩:=I.cell y c e;exact⟨w',z.sameBut hs<|cne y c e⟩
  .obtain⟨e,n,ne,nf,d⟩:=I.pin p hp;exact⟨(hs.2 p.1 ne).trans e,n,ne,nf,d⟩
 .have hfn:X.fn x=true:=by
   rcases hf with z|z
   .exact z
   .rw[z]at hk;cases hk
  obtain⟨c,hc⟩:=I.ok.has x (.inl hk);obtain⟨w',z⟩:=I.cell x c hc;refine wpAny_storeName_cell I.ok.kind hk hc z (λh' hc' hs=> ?_)
  obtain⟨oc,hoc,hocd⟩:=id z;refine h {s with heap:=h'} ⟨I.ok,I.os,I.bare,⟨λb o e n hb hx=> ?_,λb o e n hb hx=> ?_,I.base.free,λb o e hx=> ?_,I.base.tups,I.base.frzs,I.base.tbls⟩,⟨m,hn.sameBut hs<|Ne.symm<|cne x c hc,λj y v' e1 e2 e3=> ?_⟩,λy c' e=> ?_,I.free,I.freeC,λp hp=> ?_,tracked ⟨oc,hoc,I.freeC x c hc⟩ hs,by exists I.len⟩ ⟨c,hs,.inr hc⟩
  .exact(hs.2 b<|b9<|bI (aV e)<|I.ok.cab x c hfn hc).trans (I.base.keep b o e n hb hx)
  .obtain⟨sl,e1⟩:=I.base.slot b o e n hb hx;exact⟨sl,(hs.2 b<|b9<|bI (aV e)<|I.ok.cab x c hfn hc).trans e1⟩
  .obtain⟨o',e1⟩:=I.base.there b o e hx;exact⟨o',(hs.2 b<|b9<|bI (aV e)<|I.ok.cab x c hfn hc).trans e1⟩
  .by_cases hj:j=i
   .subst hj;rw[hi]at e1;cases e1;rw[aN8 hiσ]at e2;cases e2;exact⟨u,r,.inr ⟨.inl hk,c,hc,hc'⟩⟩
   .rw[aP0<|Ne.symm hj]at e2;obtain⟨u',r',q⟩:=hl j y v' e1 e2 e3;refine⟨u',r',?_⟩;rcases q with q| ⟨k,c',e,z'⟩
    .exact .inl q
    .refine .inr ⟨k,c',e,z'.sameBut hs ?_⟩
     rintro rfl;exact hj (c65 hN e1<|I.ok.inj _ _ _ e hc▸hi)
  .by_cases hcc:c'=c
   .subst hcc;exact⟨_,hc'⟩
   .obtain⟨w2,z2⟩:=I.cell y c' e;exact⟨w2,z2.sameBut hs hcc⟩
  .obtain⟨e,n,ne,nf,d⟩:=I.pin p hp;refine⟨(hs.2 p.1 ?_).trans e,n,ne,nf,d⟩;intro q;rw[q,hoc]at e;have q':oc=p.2:=iN e;exact d w' (by rw[<-q'];exact hocd)
theorem aV1 {M:Model}{v:V}{Q:Unit->Shared->Prop}(I:Inv X pins σ H s)(hN:X.N.Nodup)(hi:X.N[i]? =some x)(hx:Loc X.env.scope x)(r:RelV v u)
  (h: ∀s',Inv X pins (σ.set i<|some v) H s'->Q () s') (hf:X.fn x=true\/X.env.scope.names.lookup x=some .local:=by walk_at "z"):wpAny M A (storeName X.env x u) Q E s:=
 cW6 I hN hi hx r (λs' I' _=>h s' I') hf
theorem Inv.call' (I:Inv X pins σ H s)(ho:s'.os=s.os)(u:Un (frs X.stack) ch H H' s.heap s'.heap)(hok:HOk X.prog X.w H' s'.heap)(hg:AllBare s'.gens)
  (hch: ∀b∈ch,(b∈X.ex\/X.s₀.heap.objs.size<=b)/\b≠X.env.locals/\(∀x c,X.env.cells.lookup x=some c->c≠b)/\ ∀p∈X.pn++pins,p.1≠b):Inv X pins σ H' s':=by
 obtain⟨h',g',d',t',o'⟩:=s';have e:o'=s.os:=ho;subst e;exact I.call (g':=g') (t':=t') (d':=d') u hok hg hch
end
abbrev XK:=Value->Option Addr->Hp->Prop
abbrev St:=List (Option V)
abbrev VK:=V->Hp->Prop
abbrev TE:=St->Hp->VK->Prop
abbrev TT:=St->Hp->(Bool->Hp->Prop)->Prop
abbrev TA:=St->Hp->(List V->Hp->Prop)->Prop
structure bO1 where
 nx:St->Hp->Prop
 rt:VK
 bk:St->Hp->Prop:=λ_ _=>False
 ct:St->Hp->Prop:=λ_ _=>False
abbrev TS:=bO1->St->Hp->Prop
def EP (X:Cx)(pins:List (Addr×Obj))(σ:St)(Q:VK)(u:Value)(s':Shared):Prop:= ∃v H',Inv X pins σ H' s'/\RelV v u/\Q v H'
def TP (X:Cx)(pins:List (Addr×Obj))(σ:St)(Q:Bool->Hp->Prop)(b:Bool)(s':Shared):Prop:= ∃H',Inv X pins σ H' s'/\Q b H'
def AP (X:Cx)(pins:List (Addr×Obj))(σ:St)(Q:List V->Hp->Prop)(us:List Value)(s':Shared):Prop:= ∃vs H',Inv X pins σ H' s'/\Vals vs us/\Q vs H'
def SP (X:Cx)(pins:List (Addr×Obj))(D:bO1)(f:Flow)(s':Shared):Prop:=
 match f with
 | .next=> ∃σ' H',Inv X pins σ' H' s'/\D.nx σ' H'
 | .brk=> ∃σ' H',Inv X pins σ' H' s'/\D.bk σ' H'
 | .cont=> ∃σ' H',Inv X pins σ' H' s'/\D.ct σ' H'
 | .ret u=> ∃v σ' H',Inv X pins σ' H' s'/\RelV v u/\D.rt v H'
def PE (X:Cx)(e:Expr)(t:TE):Prop:=
 ∀(pins:List (Addr×Obj)) (s:Shared) (σ:St) (H:Hp) (Q:VK),Inv X pins σ H s->t σ H Q->X∩(eval e X.env) (EP X pins σ Q) X.xe s
def PT (X:Cx)(e:Expr)(t:TT):Prop:=
 ∀(pins:List (Addr×Obj)) (s:Shared) (σ:St) (H:Hp) (Q:Bool->Hp->Prop),Inv X pins σ H s->t σ H Q->X∩(isTrue e X.env<|eval e X.env) (TP X pins σ Q) X.xe s
def PW (X:Cx)(e:Expr)(t:TT):Prop:=
 ∀(whole:Sem Value) (pins:List (Addr×Obj)) (s:Shared) (σ:St) (H:Hp) (Q:Bool->Hp->Prop),Inv X pins σ H s->t σ H Q->X∩(isTrue e X.env whole) (TP X pins σ Q) X.xe s
theorem PW.pt {X:Cx}{t:TT}(h:PW X e t):PT X e t:=h _
def PA (X:Cx)(es:List Expr)(t:TA):Prop:=
 ∀(pos:Pos) (pins:List (Addr×Obj)) (s:Shared) (σ:St) (H:Hp) (Q:List V->Hp->Prop),Inv X pins σ H s->t σ H Q->X∩(spliced<|backTo pos<|starEach es X.env) (AP X pins σ Q) X.xe s
def PS (X:Cx)(st:Stmt)(t:TS):Prop:=
 ∀(pins:List (Addr×Obj)) (s:Shared) (σ:St) (H:Hp) (D:bO1),Inv X pins σ H s->t D σ H->X∩(exec st X.env) (SP X pins D) X.xe s
def PSs (X:Cx)(st:List Stmt)(t:TS):Prop:=
 ∀(pins:List (Addr×Obj)) (s:Shared) (σ:St) (H:Hp) (D:bO1),Inv X pins σ H s->t D σ H->X∩(execs st X.env) (SP X pins D) X.xe s
theorem thn {α:Type}{t:Sem α}{Q Q':α->Shared->Prop}{M:Model}(h:wpAny M A t Q E s)(hQ: ∀a s,Q a s->Q' a s):wpAny M A t Q' E s:=bD h hQ λ_ _ x=>x
section
variable {X:Cx}
def aR6 (i:Nat):TE:=λσ H Q=> ∃v,σ[i]? =some (some v)/\Q v H
def tC (v:V):TE:=λ_ H Q=>Q v H
theorem pe_var (hN:X.N[i]? =some x)(hv:Vis X.env.scope x)(hd:⇑(x∪0))(hcd:⇑((x==("__classdict__":Str))=false)):PE X (.Name x pos) (aR6 i):=by
 intro pins s σ H Q I h;obtain⟨v,e,h⟩:=h;obtain⟨m,hn,hl⟩:=I.loc;obtain⟨u,r,l⟩:=hl i x v hN e hv;have fin:EP X pins σ Q u s:=⟨v,H,I,r,h⟩;rcases l with⟨hk,hm⟩| ⟨hk,c,hc,hcell⟩
 .exact pF (rF I.ok.kind hk hn hm fin) hd
 .rcases hk with hk|hk
  .exact pF (wpAny_loadName_cell I.ok.kind hk hc hcell fin) hd
  .exact pF (wpAny_loadName_free I.ok.kind hk hc hcell fin hcd) hd
theorem pe_int {i j pos}:PE X (.Constant (.int i) j pos) (tC<|.int i):=λ_ _ _ H _ I h=>wpAny_Constant_int ⟨.int i,H,I.tok _,⟨_,rfl⟩,h⟩
theorem pe_bl {b j pos}:PE X (.Constant (.bool b) j pos) (tC<|.bl b):=λ_ _ _ H _ I h=>Constant_bool ⟨.bl b,H,I,rfl,h⟩
theorem pe_non {j pos}:PE X (.Constant .none j pos) (tC .non):=λ_ _ _ H _ I h=>Constant_none ⟨.non,H,I,rfl,h⟩
theorem pe_str {x j pos}:PE X (.Constant (.str x) j pos) (tC<|.str x):=λ_ _ _ H _ I h=>Calls.Constant_str ⟨.str x,H,I.tok _,⟨_,rfl⟩,h⟩
def Gl (X:Cx)(x:Str):Prop:=X.env.kindOf x=some .globalImplicit
theorem x9 {σ:St}{H:Hp}(I:Inv X pins σ H s)(hg:Gl X x)(hm:X.mg x=some u)(h:Q u s)
  (hd:⇑(x∪0)):X∩(eval (.Name x pos) X.env) Q E s:=
 Calls.Name_function_global I.ok.kind hg (Calls.loadGlobal_global (by rw[I.ok.glob];exact I.mod.glob.keeps I.bk) hm h) hd
theorem a38 {σ:St}{H:Hp}(I:Inv X pins σ H s)(hg:Gl X x)(hm:X.mg x=none)(hv:bootBuiltins x=some u)(h:Q u s)
  (hn:⇑(x≠"__name__")) (hd:⇑(x∪0)):X∩(eval (.Name x pos) X.env) Q E s:=by
 obtain⟨mb,h1,h2⟩:=I.mod.blt;exact Calls.Name_function_global I.ok.kind hg (Calls.loadGlobal_builtin (by rw[I.ok.glob];exact I.mod.glob.keeps I.bk) hm (by rw[I.ok.blt];exact h1.keeps I.bk) ((h2 x hn).trans hv) h) hd
theorem cP0 {v:V}(hg:Gl X x)(hm:X.mg x=some u)(r:RelV v u)(hd:⇑(x∪0)):PE X (.Name x pos) (tC v):=
 λ_ _ _ H _ I h=>x9 I hg hm ⟨v,H,I,r,h⟩ hd
variable {a b:Expr}{ta tb:TE}{pos:Pos}
def PC (X:Cx)(op:CmpOp)(a b:Expr)(t:TE):Prop:=
 ∀(pins:List (Addr×Obj)) (s:Shared) (σ:St) (H:Hp) (Q:VK),Inv X pins σ H s->t σ H Q->
  X∩(eval a X.env) (λv s₁=>X∩(eval b X.env) (λu s₂=>X∩(compareOp op v u) (EP X pins σ Q) X.xe s₂) X.xe s₁) X.xe s
theorem c66 (b:Expr)(h:op≠ .In)(h2:op≠ .NotIn):behindInMarks op b=false:=by
 have e1:(op==CmpOp.In)=false:=by cases op<;>first|rfl|exact absurd rfl h
 have e2:(op==CmpOp.NotIn)=false:=by cases op<;>first|rfl|exact absurd rfl h2
 cases b<;>simp[behindInMarks,e1,e2]
def tIsN (ta:TE):TE:=λσ H Q=>ta σ H λx H1=>Q (.bl<|decide (x= .non)) H1
def dW2 (ta:TE):TE:=λσ H Q=>ta σ H λx H1=>Q (.bl<|!decide (x= .non)) H1
theorem RelV.none_iff {x:V}(r:RelV x v):(v==Value.none)=decide (x= .non):=by
 cases x with
 | non=>cases r;rfl
 | bl _=>cases r;rfl
 | int _=>obtain⟨t,rfl⟩:=r;rfl
 | str _=>obtain⟨t,rfl⟩:=r;rfl
 | byt _=>obtain⟨t,rfl⟩:=r;rfl
 | flt _=>obtain⟨t,rfl⟩:=r;rfl
 | ref _=>cases r;rfl
 | ty _=>cases r;rfl
theorem pc_isN {j pos'}(ha:PE X a ta):PC X .Is a (.Constant .none j pos') (tIsN ta):=by
 intro pins s σ H Q I h;refine thn (ha pins s σ H _ I h) λv s1 ⟨x,H1,I1,r1,q1⟩=> ?_
 exact Constant_none (is_none_gen ⟨.bl _,H1,I1,by rw[r1.none_iff];rfl,q1⟩)
theorem dK7 {j pos'}(ha:PE X a ta):PC X .IsNot a (.Constant .none j pos') (dW2 ta):=by
 intro pins s σ H Q I h;refine thn (ha pins s σ H _ I h) λv s1 ⟨x,H1,I1,r1,q1⟩=> ?_
 exact Constant_none (isnot_none_gen ⟨.bl _,H1,I1,by rw[r1.none_iff];rfl,q1⟩)
def tB (t:TE):TT:=λσ H Q=>t σ H λx H1=> ∃c,x= .bl c/\Q c H1
theorem pe_cmp {t:TE}(h:PC X op a b t)(h1:behindInMarks op b=false:=by first|exact c66 _ ac ac|rfl):PE X (.Compare a [op] [b] pos) t:=λpins s σ H Q I hw=>wpAny_Compare1 (h pins s σ H Q I hw) h1
theorem cH4 {t:TE}(h:PC X op a b t)(h1:behindInMarks op b=false:=by first|exact c66 _ ac ac|rfl):PT X (.Compare a [op] [b] pos) (tB t):=by
 intro pins s σ H Q I hw;refine wpAny_isTrue_Compare1 (thn (h pins s σ H _ I hw) λv s1 h1=>thn h1 λu s2 h2=>thn h2 λc s3 ⟨x,H1,I1,r1,q1⟩=> ?_) h1
 obtain⟨d,rfl,q⟩:=q1;cases r1;exact mT ⟨H1,I1,q⟩
theorem pt_val {t:TE}(h:PE X e t)(he: ∀whole,isTrue e X.env whole=(do let v<-whole;standAt e.pos;holding [v] (truthy v)):=by intro _;rfl):PT X e (tB t):=by
 intro pins s σ H Q I hw;refine isTrue_plain (thn (h pins s σ H _ I hw) λv s1 ⟨x,H1,I1,r1,q1⟩=> ?_) (he _)
 obtain⟨d,rfl,q⟩:=q1;cases r1;exact mT ⟨H1,I1,q⟩
variable {tA tB':TT}{iA:List Expr}
def tAnd (t u:TT):TT:=λσ H Q=>t σ H λc H1=>if c=true then u σ H1 Q else Q false H1
def tOr (t u:TT):TT:=λσ H Q=>t σ H λc H1=>if c=true then Q true H1 else u σ H1 Q
def tNot (t:TT):TT:=λσ H Q=>t σ H λc H1=>Q (!c) H1
theorem dK8 (ha:PT X a tA):PW X (.BoolOp .And [a] pos) tA:=by
 intro wh pins s σ H Q I h;refine isTrue_and (thn (ha pins s σ H Q I h) λc s1 e=> ?_)
 cases c with
 | true=>exact isTrue_and_nil e
 | false=>exact e
theorem pw_or1 (ha:PT X a tA):PW X (.BoolOp .Or [a] pos) tA:=by
 intro wh pins s σ H Q I h;refine isTrue_or (thn (ha pins s σ H Q I h) λc s1 e=> ?_)
 cases c with
 | false=>exact isTrue_or_nil e
 | true=>exact e
theorem pw_and (ha:PT X a tA)(hb:PW X (.BoolOp .And (b::iA) pos) tB'):PW X (.BoolOp .And (a::b::iA) pos) (tAnd tA tB'):=by
 intro wh pins s σ H Q I h;refine isTrue_and (thn (ha pins s σ H _ I h) λc s1 ⟨H1,I1,q1⟩=> ?_)
 cases c with
 | true=>exact hb wh pins s1 σ H1 Q I1 q1
 | false=>exact⟨H1,I1,q1⟩
theorem pw_or (ha:PT X a tA)(hb:PW X (.BoolOp .Or (b::iA) pos) tB'):PW X (.BoolOp .Or (a::b::iA) pos) (tOr tA tB'):=by
 intro wh pins s σ H Q I h;refine isTrue_or (thn (ha pins s σ H _ I h) λc s1 ⟨H1,I1,q1⟩=> ?_)
 cases c with
 | true=>exact⟨H1,I1,q1⟩
 | false=>exact hb wh pins s1 σ H1 Q I1 q1
theorem pt_not (ha:PT X a tA):PT X (.UnaryOp .Not a pos) (tNot tA):=by
 intro pins s σ H Q I h;exact isTrue_not (ha pins s σ H (λc H1=>Q (!c) H1) I h)
def tAndV (ta tb:TE):TE:=λσ H Q=>ta σ H λx H1=> ∃c,x= .bl c/\if c=true then tb σ H1 Q else Q (.bl false) H1
def tOrV (ta tb:TE):TE:=λσ H Q=>ta σ H λx H1=> ∃c,x= .bl c/\if c=true then Q (.bl true) H1 else tb σ H1 Q
def tNotV (ta:TE):TE:=λσ H Q=>ta σ H λx H1=> ∃c,x= .bl c/\Q (.bl<|!c) H1
theorem pe_one {op}{t:TE}(h:PE X a t):PE X (.BoolOp op [a] pos) t:=λpins s σ H Q I hw=>BoolOp_one (h pins s σ H Q I hw)
theorem pe_and (ha:PE X a ta)(hb:PE X (.BoolOp .And (b::iA) pos) tb):PE X (.BoolOp .And (a::b::iA) pos) (tAndV ta tb):=by
 intro pins s σ H Q I h;refine BoolOp_and (thn (ha pins s σ H _ I h) λv s1 ⟨x,H1,I1,r1,q1⟩=> ?_)
 obtain⟨c,rfl,q1⟩:=q1;cases r1;refine mT ?_;cases c with
 | true=>exact hb pins s1 σ H1 Q I1 q1
 | false=>exact⟨.bl false,H1,I1,rfl,q1⟩
theorem pe_or (ha:PE X a ta)(hb:PE X (.BoolOp .Or (b::iA) pos) tb):PE X (.BoolOp .Or (a::b::iA) pos) (tOrV ta tb):=by
 intro pins s σ H Q I h;refine BoolOp_or (thn (ha pins s σ H _ I h) λv s1 ⟨x,H1,I1,r1,q1⟩=> ?_)
 obtain⟨c,rfl,q1⟩:=q1;cases r1;refine mT ?_;cases c with
 | false=>exact hb pins s1 σ H1 Q I1 q1
 | true=>exact⟨.bl true,H1,I1,rfl,q1⟩
theorem pe_not (ha:PE X a ta):PE X (.UnaryOp .Not a pos) (tNotV ta):=by
 intro pins s σ H Q I h;refine UnaryOp_ (thn (ha pins s σ H _ I h) λv s1 ⟨x,H1,I1,r1,q1⟩=> ?_)
 obtain⟨c,rfl,q1⟩:=q1;cases r1;exact not_of (mT ⟨.bl<|!c,H1,I1,rfl,q1⟩)
def tIf (t:TT)(ta tb:TE):TE:=λσ H Q=>t σ H λc H1=>if c=true then ta σ H1 Q else tb σ H1 Q
theorem d37 (hc:PT X c tA)(ha:PE X a ta)(hb:PE X b tb):PE X (.IfExp c a b pos) (tIf tA ta tb):=by
 intro pins s σ H Q I h;refine wpAny_IfExp (thn (hc pins s σ H _ I h) λd s1 ⟨H1,I1,q1⟩=> ?_)
 cases d with
 | true=>exact ha pins s1 σ H1 Q I1 q1
 | false=>exact hb pins s1 σ H1 Q I1 q1
end
def SqL (K:Frag)(H:Hp)(a:Addr)(xs:List V):Prop:=
 Rd H a (.lst xs)\/
  ∃(o:Obj) (its:Array Value) (n:Nat),K.lookup a=some o/\o.cls= .type "list"/\o.dict=none/\o.data= .seq its n/\its.size<=sizeLine/\Vals xs its.toList
def SqT (K:Frag)(H:Hp)(a:Addr)(xs:List V):Prop:=
 Rd H a (.tup xs)\/
  ∃(o:Obj) (its:Array Value) (n:Nat),K.lookup a=some o/\o.cls= .type "tuple"/\o.data= .seq its n/\its.size<=sizeLine/\Vals xs its.toList
nonrec def absV:Value->Option V
 | .none=>some .non
 | .bool b=>some (.bl b)
 | .int i _=>some (.int i)
 | .str x _=>some (.str x)
 | .bytes b _=>some (.byt b)
 | .float b _=>some (.flt b)
 | .ref a=>some (.ref a)
 | .type n=>some (.ty n)
 | _=>none
theorem RelV.abs {x:V}(r:RelV x u):absV u=some x:=by
 cases x with
 | non=>cases r;rfl
 | bl _=>cases r;rfl
 | int _=>obtain⟨t,rfl⟩:=r;rfl
 | str _=>obtain⟨t,rfl⟩:=r;rfl
 | byt _=>obtain⟨t,rfl⟩:=r;rfl
 | flt _=>obtain⟨t,rfl⟩:=r;rfl
 | ref _=>cases r;rfl
 | ty _=>cases r;rfl
theorem RelV.inj {x y:V}(r:RelV x u)(q:RelV y u):x=y:=iN (r.abs.symm.trans q.abs)
theorem Vals.inj: ∀{xs ys:List V} {us:List Value},Vals xs us->Vals ys us->xs=ys
 | _,_,_,.nil,.nil=>rfl
 | _,_,_,.cons r t,.cons r' t'=>by rw[r.inj r',Vals.inj t t']
section
variable {X:Cx}{pins:List (Addr×Obj)}{σ:St}{H:Hp}{s:Shared}{a:Addr}{xs ys:List V}
theorem SqL.of (h:H a=some (.lst xs)):SqL K H a xs:= .inl (.inl h)
theorem Inv.list (I:Inv X pins σ H s)(h:SqL X.K H a xs): ∃its:List Value,Vals xs its/\PlainL s.heap a its.toArray/\xs.length<=sizeLine:=by
 rcases h with h| ⟨o,its,n,hk,hc,hd,hs,hz,r⟩
 .obtain⟨z,its,n,r,e⟩:=h.ok I.hok;exact⟨its,r,⟨_,n,e,rfl,rfl,rfl⟩,z⟩
 .refine⟨its.toList,r,⟨o,n,I.kIn a o hk,hc,hd,by exists hs⟩,?_⟩
  have e:=r.length;simp only[oS]at e
  lia
theorem Inv.tuple (I:Inv X pins σ H s)(h:SqT X.K H a xs): ∃its:List Value,Vals xs its/\IsTup s.heap a its.toArray/\xs.length<=sizeLine:=by
 rcases h with h| ⟨o,its,n,hk,hc,hs,hz,r⟩
 .obtain⟨z,its,r,p⟩:=h.ok I.hok;exact⟨its,r,p,z⟩
 .refine⟨its.toList,r,⟨o,I.kIn a o hk,hc,n,by exists hs⟩,?_⟩
  have e:=r.length;simp only[oS]at e
  lia
theorem Inv.list_inj (I:Inv X pins σ H s)(h:SqL X.K H a xs)(h':SqL X.K H a ys):xs=ys:=by
 obtain⟨its,r,⟨o,n,e,_,_,d⟩,_⟩:=I.list h;obtain⟨its',r',⟨o',n',e',_,_,d'⟩,_⟩:=I.list h';rw[e]at e';cases e';rw[d]at d'
 injection d' with d1 _
 have:its=its':=by simpa using bO toList d1
 subst this;exact r.inj r'
theorem Inv.tuple_inj (I:Inv X pins σ H s)(h:SqT X.K H a xs)(h':SqT X.K H a ys):xs=ys:=by
 obtain⟨its,r,⟨o,e,_,n,d⟩,_⟩:=I.tuple h;obtain⟨its',r',⟨o',e',_,n',d'⟩,_⟩:=I.tuple h';rw[e]at e';cases e';rw[d]at d'
 injection d' with d1 _
 have:its=its':=by simpa using bO toList d1
 subst this;exact r.inj r'
end
noncomputable abbrev Cx.wish (X:Cx)(E:Value->Shared->Prop):Cx:={X with xe:=E}
noncomputable abbrev Cx.nox (X:Cx):Cx:=X.wish λ_ _=>False
theorem Cx.Ok.wish {X:Cx}(ok:X.Ok)(E:Value->Shared->Prop):(X.wish E).Ok:=
 ⟨ok.mod,ok.kind,ok.glob,ok.blt,ok.above,ok.inj,ok.has,ok.cab,ok.hd,ok.frames,ok.stk,ok.exf,ok.bs,ok.bsz,ok.noex,ok.exfs,ok.funs,ok.frf⟩
theorem Cx.Ok.unwish {X:Cx}(ok:(X.wish E).Ok):X.Ok:=
 ⟨ok.mod,ok.kind,ok.glob,ok.blt,ok.above,ok.inj,ok.has,ok.cab,ok.hd,ok.frames,ok.stk,ok.exf,ok.bs,ok.bsz,ok.noex,ok.exfs,ok.funs,ok.frf⟩
section
variable {X:Cx}{pins:List (Addr×Obj)}{σ:St}{H:Hp}{s:Shared}{E:Value->Shared->Prop}
theorem Inv.wish (I:Inv X pins σ H s)(E:Value->Shared->Prop):Inv (X.wish E) pins σ H s:=⟨I.ok.wish E,I.os,I.bare,I.base,I.loc,I.cell,I.free,I.freeC,I.pin,I.hok,I.len⟩
theorem Inv.unwish (I:Inv (X.wish E) pins σ H s):Inv X pins σ H s:=⟨I.ok.unwish,I.os,I.bare,I.base,I.loc,I.cell,I.free,I.freeC,I.pin,I.hok,I.len⟩
theorem SP.unwish {D:bO1}{f:Flow}(h:SP (X.wish E) pins D f s'):SP X pins D f s':=by
 cases f with
 | next=>obtain⟨σ',H',I,q⟩:=h;exact⟨σ',H',I.unwish,q⟩
 | brk=>obtain⟨σ',H',I,q⟩:=h;exact⟨σ',H',I.unwish,q⟩
 | cont=>obtain⟨σ',H',I,q⟩:=h;exact⟨σ',H',I.unwish,q⟩
 | ret u=>obtain⟨v,σ',H',I,r,q⟩:=h;exact⟨v,σ',H',I.unwish,r,q⟩
theorem PSs.nox {st:List Stmt}{t:TS}(h:PSs X.nox st t):PSs X st t:=λpins s σ H D I hw=>
 bD (h pins s σ H D (I.wish _) hw) (λ_ _ q=>q.unwish) λ_ _ z=>False.elim z
end
section
variable {X:Cx}{st:Stmt}{iA:List Stmt}{t u:TS}{e:Expr}{te:TE}{pos:Pos}
def tNext:TS:=λD σ H=>D.nx σ H
def tSeq (t u:TS):TS:=λD σ H=>t {D with nx:=u D} σ H
theorem dK9:PSs X [] tNext:=λ_ _ σ H _ I h=>pA ⟨σ,H,I,h⟩
theorem zB (h1:PS X st t)(h2:PSs X iA u):PSs X (st::iA) (tSeq t u):=by
 intro pins s σ H D I h;refine vA (thn (h1 pins s σ H {D with nx:=u D} I h) λf s1 q=> ?_)
 cases f with
 | next=>
  obtain⟨σ',H',I',q⟩:=q;exact h2 pins s1 σ' H' D I' q
 | ret v=>exact q
 | brk=>exact q
 | cont=>exact q
theorem bX3 (h1:PS X st t):PSs X [st] t:=by
 intro pins s σ H D I h;refine vA (thn (h1 pins s σ H D I h) λf s1 q=> ?_)
 cases f with
 | next=>exact pA q
 | ret v=>exact q
 | brk=>exact q
 | cont=>exact q
theorem Inv.quiet {σ:St}{H:Hp}(I:Inv X pins σ H s):interactive X.env=false:=by simp[interactive,I.ok.kind]
def tDrop (te:TE):TS:=λD σ H=>te σ H λ_ H1=>D.nx σ H1
theorem bX4 (he:PE X e te)(hs:↥(swapsWith e none pos.line X.env=pure false)):PS X (.Expr e pos) (tDrop te):=by
 intro pins s σ H D I h;exact wpAny_Expr_any (thn (he pins s σ H _ I h) λv s1 ⟨x,H1,I1,r1,q1⟩=>⟨σ,H1,I1,q1⟩) I.quiet hs
def tRet (te:TE):TS:=λD σ H=>te σ H D.rt
theorem d38 (he:PE X e te):PS X (.Return (some e) pos) (tRet te):=by
 intro pins s σ H D I h;exact wpAny_Return_some (thn (he pins s σ H _ I h) λv s1 ⟨x,H1,I1,r1,q1⟩=>⟨x,σ,H1,I1,r1,q1⟩)
def tIfS (c:TT)(t u:TS):TS:=λD σ H=>c σ H λb H1=>if b=true then t D σ H1 else u D σ H1
theorem dW3 {a b:List Stmt}{tc:TT}(hc:PT X c tc)(ha:PSs X a t)(hb:PSs X b u):PS X (.If c a b pos) (tIfS tc t u):=by
 intro pins s σ H D I h;refine wpAny_If (thn (hc pins s σ H _ I h) λd s1 ⟨H1,I1,q1⟩=> ?_)
 cases d with
 | true=>exact ha pins s1 σ H1 D I1 q1
 | false=>exact hb pins s1 σ H1 D I1 q1
def tNever:TS:=λ_ _ _=>False
theorem d39:PS X st tNever:=λ_ _ _ _ _ _ h=>h.elim
end
abbrev TG:=V->St->Hp->(St->Hp->Prop)->Prop
abbrev TGs:=List V->St->Hp->(St->Hp->Prop)->Prop
def PG (X:Cx)(target:Expr)(t:TG):Prop:=
 ∀(pins:List (Addr×Obj)) (s:Shared) (σ:St) (H:Hp) (v:V) (u:Value) (Q:St->Hp->Prop),Inv X pins σ H s->RelV v u->t v σ H Q->
  X∩(assign target X.env u) (λ_ s'=> ∃σ' H',Inv X pins σ' H' s'/\Q σ' H') X.xe s
def PGs (X:Cx)(ts:List Expr)(t:TGs):Prop:=
 ∀(pins:List (Addr×Obj)) (s:Shared) (σ:St) (H:Hp) (vs:List V) (us:List Value) (Q:St->Hp->Prop),Inv X pins σ H s->Vals vs us->t vs σ H Q->
  X∩(assignInOrder ((assignEach ts X.env).map (·.2)) us) (λ_ s'=> ∃σ' H',Inv X pins σ' H' s'/\Q σ' H') X.xe s
abbrev d40:=V->V->V->Hp->(Hp->Prop)->Prop
def PSet (X:Cx)(t:d40):Prop:=
 ∀(pins:List (Addr×Obj)) (s:Shared) (σ:St) (H:Hp) (o i v:V) (ov iv u:Value) (Q:Hp->Prop),Inv X pins σ H s->RelV o ov->RelV i iv->RelV v u->t o i v H Q->
  X∩(setItem ov iv u) (λ_ s'=> ∃H',Inv X pins σ H' s'/\Q H') X.xe s
abbrev TIp:=V->V->Hp->VK->Prop
def PIp (X:Cx)(op:Operator)(t:TIp):Prop:=
 ∀(pins:List (Addr×Obj)) (s:Shared) (σ:St) (H:Hp) (x y:V) (v u:Value) (Q:VK),Inv X pins σ H s->RelV x v->RelV y u->t x y H Q->
  X∩(inplaceOp op v u) (EP X pins σ Q) X.xe s
section
variable {X:Cx}{pos:Pos}
def aA5 (i:Nat):TG:=λv σ H Q=>Q (σ.set i<|some v) H
theorem cA (hN:X.N.Nodup)(hi:X.N[i]? =some x)(hx:Loc X.env.scope x)(hf:X.fn x=true\/X.env.scope.names.lookup x=some .local:=by walk_at "z"):PG X (.Name x pos) (aA5 i):=by
 intro pins s σ H v u Q I r h;exact wpAny_assign_Name (aV1 I hN hi hx r (λs' I'=>⟨_,H,I',h⟩) hf)
def gNil:TGs:=λvs σ H Q=>vs=[]/\Q σ H
def gCons (t:TG)(u:TGs):TGs:=λvs σ H Q=> ∃v r,vs=v::r/\t v σ H λσ' H'=>u r σ' H' Q
theorem dL0:PGs X [] gNil:=by
 intro pins s σ H vs us Q I r h;obtain⟨e,h⟩:=h;subst e;cases r;exact assignInOrder_nil ⟨σ,H,I,h⟩
theorem d41 {e:Expr}{es:List Expr}{t:TG}{u:TGs}(h1:PG X e t)(h2:PGs X es u)
  (hs:↥((assignEach (e::es) X.env).map (·.2)=assign e X.env::(assignEach es X.env).map (·.2))):PGs X (e::es) (gCons t u):=by
 intro pins s σ H vs us Q I r h;obtain⟨v,vr,e1,h⟩:=h;subst e1;cases r with
 | cons r rr=>
  rw[hs];refine assignInOrder_cons (thn (h1 pins s σ H _ _ _ I r h) λ_ s1 ⟨σ1,H1,I1,q1⟩=> ?_)
  exact h2 pins s1 σ1 H1 _ _ Q I1 rr q1
def gTup (K:Frag)(n:Nat)(t:TGs):TG:=λv σ H Q=> ∃a xs,v= .ref a/\SqT K H a xs/\xs.length=n/\t xs σ H Q
theorem pg_tup {t:TGs}(hc:X.calm=true)(h:PGs X es t)
  (hn:↥((assignEach es X.env).length=n)) (hst:↥((assignEach es X.env).findIdx? (·.1)=none)):PG X (.Tuple es k pos) (gTup X.K n t):=by
 intro pins s σ H v u Q I r hw;obtain⟨a,xs,e1,hq,hl,hw⟩:=hw;subst e1;cases r;obtain⟨its,rv,ht,hz⟩:=I.tuple hq;refine assign_Tuple_tuple (I.ok.hd hc) ht (by simp[hn,<-hl,rv.length]) hst λh' hx=> ?_
 have I1:Inv X pins σ H {s with heap:=h'}:=I.kept (t':=s.toks) λb o e=>hx b o (b9<|aV e) e
 exact h pins _ σ H xs _ Q I1 (by exists rv) hw
def gSub (to ti:TE)(t:d40):TG:=λv σ H Q=>to σ H λo H1=>ti σ H1 λi H2=>t o i v H2 λH3=>Q σ H3
theorem pg_sub {o i:Expr}{to ti:TE}{t:d40}(ho:PE X o to)(hi:PE X i ti)(hs:PSet X t)
  (ha: ∀v,assign (.Subscript o i pos) X.env v=(do
   let ov<-holding [v] (eval o X.env)
   let iv<-holding [v,ov] (eval i X.env)
   standAt pos
   holding [v,ov,iv] (setItem ov iv v)
   release [v,ov,iv] []):=by intro _;rfl):PG X (.Subscript o i pos) (gSub to ti t):=by
 intro pins s σ H v u Q I r h;rw[ha];refine a9 (iO<|thn (ho pins s σ H _ I h) λov s1 ⟨x,H1,I1,r1,q1⟩=> ?_)
 refine a9 (iO<|thn (hi pins s1 σ H1 _ I1 q1) λiv s2 ⟨y,H2,I2,r2,q2⟩=> ?_)
 refine a9 (rT<|a9<|iO<|thn (hs pins s2 σ H2 x y v ov iv u _ I2 r1 r2 r q2) λ_ s3 ⟨H3,I3,q3⟩=> ?_)
 exact wpAny_release ⟨σ,H3,I3,q3⟩
def dL1 (te:TE)(g:TG):TS:=λD σ H=>te σ H λx H1=>g x σ H1 D.nx
theorem d42 {te:TE}{g:TG}(he:PE X e te)(hg:PG X tg g)(hs:↥(swapsWithSole [tg] e pos.line X.env=pure false))(hw:↥(swappedStores [tg] e X.env=pure none))
  (h1:↥((assignEach [tg] X.env).map (·.2)=[assign tg X.env])):PS X (.Assign [tg] e pos) (dL1 te g):=by
 intro pins s σ H D I h;refine wpAny_Assign_stores (thn (he pins s σ H _ I h) λv s1 ⟨x,H1,I1,r1,q1⟩=> ?_) hs hw
 rw[h1];exact thn (hg pins s1 σ H1 x v _ I1 r1 q1) λ_ s2 q=>q
theorem ps_set {te:TE}(hN:X.N.Nodup)(hi:X.N[i]? =some x)(hx:Loc X.env.scope x)(he:PE X e te)(hs:↥(swapsWith e (some<|.Name x pos') pos.line X.env=pure false))(hf:X.fn x=true\/X.env.scope.names.lookup x=some .local:=by walk_at "z") :
  PS X (.Assign [.Name x pos'] e pos) (dL1 te<|aA5 i):=by
 intro pins s σ H D I h;refine wpAny_Assign_Name (thn (he pins s σ H _ I h) λv s1 ⟨y,H1,I1,r1,q1⟩=> ?_) hs
 exact aV1 I1 hN hi hx r1 (λs2 I2=>⟨_,H1,I2,q1⟩) hf
def tAug (i:Nat)(te:TE)(ti:TIp):TS:=λD σ H=> ∃x,σ[i]? =some (some x)/\te σ H λy H1=>ti x y H1 λz H2=>D.nx (σ.set i<|some z) H2
theorem ps_aug {te:TE}{op:Operator}{ti:TIp}(hN:X.N.Nodup)(hi:X.N[i]? =some x)(hx:Loc X.env.scope x)(he:PE X e te)(ho:PIp X op ti)(hf:X.fn x=true\/X.env.scope.names.lookup x=some .local:=by walk_at "z") :
  PS X (.AugAssign (.Name x pos') op e pos) (tAug i te ti):=by
 intro pins s σ H D I h;obtain⟨v,e1,h⟩:=h;obtain⟨m,hn,hl⟩:=I.loc;have vis:Vis X.env.scope x:=by rcases hx with k|k;exact .inl k;exact .inr (.inl k)
 obtain⟨u,r,l⟩:=hl i x v hi e1 vis;refine wpAny_AugAssign_Name ?_;have go:X∩(eval e X.env) (λw s₂=>X∩(inplaceOp op u w) (λr s₃=>X∩(storeName X.env x r) (λ_=>SP X pins D .next) X.xe s₃) X.xe s₂) X.xe s:=by
  refine thn (he pins s σ H _ I h) λw s1 ⟨y,H1,I1,r1,q1⟩=> ?_
  refine thn (ho pins s1 σ H1 v y u w _ I1 r r1 q1) λz s2 ⟨zv,H2,I2,r2,q2⟩=> ?_
  exact aV1 I2 hN hi hx r2 (λs3 I3=>⟨_,H2,I3,q2⟩) hf
 rcases l with⟨hk,hm⟩| ⟨hk,c,hc,hcell⟩
 .exact rF I.ok.kind hk hn hm go
 .rcases hk with hk|hk
  .exact wpAny_loadName_cell I.ok.kind hk hc hcell go
  .rcases hx with k|k
   .have:X.env.scope.names.lookup x=some .free:=hk;rw[k]at this;cases this
   .have:X.env.scope.names.lookup x=some .free:=hk;rw[k]at this;cases this
def tAugS (to ti te:TE)(tget:V->V->Hp->VK->Prop)(tip:TIp)(tset:d40):TS:=λD σ H=>to σ H λo H1=>ti σ H1 λi H2=>tget o i H2 λx H3=>te σ H3 λy H4=>tip x y H4 λz H5=>tset o i z H5 λH6=>D.nx σ H6
def PGet (X:Cx)(t:V->V->Hp->VK->Prop):Prop:=
 ∀(pins:List (Addr×Obj)) (s:Shared) (σ:St) (H:Hp) (o i:V) (ov iv:Value) (Q:VK),Inv X pins σ H s->RelV o ov->RelV i iv->t o i H Q->
  X∩(getItem ov iv) (EP X pins σ Q) X.xe s
theorem dL2 {o i:Expr}{to ti te:TE}{tget:V->V->Hp->VK->Prop}{tip:TIp}{tset:d40}{op:Operator}(ho:PE X o to)(hi:PE X i ti)(hg:PGet X tget)(he:PE X e te)(hp:PIp X op tip)(hs:PSet X tset)
  (ha: ∀ov iv new,augStore i ov iv new=(do holding [new,ov,iv] (setItem ov iv new);release [new,ov,iv] [];pure .next):=by intros;rfl):PS X (.AugAssign (.Subscript o i tpos) op e pos) (tAugS to ti te tget tip tset):=by
 intro pins s σ H D I h;refine wpAny_AugAssign_SubscriptAny (thn (ho pins s σ H _ I h) λov s1 ⟨x1,H1,I1,r1,q1⟩=> ?_) ha
 refine thn (hi pins s1 σ H1 _ I1 q1) λiv s2 ⟨x2,H2,I2,r2,q2⟩=> ?_
 refine thn (hg pins s2 σ H2 x1 x2 ov iv _ I2 r1 r2 q2) λold s3 ⟨x3,H3,I3,r3,q3⟩=> ?_
 refine thn (he pins s3 σ H3 _ I3 q3) λv s4 ⟨x4,H4,I4,r4,q4⟩=> ?_
 refine thn (hp pins s4 σ H4 x3 x4 old v _ I4 r3 r4 q4) λnew s5 ⟨x5,H5,I5,r5,q5⟩=> ?_
 exact thn (hs pins s5 σ H5 x1 x2 x5 ov iv new _ I5 r1 r2 r5 q5) λ_ s6 ⟨H6,I6,q6⟩=>⟨σ,H6,I6,q6⟩
def ipI (f:Int->Int->Int):TIp:=λx y H Q=> ∃i j,x= .int i/\y= .int j/\Q (.int<|f i j) H
theorem ip_add:PIp X .Add (ipI λi j=>i+j):=by
 intro pins s σ H x y v u Q I r1 r2 h;obtain⟨i,j,e1,e2,q⟩:=h;subst e1;subst e2;obtain⟨t,rfl⟩:=r1;obtain⟨t',rfl⟩:=r2;exact iadd_int ⟨.int _,H,I.tok _,⟨_,rfl⟩,q⟩
theorem d43:PIp X .Sub (ipI λi j=>i-j):=by
 intro pins s σ H x y v u Q I r1 r2 h;obtain⟨i,j,e1,e2,q⟩:=h;subst e1;subst e2;obtain⟨t,rfl⟩:=r1;obtain⟨t',rfl⟩:=r2;exact isub_int ⟨.int _,H,I.tok _,⟨_,rfl⟩,q⟩
end
section
variable {X:Cx}{pos:Pos}
def tWhile (c:TT)(tb:TS):TS:=λD σ H=> ∃W:Nat->St->Hp->Prop,(∃m,W m σ H)/\ ∀m σ H,W m σ H->
 c σ H λb H1=>if b=true then ∃N:St->Hp->Prop,(∀σ' H',N σ' H'-> ∃m',m'<m/\W m' σ' H')/\tb {D with nx:=N,ct:=N,bk:=D.nx} σ H1 else D.nx σ H1
theorem d44 {tc:TT}{tb:TS}(hp:PassesOwn (model X.prog X.w) X.A X.env X.xe)(hc:PT X c tc)(hb:PSs X body tb):PS X (.While c body [] pos) (tWhile tc tb):=by
 intro pins s σ H D I h;obtain⟨W,⟨m0,w0⟩,turn⟩:=h;refine wpAny_While (codeAny_whileLoop (λn s'=> ∃σ' H',Inv X pins σ' H' s'/\W n σ' H') ?_ m0 ⟨σ,H,I,w0⟩)
 rintro n s1 ⟨σ1,H1,I1,w1⟩;refine pB hp (thn (hc pins s1 σ1 H1 _ I1<|turn n σ1 H1 w1) λb s2 ⟨H2,I2,q2⟩=> ?_)
 cases b with
 | true=>
  obtain⟨N,hN,q2⟩:=q2;rw[a8 rfl];refine pB hp (thn (hb pins s2 σ1 H2 _ I2 q2) λf s3 q3=> ?_)
  cases f with
  | next=>
   obtain⟨σ3,H3,I3,n3⟩:=q3;obtain⟨m',hm,w3⟩:=hN σ3 H3 n3;exact⟨m',hm,σ3,H3,I3,w3⟩
  | cont=>
   obtain⟨σ3,H3,I3,n3⟩:=q3;obtain⟨m',hm,w3⟩:=hN σ3 H3 n3;exact⟨m',hm,σ3,H3,I3,w3⟩
  | brk=>exact q3
  | ret v=>exact q3
 | false=>
  rw[a7 bJ];exact pA ⟨σ1,H2,I2,q2⟩
end
structure It where
 go:Nat->Hp->Prop
 yld:Nat->Hp->V->Hp->Prop
 stop:Nat->Hp->Prop
def b19 (X:Cx)(pins:List (Addr×Obj))(H:Hp)(b:Addr):Prop:=
 H b=none/\b≠X.env.locals/\b ∉ X.fs/\(b∈X.ex\/X.s₀.heap.objs.size<=b)/\(∀x c,X.env.cells.lookup x=some c->c≠b)/\ ∀p∈X.pn++pins,p.1≠b
theorem Inv.fpOk {X:Cx}{σ:St}{H H':Hp}(I:Inv X pins σ H s)(hb:s.heap.objs.size<=b)(hn:H' b=none):b19 X pins H' b:=by
 refine⟨hn,ne_of_gt<|bI I.lt hb,I.nofs hb,.inr<|aN I.sz hb,λx c e z=> ?_,λp hp z=> ?_⟩
 .obtain⟨v,q⟩:=I.cell x c e;exact absurd (bI q.lt (by rw[z];exact hb)) (dU _)
 .exact absurd (bI (aV (I.pin p hp).1) (by rw[z];exact hb)) (dU _)
structure cH5 (P:Program)(w:World)(K:Frag)(tg:Expr)(J:It)(fp:List Addr)(it:Addr)(tn:Nat->Heap->Prop):Prop where
 mem:it∈fp
 obj: ∀i h,tn i h-> ∀b∈fp,∃o,h.get? b=some o/\ ∀v,o.data≠ .cell v
 keep: ∀i h h',tn i h->(∀b∈fp,∀o,h.get? b=some o->h'.get? b=some o)->tn i h'
 item: ∀(X:Cx),X.prog=P->X.w=w->X.K=K->X.calm=true-> ∀(i:Nat) (pins:List (Addr×Obj)) (s:Shared) (σ:St) (H:Hp) (E:Value->Shared->Prop),Inv X pins σ H s->(∀b∈fp,b19 X pins H b)->tn i s.heap->J.go i H->
  wpAny (model P w) X.A (pyNext<|.ref it) (λr s1=> ∃u,r=some u/\
   wpAny (model P w) X.A (letOwnedTupleGo tg (.ref it) u) (λ_ s2=> ∃x H',Inv X pins σ H' s2/\RelV x u/\J.yld i H x H'/\tn (i+1) s2.heap/\ ∀b∈fp,H' b=none) E s1) E s
 done: ∀(X:Cx),X.prog=P->X.w=w->X.K=K->X.calm=true-> ∀(i:Nat) (pins:List (Addr×Obj)) (s:Shared) (σ:St) (H:Hp) (E:Value->Shared->Prop),Inv X pins σ H s->(∀b∈fp,b19 X pins H b)->tn i s.heap->J.stop i H->
  wpAny (model P w) X.A (pyNext<|.ref it) (λr s1=>r=none/\Inv X pins σ H s1) E s
 self: ∀(A:Around) (i:Nat) (s:Shared) (Q:Value->Shared->Prop) (E:Value->Shared->Prop),tn i s.heap->Q (.ref it) s->wpAny (model P w) A (pyIter<|.ref it) Q E s
abbrev TI:=St->Hp->(It->Hp->Prop)->Prop
def PIE (X:Cx)(pins:List (Addr×Obj))(σ:St)(tg:Expr)(R:It->Hp->Prop)(itv:Value)(s2:Shared):Prop:=
 ∃(it:Addr) (fp:List Addr) (tn:Nat->Heap->Prop) (J:It) (H':Hp),itv= .ref it/\Inv X pins σ H' s2/\cH5 X.prog X.w X.K tg J fp it tn/\tn 0 s2.heap/\(∀b∈fp,b19 X pins H' b)/\R J H'
def PI (X:Cx)(tg iter:Expr)(wi:TI):Prop:=
 ∀(pins:List (Addr×Obj)) (s:Shared) (σ:St) (H:Hp) (R:It->Hp->Prop),Inv X pins σ H s->wi σ H R->
  X∩(eval iter X.env) (λv s1=>X∩(pyIter v) (PIE X pins σ tg R) X.xe s1) X.xe s
theorem c67 {M:Model}{n:String}{vs:Array Value}{Q:Unit->Shared->Prop}(ho:s.heap.get? it=some o)(hc:o.cls= .type n)(hd:o.data= .fields vs)
  (hn:["enumerate","zip","dict_itemiterator","dict_reverseitemiterator","odict_iterator","itertools.zip_longest","itertools.pairwise"].contains n=false) (hQ:Q () s):wpAny M A (letOwnedTupleGo tg (.ref it) u) Q E s:=by
 unfold letOwnedTupleGo;cases tg<;>first
  | exact aK hQ
  | (cases u<;>first
    | exact aK hQ
    | (refine a9 (wpAny_load ho ?_)
       rw[hc,hd];show wpAny M A (if(["enumerate","zip","dict_itemiterator","dict_reverseitemiterator","odict_iterator","itertools.zip_longest","itertools.pairwise"].contains n&&vs[0]? ==some (rawInt _))=true then _ else _) Q E s;rw[a7 (by intro h;rw[hn,Bool.false_and]at h;cases h)]
       exact aK hQ))
nonrec def Itl (K:Frag)(a:Addr):It:=
 ⟨λi H=> ∃xs x,SqL K H a xs/\xs[i]? =some x,λi H x H'=>H'=H/\ ∀xs,SqL K H a xs->xs[i]? =some x,λi H=> ∃xs,SqL K H a xs/\xs.length<=i⟩
nonrec def Itt (K:Frag)(a:Addr):It:=
 ⟨λi H=> ∃xs x,SqT K H a xs/\xs[i]? =some x,λi H x H'=>H'=H/\ ∀xs,SqT K H a xs->xs[i]? =some x,λi H=> ∃xs,SqT K H a xs/\xs.length<=i⟩
nonrec def Itr (lo:Int)(n:Nat):It:=⟨λi _=>i<n,λi H x H'=>H'=H/\x= .int (lo+i),λi _=>n<=i⟩
theorem cW7 (a it:Addr):cH5 P w K tg (Itl K a) [it] it (λi h=>h.IsListIter it a i) where
 mem:=ae
 obj:=λi h st b hb=>by
  have e:b=it:=by exists hb
  subst e;obtain⟨o,e,c,d⟩:=st;exact⟨o,e,λv z=>by rw[d]at z;cases z⟩
 keep:=λi h h' st k=>st.at λo e=>k it ae o e
 item:=by
  intro X hP hw hK hc i pins s σ H E I hf st hg;subst hP hw hK;obtain⟨xs,x,hq,hx⟩:=hg;obtain⟨its,rv,p,hz⟩:=I.list hq;obtain⟨u,hu,ru⟩:=rv.get hx;obtain⟨f0,f1,f2,f3,f4,f5⟩:=hf it ae
  refine wpAny_pyNext_list_item st p.isList (x:=u) (by exists hu) λh' st' sb=> ?_
  have I1:Inv X pins σ H {s with heap:=h'}:=I.turned (t':=s.toks) (λb o hb e=>(sb.2 b hb).trans e) f0 f1 f3 f4 f5
  obtain⟨o,e,c,d⟩:=id st';exact⟨u,rfl,c67 (s:={s with heap:=h'}) e c d ac ⟨x,H,I1,ru,⟨rfl,λys hy=>by rw[I.list_inj hy hq];exact hx⟩,st',λb hb=>(hf b hb).1⟩⟩
 done:=by
  intro X hP hw hK hc i pins s σ H E I hf st hg;subst hP hw hK;obtain⟨xs,hq,hx⟩:=hg;obtain⟨its,rv,p,hz⟩:=I.list hq;obtain⟨f0,f1,f2,f3,f4,f5⟩:=hf it ae
  have hl:=rv.length;exact wpAny_pyNext_list_end (I.ok.hd hc) st p.isList (by simp;lia) λh' eb=>⟨rfl,I.turned (t':=s.toks) (λb o hb e=>eb b o hb e) f0 f1 f3 f4 f5⟩
 self:=λ_ _ _ _ _ st h=>wpAny_pyIter_listiter st h
theorem cH6 (a it:Addr):cH5 P w K tg (Itt K a) [it] it (λi h=>h.IsTupleIter it a i) where
 mem:=ae
 obj:=λi h st b hb=>by
  have e:b=it:=by exists hb
  subst e;obtain⟨o,e,c,d⟩:=st;exact⟨o,e,λv z=>by rw[d]at z;cases z⟩
 keep:=λi h h' st k=>st.at λo e=>k it ae o e
 item:=by
  intro X hP hw hK hc i pins s σ H E I hf st hg;subst hP hw hK;obtain⟨xs,x,hq,hx⟩:=hg;obtain⟨its,rv,p,hz⟩:=I.tuple hq;obtain⟨u,hu,ru⟩:=rv.get hx;obtain⟨f0,f1,f2,f3,f4,f5⟩:=hf it ae
  refine wpAny_pyNext_tuple_item st (show s.heap.IsTuple a its.toArray from p) (x:=u) (by exists hu) λh' st' sb=> ?_
  have I1:Inv X pins σ H {s with heap:=h'}:=I.turned (t':=s.toks) (λb o hb e=>(sb.2 b hb).trans e) f0 f1 f3 f4 f5
  obtain⟨o,e,c,d⟩:=id st';exact⟨u,rfl,c67 (s:={s with heap:=h'}) e c d ac ⟨x,H,I1,ru,⟨rfl,λys hy=>by rw[I.tuple_inj hy hq];exact hx⟩,st',λb hb=>(hf b hb).1⟩⟩
 done:=by
  intro X hP hw hK hc i pins s σ H E I hf st hg;subst hP hw hK;obtain⟨xs,hq,hx⟩:=hg;obtain⟨its,rv,p,hz⟩:=I.tuple hq;obtain⟨f0,f1,f2,f3,f4,f5⟩:=hf it ae
  have hl:=rv.length;exact wpAny_pyNext_tuple_end (I.ok.hd hc) st (show s.heap.IsTuple a its.toArray from p) (by simp;lia) λh' eb=>⟨rfl,I.turned (t':=s.toks) (λb o hb e=>eb b o hb e) f0 f1 f3 f4 f5⟩
 self:=λ_ _ _ _ _ st h=>wpAny_pyIter_tupleiter st h
theorem cH7 (it:Addr)(lo:Int)(n:Nat):cH5 P w K tg (Itr lo n) [it] it (λi h=>IsRangeIter h it (lo+(i:Nat)*1) ((n:Int)-(i:Nat)) 1) where
 mem:=ae
 obj:=λi h st b hb=>by
  have e:b=it:=by exists hb
  subst e;exact⟨_,st,λv z=>by
   have z':Data.fields _=Data.cell v:=z;cases z'⟩
 keep:=λi h h' st k=>k it ae _ st
 item:=by
  intro X hP hw hK hc i pins s σ H E I hf st hg;subst hP hw hK;obtain⟨f0,f1,f2,f3,f4,f5⟩:=hf it ae
  have W:=Walks.range (prog:=X.prog) (w:=X.w) (I.ok.hd hc) it lo 1 n;refine W.item i s _ _ hg st λv h' tk hv st' kk=> ?_
  obtain⟨t,rfl⟩:=hv;have I1:Inv X pins σ H {s with heap:=h',toks:=tk}:=I.turned (λb o hb e=>kk b o (by exists hb) e) f0 f1 f3 f4 f5
  refine⟨_,rfl,c67 (s:={s with heap:=h',toks:=tk}) (n:="range_iterator") st' rfl rfl ac ⟨.int<|lo+i,H,I1,⟨t,?_⟩,⟨rfl,rfl⟩,st',λb hb=>(hf b hb).1⟩⟩
  rw[kB]
 done:=by
  intro X hP hw hK hc i pins s σ H E I hf st hg;subst hP hw hK;obtain⟨f0,f1,f2,f3,f4,f5⟩:=hf it ae
  exact wpAny_pyNext_range_end (I.ok.hd hc) st (by have:n<=i:=hg;lia) λh' eb=>⟨rfl,I.turned (t':=s.toks) (λb o hb e=>eb b o hb e) f0 f1 f3 f4 f5⟩
 self:=λ_ _ _ _ _ st h=>aN9 st h
section
variable {X:Cx}{tg:Expr}
theorem c68 {σ:St}{H:Hp}{R:It->Hp->Prop}{hi:Int}{t u v:Tok}(I:Inv X pins σ H s)(h1: -(2^62)<=lo)(h2:lo<2^62)(h3: -(2^62)<=hi)(h4:hi<2^62)
  (q:R (Itr lo (hi-lo).toNat) H):X∩(pyIter<|.ref s.heap.objs.size) (PIE X pins σ tg R) E {s with heap:=s.heap.push {cls:= .type "range",data:= .fields #[.int lo t,.int hi u,.int 1 v]},toks:=tk}:=by
 refine wpAny_pyIter_range (IsRange.new ..) (small_one h1 h2 h3 h4) ?_
 have I1:Inv X pins σ H {s with heap:=s.heap.push {cls:= .type "range",data:= .fields #[.int lo t,.int hi u,.int 1 v]},toks:=tk}:=I.kept λb o e=>bE _ e
 refine⟨(s.heap.push {cls:= .type "range",data:= .fields #[.int lo t,.int hi u,.int 1 v]}).objs.size,[(s.heap.push {cls:= .type "range",data:= .fields #[.int lo t,.int hi u,.int 1 v]}).objs.size],_,_,H,rfl,
  I1.kept (t':=tk) λb o e=>bE _ e,cH7 _ lo (hi-lo).toNat,?_,λb hb=> ?_,q⟩
 .have e1:lo+((0:Nat):Int)*1=lo:=ae
  have e2:(((hi-lo).toNat:Nat):Int)-((0:Nat):Int)=Builtin.Range.rangeSize lo hi 1:=by rw[rangeSize_one];split<;>lia
  show IsRangeIter _ _ (lo+((0:Nat):Int)*1) ((((hi-lo).toNat:Nat):Int)-((0:Nat):Int)) 1
  rw[e1,e2];exact cO _ rfl
 .have e:b=(s.heap.push {cls:= .type "range",data:= .fields #[.int lo t,.int hi u,.int 1 v]}).objs.size:=by exists hb
  subst e;exact I1.fpOk (aG _) (I1.hok.fresh<|aG _)
def iRng1 (ta:TA):TI:=λσ H R=>ta σ H λvs H1=> ∃j:Int,vs=[.int j]/\ -(2^62)<=j/\j<2^62/\R (Itr 0 j.toNat) H1
def iRng2 (ta:TA):TI:=λσ H R=>ta σ H λvs H1=> ∃i j:Int,vs=[.int i,.int j]/\(-(2^62)<=i/\i<2^62/\ -(2^62)<=j/\j<2^62)/\R (Itr i (j-i).toNat) H1
theorem cW8 {a:Expr}{ta:TA}(hg:Gl X "range")(hm:X.mg "range"=none)(ha:PA X [a] ta)(hs:↥(starEach [a] X.env=[(false,eval a X.env)])):PI X tg (.Call (.Name "range" p) [a] [] pos) (iRng1 ta):=by
 intro pins s σ H R I h;refine Call_ (a38 I hg hm boot_range<|mM (thn (ha pos pins s σ H _ I h) λus s1 ⟨vs,H1,I1,r1,q1⟩=> ?_) hs rfl)
 obtain⟨j,e,q1,q2,q⟩:=q1;subst e;cases r1 with
 | cons r rr=>
  cases rr;obtain⟨t,rfl⟩:=r;exact call_range_1 (c68 I1 ad ad q1 q2<|by exists q)
theorem cW9 {a b:Expr}{ta:TA}(hg:Gl X "range")(hm:X.mg "range"=none)(ha:PA X [a,b] ta)(hs:↥(starEach [a,b] X.env=[(false,eval a X.env),(false,eval b X.env)]))(hs2:↥(starEach [b] X.env=[(false,eval b X.env)])) :
  PI X tg (.Call (.Name "range" p) [a,b] [] pos) (iRng2 ta):=by
 intro pins s σ H R I h;refine Call_ (a38 I hg hm boot_range<|mM (thn (ha pos pins s σ H _ I h) λus s1 ⟨vs,H1,I1,r1,q1⟩=> ?_) (by rw[hs,hs2]) (by rw[hs2];rfl))
 obtain⟨i,j,e,⟨q1,q2,q3,q4⟩,q⟩:=q1;subst e;cases r1 with
 | cons r rr=>
  cases rr with
  | cons r' rr=>
   cases rr;obtain⟨t,rfl⟩:=r;obtain⟨t',rfl⟩:=r';exact call_range_2 (c68 I1 q1 q2 q3 q4 q)
def tFor (wi:TI)(g:TG)(tb:TS):TS:=λD σ H=>wi σ H λJ H1=> ∃W:Nat->Nat->St->Hp->Prop,(∃m,W 0 m σ H1)/\ ∀i m σ H,W i m σ H->
 (J.stop i H/\D.nx σ H)\/(J.go i H/\ ∃N:St->Hp->Prop,(∀σ' H',N σ' H'-> ∃m',m'<m/\W (i+1) m' σ' H')/\ ∀x H',J.yld i H x H'->g x σ H' λσ2 H2=>tb {D with nx:=N,ct:=N,bk:=D.nx} σ2 H2)
nonrec def bC9 (fp:List Addr)(h:Heap):List (Addr×Obj):=fp.filterMap λb=>(h.get? b).map λo=>(b,o)
theorem a39 (hb:b∈fp)(e:h.get? b=some o):(b,o)∈bC9 fp h:=aP6.mpr ⟨b,hb,by rw[e];rfl⟩
theorem cX0 {p:Addr×Obj}(hp:p∈bC9 fp h):p.1∈fp/\h.get? p.1=some p.2:=by
 obtain⟨b,hb,e⟩:=aP6.mp hp;cases q:h.get? b with
 | none=>rw[q]at e;cases e
 | some o=>
  rw[q]at e;have e':(b,o)=p:=iN e;subst e';exact⟨hb,q⟩
theorem Inv.pinned {σ:St}{H:Hp}(I:Inv X pins σ H s)(hf: ∀b∈fp,b19 X pins H b)(ho: ∀b∈fp,∃o,s.heap.get? b=some o/\ ∀v,o.data≠ .cell v):Inv X (pins++bC9 fp s.heap) σ H s:=
 I.pins_of λp hp=>(bG.mp hp).elim (λz=>I.pin p (cZ _ z)) λz=>by
  obtain⟨hb,e⟩:=cX0 z;obtain⟨f0,f1,f2,_⟩:=hf p.1 hb;obtain⟨o,e',d⟩:=ho p.1 hb;rw[e]at e';cases e';exact⟨e,f0,f1,f2,d⟩
theorem Inv.unpinned {pl:List (Addr×Obj)}{σ:St}{H:Hp}(I:Inv X (pins++pl) σ H s):Inv X pins σ H s:=I.pins_of λp hp=>I.pin p (cZ _<|gS _ hp)
theorem ps_for {wi:TI}{g:TG}{tb:TS}(hp:PassesOwn (model X.prog X.w) X.A X.env X.xe)(hc:X.calm=true)(hi:PI X tg iter wi)(hg:PG X tg g)(hb:PSs X body tb)
  (hs: ∀x,foldedSetIterable iter X.env x=pure x:=by intro _;rfl):PS X (.For tg iter body [] pos) (tFor wi g tb):=by
 intro pins s σ H D I h;refine wpAny_For (thn (hi pins s σ H _ I h) λv s1 h1=>thn h1 λitv s2 h2=> ?_) hs
 obtain⟨it,fp,tn,J,H2,e,I2,T,st2,f2,W,⟨m0,w0⟩,turn⟩:=h2;subst e;have stat: ∀{H':Hp},(∀b∈fp,H' b=none)-> ∀b∈fp,b19 X pins H' b:=λhn b hb=>⟨hn b hb,(f2 b hb).2⟩
 refine codeAny_forLoop_any (λn s'=> ∃i σ' H',Inv X pins σ' H' s'/\tn i s'.heap/\(∀b∈fp,H' b=none)/\W i n σ' H') ?_ m0 ⟨0,σ,H2,I2,st2,λb hb=>(f2 b hb).1,w0⟩
 rintro n s3 ⟨i,σ3,H3,I3,st3,fr3,w3⟩;rcases turn i n σ3 H3 w3 with⟨stop,qn⟩| ⟨go,N,hN,step⟩
 .refine pB hp (thn (T.done X rfl rfl rfl hc i pins s3 σ3 H3 X.xe I3 (stat fr3) st3 stop) λr s4 ⟨hr,I4⟩=> ?_)
  subst hr;exact pA ⟨σ3,H3,I4,qn⟩
 .refine pB hp (thn (T.item X rfl rfl rfl hc i pins s3 σ3 H3 X.xe I3 (stat fr3) st3 go) λr s4 ⟨u,hr,h4⟩=> ?_)
  subst hr;refine pB hp (thn h4 λ_ s5 ⟨x,H5,I5,r5,y5,st5,fr5⟩=> ?_)
  have I5':=I5.pinned (stat fr5) (T.obj _ _ st5);refine pB hp (thn (hg _ s5 σ3 H5 x u _ I5' r5<|step x H5 y5) λ_ s6 ⟨σ6,H6,I6,q6⟩=> ?_)
  refine pB hp (thn (hb _ s6 σ6 H6 _ I6 q6) λf s7 q7=> ?_)
  have again: ∀{σ7:St} {H7:Hp},Inv X (pins++bC9 fp s5.heap) σ7 H7 s7->N σ7 H7-> ∃m,m<n/\ ∃i σ' H',Inv X pins σ' H' s7/\tn i s7.heap/\(∀b∈fp,H' b=none)/\W i m σ' H':=λ{σ7 H7} I7 n7=>by
   obtain⟨m',hm,w7⟩:=hN σ7 H7 n7;refine⟨m',hm,i+1,σ7,H7,I7.unpinned,T.keep _ _ _ st5 λb hb o e=>(I7.pin (b,o)<|cZ _<|cZ _<|a39 hb e).1,λb hb=> ?_,w7⟩
   obtain⟨o,e,d⟩:=T.obj _ _ st5 b hb;exact(I7.pin (b,o)<|cZ _<|cZ _<|a39 hb e).2.1
  cases f with
  | next=>obtain⟨σ7,H7,I7,n7⟩:=q7;exact again I7 n7
  | cont=>obtain⟨σ7,H7,I7,n7⟩:=q7;exact again I7 n7
  | brk=>obtain⟨σ7,H7,I7,q7⟩:=q7;exact⟨σ7,H7,I7.unpinned,q7⟩
  | ret v=>obtain⟨x7,σ7,H7,I7,r7,q7⟩:=q7;exact⟨x7,σ7,H7,I7.unpinned,r7,q7⟩
end
abbrev R2:=V->V->Hp->VK->Prop
def OpR (X:Cx)(f:Value->Value->Sem Value)(r:R2):Prop:=
 ∀(pins:List (Addr×Obj)) (s:Shared) (σ:St) (H:Hp) (x y:V) (v u:Value) (Q:VK),Inv X pins σ H s->RelV x v->RelV y u->r x y H Q->
  X∩(f v u) (EP X pins σ Q) X.xe s
def UnR (X:Cx)(f:Value->Sem Value)(r:V->Hp->VK->Prop):Prop:=
 ∀(pins:List (Addr×Obj)) (s:Shared) (σ:St) (H:Hp) (x:V) (v:Value) (Q:VK),Inv X pins σ H s->RelV x v->r x H Q->
  X∩(f v) (EP X pins σ Q) X.xe s
def qV (X:Cx)(f:Value)(r:List V->Hp->VK->Prop):Prop:=
 ∀(pins:List (Addr×Obj)) (s:Shared) (σ:St) (H:Hp) (xs:List V) (us:List Value) (Q:VK),Inv X pins σ H s->Vals xs us->r xs H Q->
  X∩(call f us) (EP X pins σ Q) X.xe s
def tOp (r:R2)(ta tb:TE):TE:=λσ H Q=>ta σ H λx H1=>tb σ H1 λy H2=>r x y H2 Q
def tUn (r:V->Hp->VK->Prop)(ta:TE):TE:=λσ H Q=>ta σ H λx H1=>r x H1 Q
def rI (C:Int->Int->Prop)(g:Int->Int->V):R2:=λx y H Q=> ∃i j,x= .int i/\y= .int j/\C i j/\Q (g i j) H
def rI0 (g:Int->Int->V):R2:=λx y H Q=> ∃i j,x= .int i/\y= .int j/\Q (g i j) H
def rU (g:Int->V):V->Hp->VK->Prop:=λx H Q=> ∃i,x= .int i/\Q (g i) H
section
variable {X:Cx}{a b c:Expr}{ta tb tc:TE}{pos:Pos}
theorem binT (ha:PE X a ta)(hb:PE X b tb){σ:St}{H:Hp}{R:V->V->Hp->Prop}(I:Inv X pins σ H s)
  (h:ta σ H λx H1=>tb σ H1 λy H2=>R x y H2) {Q:Value->Shared->Prop} {f:Value->Value->Sem Value}
  (hf: ∀v u s2 x y H2,Inv X pins σ H2 s2->RelV x v->RelV y u->R x y H2->X∩(f v u) Q X.xe s2) :
  X∩(eval a X.env) (λv s₁=>X∩(eval b X.env) (λu s₂=>X∩(f v u) Q X.xe s₂) X.xe s₁) X.xe s:=by
 refine thn (ha pins s σ H _ I h) λv s1 ⟨x,H1,I1,r1,q1⟩=> ?_
 refine thn (hb pins s1 σ H1 _ I1 q1) λu s2 ⟨y,H2,I2,r2,q2⟩=> ?_
 exact hf v u s2 x y H2 I2 r1 r2 q2
theorem pe_op {op:Operator}{r:R2}(ho:OpR X (binaryOp op) r)(ha:PE X a ta)(hb:PE X b tb):PE X (.BinOp a op b pos) (tOp r ta tb):=by
 intro pins s σ H Q I h;exact wpAny_BinOp (binT ha hb I h λv u s2 x y H2 I2 rx ry q=>ho pins s2 σ H2 x y v u Q I2 rx ry q)
theorem pe_un {op:UnaryOp}{r:V->Hp->VK->Prop}(ho:UnR X (unaryOp op) r)(ha:PE X a ta):PE X (.UnaryOp op a pos) (tUn r ta):=by
 intro pins s σ H Q I h;exact UnaryOp_ (thn (ha pins s σ H _ I h) λv s1 ⟨x,H1,I1,r1,q1⟩=>ho pins s1 σ H1 x v Q I1 r1 q1)
theorem opI {f:Value->Value->Sem Value}{C:Int->Int->Prop}{g:Int->Int->Int}
  (rule: ∀(i j:Int) (t u:Tok) (s:Shared) (Q:Value->Shared->Prop) (E:Value->Shared->Prop),C i j->Q (.int (g i j) s.toks) {s with toks:=s.toks+1}->X∩(f (.int i t)<|.int j u) Q E s) :
  OpR X f (rI C λi j=> .int (g i j)):=by
 intro pins s σ H x y v u Q I rx ry h;obtain⟨i,j,rfl,rfl,hc,q⟩:=h;obtain⟨t,rfl⟩:=rx;obtain⟨t',rfl⟩:=ry;exact rule i j t t' s _ _ hc ⟨.int<|g i j,H,I.tok _,⟨_,rfl⟩,q⟩
theorem opI0 {f:Value->Value->Sem Value}{g:Int->Int->Int}
  (rule: ∀(i j:Int) (t u:Tok) (s:Shared) (Q:Value->Shared->Prop) (E:Value->Shared->Prop),Q (.int (g i j) s.toks) {s with toks:=s.toks+1}->X∩(f (.int i t)<|.int j u) Q E s) :
  OpR X f (rI0 λi j=> .int (g i j)):=by
 intro pins s σ H x y v u Q I rx ry h;obtain⟨i,j,rfl,rfl,q⟩:=h;obtain⟨t,rfl⟩:=rx;obtain⟨t',rfl⟩:=ry;exact rule i j t t' s _ _ ⟨.int<|g i j,H,I.tok _,⟨_,rfl⟩,q⟩
theorem dL3 {f:Value->Value->Sem Value}{g:Int->Int->Bool}
  (rule: ∀(i j:Int) (t u:Tok) (s:Shared) (Q:Value->Shared->Prop) (E:Value->Shared->Prop),Q (.bool<|g i j) s->X∩(f (.int i t)<|.int j u) Q E s) :
  OpR X f (rI0 λi j=> .bl (g i j)):=by
 intro pins s σ H x y v u Q I rx ry h;obtain⟨i,j,rfl,rfl,q⟩:=h;obtain⟨t,rfl⟩:=rx;obtain⟨t',rfl⟩:=ry;exact rule i j t t' s _ _ ⟨.bl<|g i j,H,I,rfl,q⟩
def dL4 (i j:Int):Prop:=0<=j/\j<=1000000/\i.natAbs<2^64
def cH8 (i j:Int):Prop:=(-(2^64)<i/\i<2^64)\/(-(2^64)<j/\j<2^64)
theorem cH8.ok {i j:Int}(h:cH8 i j):IntMulOk i j:=by
 rcases h with⟨h1,h2⟩| ⟨h1,h2⟩
 .exact .of_left (intBits_le_64 h1 h2)
 .exact .of_right (intBits_le_64 h1 h2)
theorem op_add:OpR X (binaryOp .Add) (rI0 λi j=> .int (i+j)):=opI0 λ_ _ _ _ _ _ _ q=>add_int q
theorem op_sub:OpR X (binaryOp .Sub) (rI0 λi j=> .int (i-j)):=opI0 λ_ _ _ _ _ _ _ q=>sub_int q
theorem dL5:OpR X (binaryOp .Mod) (rI (λ_ j=>j≠0) λi j=> .int (i.fmod j)):=opI λ_ _ _ _ _ _ _ hc q=>mod_int' hc q
theorem op_pow:OpR X (binaryOp .Pow) (rI dL4 λi j=> .int (i^j.toNat)):=opI λ_ _ _ _ _ _ _ hc q=>pow_int_small hc.1 hc.2.1 hc.2.2 q
theorem unI {f:Value->Sem Value}{g:Int->Int}
  (rule: ∀(i:Int) (t:Tok) (s:Shared) (Q:Value->Shared->Prop) (E:Value->Shared->Prop),Q (.int (g i) s.toks) {s with toks:=s.toks+1}->X∩(f<|.int i t) Q E s) :
  UnR X f (rU λi=> .int (g i)):=by
 intro pins s σ H x v Q I rx h;obtain⟨i,rfl,q⟩:=h;obtain⟨t,rfl⟩:=rx;exact rule i t s _ _ ⟨.int<|g i,H,I.tok _,⟨_,rfl⟩,q⟩
theorem un_neg:UnR X (unaryOp .USub) (rU λi=> .int (-i)):=unI λ_ _ _ _ _ q=>neg_int q
end
nonrec def scal:V->V->Bool
 | .non,.non=>true| .non,.int _=>true| .int _,.non=>true| .non,.bl _=>true| .bl _,.non=>true| .non,.str _=>true| .str _,.non=>true
 | .int _,.int _=>true| .bl _,.bl _=>true| .str _,.str _=>true| .byt _,.byt _=>true
 | .int _,.str _=>true| .str _,.int _=>true| .bl _,.str _=>true| .str _,.bl _=>true
 | _,_=>false
nonrec def rEq:R2:=λx y H Q=>scal x y=true/\Q (.bl<|decide (x=y)) H
nonrec def rNe:R2:=λx y H Q=>scal x y=true/\Q (.bl<|!decide (x=y)) H
theorem bA7 {i j:Int}:decide (V.int i=V.int j)=(i==j):=by
 rw[a19];simp
theorem bX5 {i j:Bool}:decide (V.bl i=V.bl j)=(i==j):=by
 rw[a19];simp
theorem bA8 {i j:Str}:decide (V.str i=V.str j)=(i==j):=by
 rw[a19];simp
theorem cP1 {i j:Array UInt8}:decide (V.byt i=V.byt j)=(i.toList==j.toList):=by
 rw[a19];cases i;cases j;simp
section
variable {X:Cx}{a b c:Expr}{ta tb tc:TE}{pos:Pos}
theorem gE {σ:St}{H:Hp}{Q:VK}{k k':Bool}(I:Inv X pins σ H s)(q:Q (.bl k) H)(e:k=k'):EP X pins σ Q (.bool k') s:=by
 subst e;exact⟨.bl k,H,I,rfl,q⟩
theorem d45:OpR X (compareOp .Eq) rEq:=by
 intro pins s σ H x y v u Q I rx ry h;obtain⟨hs,q⟩:=h;cases x with
 | non=>
  cases rx;cases y with
  | non=>cases ry;exact PySem.EqNone.eq_none_none (gE I q ae)
  | bl j=>cases ry;exact PySem.EqNone.eq_none_bool (gE I q ae)
  | int j=>obtain⟨t',rfl⟩:=ry;exact PySem.EqNone.eq_none_int (gE I q ae)
  | str j=>obtain⟨t',rfl⟩:=ry;exact PySem.EqNone.eq_none_str (gE I q ae)
  | _=>exact absurd (show false=true from hs) bJ
 | bl i=>
  cases rx;cases y with
  | non=>cases ry;exact PySem.EqNone.eq_bool_none (gE I q ae)
  | bl j=>cases ry;exact eq_bool (gE I q bX5)
  | str j=>obtain⟨t',rfl⟩:=ry;exact PySem.EqMixed.eq_bool_str (gE I q ae)
  | _=>exact absurd (show false=true from hs) bJ
 | int i=>
  obtain⟨t,rfl⟩:=rx;cases y with
  | non=>cases ry;exact PySem.EqNone.eq_int_none (gE I q ae)
  | int j=>obtain⟨t',rfl⟩:=ry;exact eq_int (gE I q bA7)
  | str j=>obtain⟨t',rfl⟩:=ry;exact PySem.EqMixed.eq_int_str (gE I q ae)
  | _=>exact absurd (show false=true from hs) bJ
 | str i=>
  obtain⟨t,rfl⟩:=rx;cases y with
  | non=>cases ry;exact PySem.EqNone.eq_str_none (gE I q ae)
  | bl j=>cases ry;exact PySem.EqMixed.eq_str_bool (gE I q ae)
  | int j=>obtain⟨t',rfl⟩:=ry;exact PySem.EqMixed.eq_str_int (gE I q ae)
  | str j=>obtain⟨t',rfl⟩:=ry;exact eq_str (gE I q bA8)
  | _=>exact absurd (show false=true from hs) bJ
 | byt i=>
  obtain⟨t,rfl⟩:=rx;cases y with
  | byt j=>obtain⟨t',rfl⟩:=ry;exact PySem.W.eq_bytes (gE I q cP1)
  | _=>exact absurd (show false=true from hs) bJ
 | _=>cases y<;>exact absurd (show false=true from hs) bJ
theorem d46:OpR X (compareOp .NotEq) rNe:=by
 intro pins s σ H x y v u Q I rx ry h;obtain⟨hs,q⟩:=h;cases x with
 | non=>
  cases rx;cases y with
  | non=>cases ry;exact PySem.EqNone.ne_none_none (gE I q ae)
  | bl j=>cases ry;exact PySem.EqNone.ne_none_bool (gE I q ae)
  | int j=>obtain⟨t',rfl⟩:=ry;exact PySem.EqNone.ne_none_int (gE I q ae)
  | str j=>obtain⟨t',rfl⟩:=ry;exact PySem.EqNone.ne_none_str (gE I q ae)
  | _=>exact absurd (show false=true from hs) bJ
 | bl i=>
  cases rx;cases y with
  | non=>cases ry;exact PySem.EqNone.ne_bool_none (gE I q ae)
  | bl j=>cases ry;exact ne_bool (gE I q<|bO not bX5)
  | str j=>obtain⟨t',rfl⟩:=ry;exact PySem.EqMixed.ne_bool_str (gE I q ae)
  | _=>exact absurd (show false=true from hs) bJ
 | int i=>
  obtain⟨t,rfl⟩:=rx;cases y with
  | non=>cases ry;exact PySem.EqNone.ne_int_none (gE I q ae)
  | int j=>obtain⟨t',rfl⟩:=ry;exact ne_int (gE I q<|bO not bA7)
  | str j=>obtain⟨t',rfl⟩:=ry;exact PySem.EqMixed.ne_int_str (gE I q ae)
  | _=>exact absurd (show false=true from hs) bJ
 | str i=>
  obtain⟨t,rfl⟩:=rx;cases y with
  | non=>cases ry;exact PySem.EqNone.ne_str_none (gE I q ae)
  | bl j=>cases ry;exact PySem.EqMixed.ne_str_bool (gE I q ae)
  | int j=>obtain⟨t',rfl⟩:=ry;exact PySem.EqMixed.ne_str_int (gE I q ae)
  | str j=>obtain⟨t',rfl⟩:=ry;exact ne_str (gE I q<|bO not bA8)
  | _=>exact absurd (show false=true from hs) bJ
 | byt i=>
  obtain⟨t,rfl⟩:=rx;cases y with
  | byt j=>obtain⟨t',rfl⟩:=ry;exact PySem.W.ne_bytes (gE I q<|bO not cP1)
  | _=>exact absurd (show false=true from hs) bJ
 | _=>cases y<;>exact absurd (show false=true from hs) bJ
theorem op_lt:OpR X (compareOp .Lt) (rI0 λi j=> .bl (decide (i<j))):=dL3 λ_ _ _ _ _ _ _ q=>lt_int q
theorem op_le:OpR X (compareOp .LtE) (rI0 λi j=> .bl (decide (i<=j))):=dL3 λ_ _ _ _ _ _ _ q=>le_int q
theorem op_gt:OpR X (compareOp .Gt) (rI0 λi j=> .bl (decide (j<i))):=dL3 λ_ _ _ _ _ _ _ q=>gt_int q
theorem op_ge:OpR X (compareOp .GtE) (rI0 λi j=> .bl (decide (j<=i))):=dL3 λ_ _ _ _ _ _ _ q=>ge_int q
theorem bX6 (b:Expr)(h:⇑(op≠ .In))(h2:⇑(op≠ .NotIn)):behindInMarks op b=false:=by
 have e1:(op==CmpOp.In)=false:=by cases op<;>first|rfl|exact absurd rfl h
 have e2:(op==CmpOp.NotIn)=false:=by cases op<;>first|rfl|exact absurd rfl h2
 cases b<;>simp[behindInMarks,e1,e2]
theorem dL6 {r:R2}(ho:OpR X (compareOp op) r)(ha:PE X a ta)(hb:PE X b tb)(hm:behindInMarks op b=false):PE X (.Compare a [op] [b] pos) (tOp r ta tb):=by
 intro pins s σ H Q I h;exact wpAny_Compare1 (binT ha hb I h λv u s2 x y H2 I2 rx ry q=>ho pins s2 σ H2 x y v u Q I2 rx ry q) hm
def tTest (t:TE):TT:=λσ H Q=>t σ H λx H'=> ∃k,x= .bl k/\Q k H'
theorem dL7 {r:R2}(ho:OpR X (compareOp op) r)(ha:PE X a ta)(hb:PE X b tb)(hm:behindInMarks op b=false):PT X (.Compare a [op] [b] pos) (tTest<|tOp r ta tb):=by
 intro pins s σ H Q I h;refine wpAny_isTrue_Compare1 (thn (ha pins s σ H _ I h) λv s1 ⟨x,H1,I1,r1,q1⟩=>thn (hb pins s1 σ H1 _ I1 q1) λu s2 ⟨y,H2,I2,r2,q2⟩=>
  thn (ho pins s2 σ H2 x y v u _ I2 r1 r2 q2) λc s3 ⟨z,H3,I3,r3,k,e,q3⟩=> ?_) hm
 subst e;cases r3;exact mT ⟨H3,I3,q3⟩
theorem b20:(sizeLine:Nat)<2^63:=by rw[sizeLine_eq];decide
theorem vals1 {x:V}(r:Vals [x] us): ∃u,us=[u]/\RelV x u:=by
 cases r with
 | cons r1 r2=>cases r2;exact⟨_,rfl,r1⟩
theorem vals2 {x y:V}(r:Vals [x,y] us): ∃u w',us=[u,w']/\RelV x u/\RelV y w':=by
 cases r with
 | cons r1 r2=>
  cases r2 with
  | cons r3 r4=>cases r4;exact⟨_,_,rfl,r1,r3⟩
theorem d47:qV X (.builtin "abs") (λxs H Q=> ∃i,xs=[.int i]/\Q (.int<|if i<0 then -i else i) H):=by
 intro pins s σ H xs us Q I r h;obtain⟨i,rfl,q⟩:=h;obtain⟨u,rfl,t,rfl⟩:=vals1 r;exact call_abs_int λu tk=>⟨.int<|if i<0 then -i else i,H,I.tok _,⟨_,rfl⟩,q⟩
theorem cX1 (hc:X.calm=true):qV X (.builtin "max") (λxs H Q=> ∃i j,xs=[.int i,.int j]/\Q (.int<|if j>i then j else i) H):=by
 intro pins s σ H xs us Q I r h;obtain⟨i,j,rfl,q⟩:=h;obtain⟨u,w',rfl,⟨t,rfl⟩,⟨t',rfl⟩⟩:=vals2 r;refine max_two_ints (I.ok.hd hc) λh' tk k=>⟨_,H,I.kept k,?_,q⟩
 by_cases hj:j>i
 .rw[a8 hj,a8 hj];exact⟨_,rfl⟩
 .rw[a7 hj,a7 hj];exact⟨_,rfl⟩
theorem cX2 (hc:X.calm=true):qV X (.builtin "min") (λxs H Q=> ∃i j,xs=[.int i,.int j]/\Q (.int<|if j<i then j else i) H):=by
 intro pins s σ H xs us Q I r h;obtain⟨i,j,rfl,q⟩:=h;obtain⟨u,w',rfl,⟨t,rfl⟩,⟨t',rfl⟩⟩:=vals2 r;refine min_two_ints (I.ok.hd hc) λh' tk k=>⟨_,H,I.kept k,?_,q⟩
 by_cases hj:j<i
 .rw[a8 hj,a8 hj];exact⟨_,rfl⟩
 .rw[a7 hj,a7 hj];exact⟨_,rfl⟩
theorem bR9:qV X (.type "int") (λxs H Q=>(∃i,xs=[.int i]/\Q (.int i) H)\/ ∃k,xs=[.bl k]/\Q (.int<|if k then 1 else 0) H):=by
 intro pins s σ H xs us Q I r h;rcases h with⟨i,rfl,q⟩| ⟨k,rfl,q⟩
 .obtain⟨u,rfl,t,rfl⟩:=vals1 r;exact call_int_int ⟨.int i,H,I,⟨_,rfl⟩,q⟩
 .obtain⟨u,rfl,r1⟩:=vals1 r;cases r1;exact call_int_bool ⟨.int<|if k then 1 else 0,H,I.tok _,⟨_,rfl⟩,q⟩
end
structure cX3 (h:Heap)(x dx C:Addr)(mA:Str->Option Value):Prop where
 obj:h.get? x=some (instObj C dx)
 ns:h.Ns1 dx mA
 ne:dx≠x
theorem cX4 {mA:Str->Option Value}(n:h.Ns1 dx mA): ∃od,h.get? dx=some od/\ ∀name,lookIn name od=some (mA name):=by
 obtain⟨o,es,ep,ho,hd,hk,_,hm⟩:=n;refine⟨o,ho,λname=> ?_⟩
 have e:=hm name;unfold nsFind findBy at e;rw[<-Array.find?_toList]at e;unfold lookIn;rw[hd];right;split
 .rename_i y q
  rw[q]at e;exact bO some e
 .rename_i q
  rw[q]at e;have a:es.toList.any (·.refKey)=false:=by
   rw[List.any_eq_false];intro y hy;obtain⟨z,t,hkey⟩:=hk y (Array.mem_toList_iff.mp hy);simp[DictEntry.refKey,hkey]
  have a': ¬es.toList.any (·.refKey)=true:=by rw[a];exact bJ
  rw[a7 a'];exact bO some e
theorem cX3.look {x:Addr}{mA:Str->Option Value}(I:cX3 h x dx C mA): ∃od,InstAt h x (instObj C dx) C (some od)/\ ∀name,lookIn name od=some (mA name):=
 let ⟨od,ho,hl⟩:=cX4 I.ns
 ⟨od,⟨I.obj,rfl,rfl,ho⟩,hl⟩
section
variable {prog:Program}{w:World}{A:Around}{E:Value->Shared->Prop}{s:Shared}{K:Frag}{x dx C f:Addr}{mA:Str->Option Value}{name:Str}{v:Value}
theorem dL8 {expr:Bool}(X:K.In s.heap)(I:cX3 s.heap x dx C mA)(hg:plainGet K C name=true)(hh:hasDictIn K C=true)
  (ha:findIn K (.ref C) name=some none) (hv:mA name=some v) (hv':PySem.W.handedIn v=true) (h:Q v {s with toks:=s.toks+1}) :
  wpAny (model prog w) A (getAttr (.ref x) name expr) Q E s:=by
 obtain⟨od,J,hl⟩:=I.look;exact PySem.W.get_value X J (PySem.W.plainGet_of hg).1 (PySem.W.findObj_own hh ha rfl (by rw[hl,hv])) hv' h
theorem dL9 {ns:List Str}{Q:Unit->Shared->Prop}(X:K.In s.heap)(I:cX3 s.heap x dx C mA)
  (hs:findIn K (.ref C) "__setattr__"=some (some<|.builtin "object.__setattr__")) (hp:plainOver K C=true) (ht:takerIn K C name=some none) (hh:hasDictIn K C=true)
  (hw:PySem.Within mA ns) (hsz:ns.length<=sizeLine)
  (h: ∀h',cX3 h' x dx C (λy=>if y=name then some v else mA y)->SameBut dx s.heap h'->Q () {s with heap:=h',toks:=s.toks+2}) :
  wpAny (model prog w) A (setAttr (.ref x) name v) Q E s:=by
 obtain⟨od,J,hl⟩:=I.look;refine PySem.W.set_plain X J hs (PySem.W.osa_open (s:={s with toks:=s.toks+1}) (r:=none) X J hp ht λb=> ?_)
 obtain⟨cd,hc,hd'⟩:=PySem.W.any_some hh;have hx:s.heap.get? x=some ⟨.ref C,some dx,.plain,#[]⟩:=I.obj;refine a9 (aK<|a9<|a9<|wpAny_loadPart hx<|a9<|PySem.W.Looks.here (s:={s with toks:=s.toks+1}) (aP5 X hc) ?_);rw[hd'];refine aK (a:=some dx) (a9<|aK<|a9 ?_);refine wpAny_nsSet1 (s:={s with toks:=s.toks+1}) I.ns λh' hn2 hs2=> ?_
 obtain⟨oD,esD,epD,hoD,hdD,hcD⟩:=hn2.count (PySem.Within.cons name v hw);refine a9 (wpAny_lookBehind hoD (by rw[hdD];exact pastItsLine_dict (aN hcD (by rw[dP];lia))) ?_)
 exact aK (h _ ⟨(hs2.2 _<|Ne.symm I.ne).trans I.obj,hn2,I.ne⟩ hs2)
theorem c69 {R:Result->Shared->Prop}(X:K.In s.heap)(hm:makesIn K C=true)
  (hi:findIn K (.ref C) "__init__"=some (some<|.ref f)) (hf:PySem.W.typeIn K (.ref f)=some (.type "function"))
  (h:codeAny (model prog w) (A.under<|.builtin "type.__call__" ⟨.ref C::vs,kw⟩) (.call (.ref f) ⟨.ref (s.heap.objs.size+1)::vs,kw⟩) (PySem.W.InitBack (s.heap.objs.size+1) R)
   {s with heap:=(s.heap.push emptyDict).push (instObj C s.heap.objs.size)}) :
  codeAny (model prog w) A (.call (.ref C) ⟨vs,kw⟩) R s:=by
 obtain⟨hh,g,d,t,os⟩:=s;exact PySem.W.make_core (PySem.W.makes_of X hm) (PySem.W.looks_findIn X hi) (λself=>PySem.W.bind_fn X self hf) (.inl rfl) h
end
nonrec def wV (f:Str)(v:V):List (Str×V)->List (Str×V)
 | []=>[(f,v)]
 | (g,x)::r=>if g=f then(g,v)::r else(g,x)::wV f v r
theorem b64 (f g:Str)(v:V): ∀fs:List (Str×V),(wV f v fs).lookup g=if g=f then some v else fs.lookup g
 | []=>by
  show List.lookup g [(f,v)]=_
  by_cases h:g=f
  .have hb:(g==f)=true:=gA.mpr h;simp only[List.lookup,hb,a8 h]
  .have hb:(g==f)=false:=rG.mpr h;simp only[List.lookup,hb,a7 h]
 | (k,x)::r=>by
  have ih:=b64 f g v r;rw[show wV f v ((k,x)::r)=(if k=f then(k,v)::r else(k,x)::wV f v r)from rfl]
  by_cases hk:k=f
  .rw[a8 hk]
   by_cases h:g=k
   .have hb:(g==k)=true:=gA.mpr h;simp only[List.lookup,hb,a8<|h.trans hk]
   .have hb:(g==k)=false:=rG.mpr h;simp only[List.lookup,hb,a7 (λe:g=f=>h (e.trans hk.symm))]
  .rw[a7 hk]
   by_cases h:g=k
   .have hb:(g==k)=true:=gA.mpr h;simp only[List.lookup,hb,a7 (λe:g=f=>hk (h.symm.trans e))]
   .have hb:(g==k)=false:=rG.mpr h;simp only[List.lookup,hb];exact ih
theorem b21 (f:Str)(v:V): ∀fs:List (Str×V),f∈(wV f v fs).map (·.1)/\ ∀g,g∈fs.map (·.1)->g∈(wV f v fs).map (·.1)
 | []=>⟨by simp[wV],λg h=>by simp at h⟩
 | (k,x)::r=>by
  obtain⟨i1,i2⟩:=b21 f v r;rw[show wV f v ((k,x)::r)=(if k=f then(k,v)::r else(k,x)::wV f v r)from rfl]
  by_cases hk:k=f
  .rw[a8 hk];subst hk;exact⟨ae,λg h=>by exists h⟩
  .rw[a7 hk];refine⟨?_,λg h=> ?_⟩
   .rw[cS];exact bM _ i1
   .rw[cS]at h⊢;rcases aT.mp h with e|e
    .exact aT.mpr (.inl e)
    .exact bM _ (i2 g e)
theorem b65 (f:Str)(v:V): ∀fs:List (Str×V),(wV f v fs).length<=fs.length+1
 | []=>by simp[wV]
 | (k,x)::r=>by
  have ih:=b65 f v r;rw[show wV f v ((k,x)::r)=(if k=f then(k,v)::r else(k,x)::wV f v r)from rfl]
  by_cases hk:k=f
  .rw[a8 hk,dP,dP];lia
  .rw[a7 hk,dP,dP];lia
theorem cH3.some_of {v:V}{o:Option Value}(r:cH3 (some v) o): ∃u,o=some u/\RelV v u:=by
 cases o with
 | none=>exact(show False from r).elim
 | some u=>exact⟨u,rfl,r⟩
theorem cX5 {v:V}(r:RelV v u):PySem.W.handedIn u=true:=by
 cases v with
 | non=>cases (show u=Value.none from r);rfl
 | bl b=>cases (show u=Value.bool b from r);rfl
 | int i=>obtain⟨t,e⟩:=(show ∃t,u=Value.int i t from r);cases e;rfl
 | str x=>obtain⟨t,e⟩:=(show ∃t,u=Value.str x t from r);cases e;rfl
 | byt b=>obtain⟨t,e⟩:=(show ∃t,u=Value.bytes b t from r);cases e;rfl
 | flt b=>obtain⟨t,e⟩:=(show ∃t,u=Value.float b t from r);cases e;rfl
 | ref a=>cases (show u=Value.ref a from r);rfl
 | ty n=>cases (show u=Value.type n from r);rfl
section
variable {P:Program}{w:World}{H H':Hp}{h h':Heap}{a C dx:Addr}{fs fs':List (Str×V)}
theorem cP2 (hok:HOk P w H h)(e:H a=some (.ins C dx fs)): ∃mA,cX3 h a dx C mA/\(∀f,cH3 (fs.lookup f)<|mA f)/\PySem.Within mA (fs.map (·.1))/\fs.length<=1000/\H dx=some (.own a):=by
 obtain⟨d,z,ne,ob,mA,n,r,q⟩:=(show t9 P w H h a (.ins C dx fs)from hok a _ e)
 exact⟨mA,⟨ob,n,ne⟩,r,q,z,d⟩
end
structure Cls (K:Frag)(C:Addr):Prop where
 pg:plainGet K C Str.empty=true
 hd:hasDictIn K C=true
 po:plainOver K C=true
 sa:findIn K (.ref C) "__setattr__"=some (some<|.builtin "object.__setattr__")
theorem Cls.get (c:Cls K C)(f:Str):plainGet K C f=true:=c.pg
def aA6 (K:Frag)(C:Addr)(f:Str):Prop:=findIn K (.ref C) f=some none
theorem aA6.taker {f:Str}(n:aA6 K C f):takerIn K C f=some none:=by
 unfold takerIn;rw[show findIn K (.ref C) f=some none from n]
 rfl
section
variable {X:Cx}{pins:List (Addr×Obj)}{σ:St}{H:Hp}{s:Shared}{a C dx:Addr}{fs:List (Str×V)}{f:Str}{v:V}{A:Around}{E:Value->Shared->Prop}
theorem cH9 {b:Bool}(I:Inv X pins σ H s)(e:H a=some (.ins C dx fs))(c:Cls X.K C)(n:aA6 X.K C f)(l:fs.lookup f=some v)
  (h: ∀u s',Inv X pins σ H s'->RelV v u->Q u s'):wpAny (model X.prog X.w) A (getAttr (.ref a) f b) Q E s:=by
 obtain⟨mA,O,r,_,_,_⟩:=cP2 I.hok e;obtain⟨u,hu,ru⟩:=cH3.some_of (v:=v) (o:=mA f) (by rw[<-l];exact r f)
 exact dL8 I.kIn O (c.get f) c.hd n hu (cX5 ru) (h u _ (I.tok _) ru)
theorem cI0 {y:V}{Q:Unit->Shared->Prop}(I:Inv X pins σ H s)(e:H a=some (.ins C dx fs))(c:Cls X.K C)(n:aA6 X.K C f)(hl:fs.length<1000)(ry:RelV y u)
  (h: ∀s',Inv X pins σ (upd H a<|.ins C dx<|wV f y fs) s'->Q () s'):wpAny (model X.prog X.w) A (setAttr (.ref a) f u) Q E s:=by
 obtain⟨mA,O,r,wi,_,ho⟩:=cP2 I.hok e;have hz:(fs.map (·.1)).length<=sizeLine:=by rw[aF,sizeLine_eq];lia
 refine dL9 I.kIn O c.sa c.po n.taker c.hd wi hz λh' O' sb=>h _ ?_
 have hd: ∃o,h'.get? dx=some o:=let ⟨o,_,_,e',_⟩:=O'.ns;⟨o,e'⟩;refine I.write (x:=a) (e:=dx) (by rw[e];exact True.intro) (.inr ho) (λb q hb z=>(sb.2 b hb).trans z) hd ?_
 refine⟨by rw[cV O.ne];exact ho,?_,O.ne,O'.obj,_,O'.ns,λg=> ?_,λg hg=> ?_⟩
 .have:=b65 f y fs;lia
 .show cH3 ((wV f y fs).lookup g) (if g=f then some u else mA g)
  rw[b64]
  by_cases q:g=f
  .rw[a8 q,a8 q];exact ry
  .rw[a7 q,a7 q];exact r g
 .by_cases q:g=f
  .rw[q];exact(b21 f y fs).1
  .refine(b21 f y fs).2 g (wi g λz=>hg ?_)
   show(if g=f then some u else mA g)=none
   rw[a7 q];exact z
theorem Inv.made (I:Inv X pins σ H s):Inv X pins σ (upd (upd H s.heap.objs.size<|.own<|s.heap.objs.size+1) (s.heap.objs.size+1)<|.ins C s.heap.objs.size [])
  {s with heap:=(s.heap.push emptyDict).push (instObj C s.heap.objs.size)}:=by
 have e1:(s.heap.push emptyDict).get? s.heap.objs.size=some emptyDict:=cO s.heap rfl;have e2:((s.heap.push emptyDict).push<|instObj C s.heap.objs.size).get? (s.heap.objs.size+1)=some (instObj C s.heap.objs.size):=by
  have:=cO (s.heap.push emptyDict) (o:=instObj C s.heap.objs.size) rfl
  rwa [rQ]at this
 have e3:(s.heap.push emptyDict).Ns s.heap.objs.size (λ_=>none):=⟨emptyDict,#[],_,e1,rfl,(λe he=>absurd he ae),λ_=>rfl⟩
 have I1:=I.laid (a:=s.heap.objs.size) (o:= .own (s.heap.objs.size+1)) (h':=s.heap.push emptyDict) (t':=s.toks) (λb u q=>bE _ q) (aG _) ⟨_,e1⟩
 refine I1.laid (a:=s.heap.objs.size+1) (o:= .ins C s.heap.objs.size []) (t':=s.toks) (λb u q=>bE _ q) (le_of_eq<|rQ _ _) ?_
 have ne:s.heap.objs.size≠s.heap.objs.size+1:=b9 (rO _);refine⟨by rw[cV ne,jM],dI _,ne,e2,λ_=>none,(Heap.Ns1.of_empty e3).at λo q=>bE _ q,λ_=>True.intro,λy hy=>absurd rfl hy⟩
theorem dM0 {prog:Program}{env:Env}{f:Str}{s:Shared}(hb:attributeBase e f env (eval e env)=eval e env)
  (h:wpAny (model prog w) A (eval e env) (λo s₁=>wpAny (model prog w) A (getAttr o f true) Q E s₁) E s):wpAny (model prog w) A (eval (.Attribute e f pos) env) Q E s:=
 Attribute_any_ h (by rw[arm_eval_Attribute,hb])
end
def tFld (K:Frag)(ta:TE)(f:Str):TE:=λσ H Q=>ta σ H λx H1=> ∃a C dx fs v,x= .ref a/\H1 a=some (.ins C dx fs)/\Cls K C/\aA6 K C f/\fs.lookup f=some v/\Q v H1
def d48 (K:Frag)(ta tv:TE)(f:Str):TS:=λD σ H=>tv σ H λy H1=>ta σ H1 λx H2=> ∃a C dx fs,x= .ref a/\H2 a=some (.ins C dx fs)/\Cls K C/\aA6 K C f/\fs.length<1000/\
 D.nx σ (upd H2 a<|.ins C dx<|wV f y fs)
section
variable {X:Cx}{o e value:Expr}{f:Str}{pos pos' tpos:Pos}{ta tv:TE}
theorem pe_fld (he:PE X e ta)(hb:attributeBase e f X.env (eval e X.env)=eval e X.env):PE X (.Attribute e f pos) (tFld X.K ta f):=by
 intro pins s σ H Q I h;refine dM0 hb (thn (he pins s σ H _ I h) λu s1 zz=> ?_)
 obtain⟨x,H1,I1,rx,a,C,dx,fs,v,ex,ea,c,n,l,q⟩:=zz;subst ex;obtain rfl:u=Value.ref a:=rx;exact cH9 I1 ea c n l λu' s2 I2 ru=>⟨v,H1,I2,ru,q⟩
theorem cI1 (ha:PE X o ta)(hv:PE X value tv)(hs:swapsWith value (some<|.Attribute o f pos') pos.line X.env=pure false):PS X (.Assign [.Attribute o f pos'] value pos) (d48 X.K ta tv f):=by
 intro pins s σ H D I h;refine aM9 (thn (hv pins s σ H _ I h) λu s1 ⟨y,H1,I1,ry,q⟩=>thn (ha pins s1 σ H1 _ I1 q) λov s2 zz=> ?_) hs
 obtain⟨x,H2,I2,rx,a,C,dx,fs,ex,ea,c,n,l,q2⟩:=zz;subst ex;obtain rfl:ov=Value.ref a:=rx;exact cI0 I2 ea c n l ry λs3 I3=>⟨σ,_,I3,q2⟩
end
structure iX (k:Nat)(A:Around):Prop where
 hd:A.handled=none
 dp:A.depth+3*k+5<recursionLimit
 un:A.units+16*k+200<cLine
theorem iX.mono (r:iX k A)(h:j<=k):iX j A:=⟨r.hd,by have:=r.dp;lia,by have:=r.un;lia⟩
theorem iX.deeper (r:iX (k+1) A)(env:Env):iX k (A.deeper env):=
 ⟨r.hd,by have:=r.dp;show A.depth+1+3*k+5<_;lia,by have:=r.un;show A.units+3+16*k+200<_;lia⟩
theorem cI2 :(A.under<|.builtin "type.__call__" ⟨.ref C::us,kw⟩).depth=A.depth+1:=by
 first|rfl|simp[Around.under,Code.weight,Code.isCreation,Code.isGuard,Code.isCaller,Code.frames,Code.isFrame,guardIds]
theorem cI3 :(A.under<|.builtin "type.__call__" ⟨.ref C::us,kw⟩).units=A.units+1:=by
 first|rfl|simp[Around.under,Code.cUnits,Code.frames,Code.isFrame]
theorem iX.make (r:iX (k+1) A)(C:Addr)(us:List Value)(kw:List (Str×Value)):iX k (A.under<|.builtin "type.__call__" ⟨.ref C::us,kw⟩):=
 ⟨r.hd,by have:=r.dp;rw[cI2];omega,by have:=r.un;rw[cI3];omega⟩
theorem iX.depth (r:iX k A):A.depth<recursionLimit:=by have:=r.dp;lia
theorem iX.units (r:iX k A):A.units+64<cLine:=by have:=r.un;lia
def tNil:TA:=λ_ H Q=>Q [] H
def tCons (ta:TE)(tr:TA):TA:=λσ H Q=>ta σ H λx H1=>tr σ H1 λxs H2=>Q (x::xs) H2
section
variable {X:Cx}{e:Expr}{es:List Expr}{te:TE}{t:TA}{pos:Pos}
theorem cI4:PA X [] tNil:=λ_ _ _ _ H Q I h=>Calls.spliced_nil ⟨[],H,I,.nil,h⟩
theorem bX7 (ha:PE X e te)(hr:PA X es t)(hs:↥(starEach (e::es) X.env=(false,eval e X.env)::starEach es X.env)):PA X (e::es) (tCons te t):=by
 intro pos pins s σ H Q I h;rw[hs];show wpAny _ _ (spliced ((false,eval e X.env)::backTo pos (starEach es X.env))) _ _ s;refine Calls.spliced_cons (thn (ha pins s σ H _ I h) λu s1 ⟨x,H1,I1,r1,q1⟩=> ?_)
 exact thn (hr pos pins s1 σ H1 _ I1 q1) λus s2 ⟨xs,H2,I2,r2,q2⟩=>⟨x::xs,H2,I2,.cons r1 r2,q2⟩
def tTup (t:TA):TE:=λσ H Q=>t σ H λxs H1=>xs.length<=sizeLine/\ ∀p,H1 p=none->Q (.ref p) (upd H1 p<|.tup xs)
def tLst (t:TA):TE:=λσ H Q=>t σ H λxs H1=>xs.length<=sizeLine/\ ∀p,H1 p=none->Q (.ref p) (upd H1 p<|.lst xs)
theorem pe_tup {x1}(h:PA X es t):PE X (.Tuple es x1 pos) (tTup t):=by
 intro pins s σ H Q I hq;refine wpAny_Tuple_spliced (thn (h pos pins s σ H _ I hq) λus s1 ⟨xs,H1,I1,r,z,q⟩=>⟨by rw[<-r.length];exact z,?_⟩)
 have hf:H1 s1.heap.objs.size=none:=I1.hok.fresh (aG _);refine⟨.ref s1.heap.objs.size,upd H1 s1.heap.objs.size<|.tup xs,I1.laid (t':=s1.toks) (λb u e=>bE _ e) (aG _) ?_,rfl,q _ hf⟩
 exact⟨z,us,r,⟨_,cO _ rfl,rfl,_,rfl⟩⟩
theorem pe_lst (h:PA X es t):PE X (.List es pos) (tLst t):=by
 intro pins s σ H Q I hq;refine wpAny_List_spliced (thn (h pos pins s σ H _ I hq) λus s1 ⟨xs,H1,I1,r,z,q⟩=>⟨by rw[<-r.length];exact z,?_⟩)
 have hf:H1 s1.heap.objs.size=none:=I1.hok.fresh (aG _);refine⟨.ref s1.heap.objs.size,upd H1 s1.heap.objs.size<|.lst xs,I1.laid (t':=s1.toks) (λb u e=>bE _ e) (aG _) ?_,rfl,q _ hf⟩
 exact⟨z,us,0,r,cO _ rfl⟩
end
abbrev Sp:=List V->Hp->VK->XK->Prop
abbrev CXT:=List Env->Hp->Shared->XK->Value->Shared->Prop
structure cI5 (P:Program)(w:World)(K:Frag)(mg:Str->Option Value)(base:Heap)(A:Around)(outer:List Env)(s:Shared)(H:Hp):Prop where
 frames:A.frames=some outer
 mod:Mod K mg base
 bs: ∀b o,base.get? b=some o->s.heap.get? b=some o/\H b=none
 bsz:base.objs.size<=s.heap.objs.size
 funs:s.heap.FunFrames base outer
 frf: ∀b∈frs outer,H b=none
 hok:HOk P w H s.heap
 bare:AllBare s.gens
def CE (outer:List Env)(P:Program)(w:World)(H:Hp)(s:Shared)(Q:VK)(u:Value)(s':Shared):Prop:=
 ∃v H',s'.os=s.os/\AllBare s'.gens/\Un (frs outer) [] H H' s.heap s'.heap/\HOk P w H' s'.heap/\RelV v u/\Q v H'
def CR (CX:CXT)(outer:List Env)(P:Program)(w:World)(H:Hp)(s:Shared)(Q:VK)(E:XK)(r:Result)(s':Shared):Prop:=
 match r with
 | .ok (.ret u)=>CE outer P w H s Q u s'
 | .ok _=>False
 | .error e=>CX outer H s E e s'
structure uI (P:Program)(w:World)(K:Frag)(mg:Str->Option Value)(base:Heap)(CX:CXT)(k:Nat)(f:Addr)(fd:FuncData)(ps:List Str)(sp:Sp):Prop where
 len: ∀vs H Q E,sp vs H Q E->vs.length=ps.length
 run: ∀(A:Around) (outer:List Env) (s:Shared) (H:Hp) (args:Args) (us:List Value) (vs:List V) (Q:VK) (E:XK),iX k A->cI5 P w K mg base A outer s H->BindsTo s fd args (ps.zip us)->Vals vs us->sp vs H Q E->
  codeAny (model P w) A (.call (.ref f) args) (CR CX outer P w H s Q E) s
theorem uI.mono {CX:CXT}{ps:List Str}{sp:Sp}(F:uI<$>CX j f fd ps sp)(h:j<=k) :
  uI P w K mg base CX k f fd ps sp:=⟨F.len,λA outer s H args us vs Q E hr=>F.run A outer s H args us vs Q E (hr.mono h)⟩
theorem cI5.make {H:Hp}(e:cI5<$>A outer s H)(C:Addr)(us:List Value)(kw:List (Str×Value)) :
  cI5 P w K mg base (A.under<|.builtin "type.__call__" ⟨.ref C::us,kw⟩) outer s H:=⟨by first|exact e.frames| (simpa[Around.under,Code.envs,Code.isFrame,pushEnvs]using e.frames),e.mod,e.bs,e.bsz,e.funs,e.frf,e.hok,e.bare⟩
section
variable {X:Cx}{pins:List (Addr×Obj)}{σ:St}{H:Hp}{s s':Shared}
theorem Inv.env0 (I:Inv X pins σ H s):cI5 X.prog X.w X.K X.mg X.base X.A X.stack s H:=
 ⟨I.ok.frames,I.ok.mod,I.bs,aN I.ok.bsz I.sz,I.stack,I.stkFree,I.hok,I.bare⟩
theorem Inv.after {Q:VK}(I:Inv X pins σ H s)(h:CE X.stack X.prog X.w H s Q u s'):EP X pins σ Q u s':=by
 obtain⟨v,H',os,bare,un,hok,r,q⟩:=h;obtain⟨hh,g,d,t,os'⟩:=s';obtain rfl:os'=s.os:=os;exact⟨v,H',I.call (h':=hh) (g':=g) (d':=d) (t':=t) (ch:=[]) un hok bare λb z=>absurd z ae,r,q⟩
end
def d49 (sp:Sp)(dvs:List V)(E:XK)(t:TA):TE:=λσ H Q=>t σ H λvs H1=>sp (vs++dvs) H1 Q E
def cP3 (C:Addr)(sp:Sp)(dvs:List V)(E:XK)(t:TA):TE:=λσ H Q=>t σ H λvs H1=> ∀x dx,H1 x=none->H1 dx=none->dx≠x->
 sp (.ref x::(vs++dvs)) (upd (upd H1 dx<|.own x) x<|.ins C dx []) (λv H2=>v= .non/\Q (.ref x) H2) E
def Binds (K:Frag)(fd:FuncData)(ps:List Str)(ds:List Value):Prop:=
 ∀(s:Shared) (us:List Value),K.In s.heap->(us++ds).length=ps.length->BindsTo s fd ⟨us,[]⟩ (ps.zip<|us++ds)
theorem Binds.all {ps:List Str}(h: ∀us:List Value,us.length=ps.length->bindArgs fd ⟨us,[]⟩=pure (ps.zip us)):Binds K fd ps []:=λs us _ hl=>by
 rw[lK]at hl⊢;exact .of_eq (h us hl)
def xW (CX:CXT)(X:Cx)(E:XK):Prop:= ∀(pins:List (Addr×Obj)) (σ:St) (H:Hp) (s:Shared) (e:Value) (s':Shared),Inv X pins σ H s->CX X.stack H s E e s'->X.xe e s'
section
variable {X:Cx}{CX:CXT}{k:Nat}{f C:Addr}{fd:FuncData}{ps:List Str}{sp:Sp}{dvs:List V}{ds:List Value}{E:XK}{x m:Str}{p pos apos:Pos}{e o:Expr}{es:List Expr}{ta:TE}{t:TA}
theorem d50 {pins:List (Addr×Obj)}{σ:St}{H:Hp}{s:Shared}{Q:VK}{us:List Value}{vs:List V}(F:uI X.prog X.w X.K X.mg X.base CX k f fd ps sp)(hr:iX k X.A)(hb:Binds X.K fd ps ds)(hd:Vals dvs ds)(hx:xW CX X E)
  (I:Inv X pins σ H s) (r:Vals vs us) (h:sp (vs++dvs) H Q E):X∩(call (.ref f) us) (EP X pins σ Q) X.xe s:=by
 have r2:Vals (vs++dvs) (us++ds):=r.append hd;have hl:(us++ds).length=ps.length:=by rw[<-r2.length];exact F.len _ _ _ _ h
 refine vO (vI (F.run X.A X.stack s H ⟨us,[]⟩ (us++ds) (vs++dvs) Q E hr I.env0 (hb s us I.kIn hl) r2 h) λr s' hq=> ?_)
 cases r with
 | error e=>exact hx pins σ H s e s' I hq
 | ok fl=>
  cases fl with
  | ret u=>exact I.after hq
  | next=>exact False.elim hq
  | brk=>exact False.elim hq
  | cont=>exact False.elim hq
theorem cP4 (F:uI X.prog X.w X.K X.mg X.base CX k f fd ps sp)(hr:iX k X.A)(hg:Gl X x)(hm:X.mg x=some (.ref f))(hk:keepIn X.K (.ref f)=true)(hb:Binds X.K fd ps ds)(hd:Vals dvs ds)(hx:xW CX X E)
  (ha:PA X (e::es) t) (hdb:⇑(x∪0)) (he:↥(starEach (e::es) X.env=(false,eval e X.env)::starEach es X.env)) (hpl:↥((backTo pos<|starEach es X.env).any (·.1)=false)) :
  PE X (.Call (.Name x p) (e::es) [] pos) (d49 sp dvs E t):=by
 intro pins s σ H Q I h;refine rL (x9 I hg hm ?_ hdb);refine aP7 (h₀:=X.base) I.ok.mod.kin hk (thn (ha pos pins s σ H _ I h) λus s1 ⟨vs,H1,I1,r,q⟩=>⟨I1.kIn,?_⟩) he hpl
 exact d50 F hr hb hd hx I1 r q
theorem d51 (F:uI X.prog X.w X.K X.mg X.base CX k f fd ps sp)(hr:iX k X.A)(hg:Gl X x)(hm:X.mg x=some (.ref f))(hk:keepIn X.K (.ref f)=true)(hb:Binds X.K fd ps ds)(hd:Vals dvs ds)(hx:xW CX X E)
  (hdb:⇑(x∪0)):PE X (.Call (.Name x p) [] [] pos) (d49 sp dvs E tNil):=by
 intro pins s σ H Q I h;refine rL (x9 I hg hm ?_ hdb);exact PySem.W.callWith_K0 I.kIn hk (d50 (us:=[]) F hr hb hd hx I .nil h)
structure Mk (K:Frag)(C f:Addr):Prop where
 makes:makesIn K C=true
 init:findIn K (.ref C) "__init__"=some (some<|.ref f)
 fn:PySem.W.isFn K (.ref f)=true
 kp:keepIn K (.ref C)=true
theorem d52 {pins:List (Addr×Obj)}{σ:St}{H:Hp}{s:Shared}{Q:VK}{us:List Value}{vs:List V}(M:Mk X.K C f)(F:uI X.prog X.w X.K X.mg X.base CX k f fd ps sp)(hr:iX (k+1) X.A)(hb:Binds X.K fd ps ds)(hd:Vals dvs ds)
  (hx:xW CX X E) (I:Inv X pins σ H s) (r:Vals vs us)
  (h: ∀x dx,H x=none->H dx=none->dx≠x->sp (.ref x::(vs++dvs)) (upd (upd H dx<|.own x) x<|.ins C dx []) (λv H2=>v= .non/\Q (.ref x) H2) E) :
  X∩(call (.ref C) us) (EP X pins σ Q) X.xe s:=by
 have hq:=h (s.heap.objs.size+1) s.heap.objs.size (I.hok.fresh<|pC _) (I.hok.fresh<|aG _) (b9<|rO _);have I2:=Inv.made (C:=C) I;have r2:Vals (V.ref (s.heap.objs.size+1)::(vs++dvs)) (Value.ref (s.heap.objs.size+1)::(us++ds)):= .cons rfl (r.append hd);have hl:(Value.ref (s.heap.objs.size+1)::us++ds).length=ps.length:=by
  have e:=r2.length;rw[F.len _ _ _ _ hq]at e;exact e.symm
 refine vO (c69 (f:=f) I.kIn M.makes M.init (gA.mp M.fn) (vI (F.run _ X.stack _ _ ⟨Value.ref (s.heap.objs.size+1)::us,[]⟩ (Value.ref (s.heap.objs.size+1)::(us++ds)) _ _ E (hr.make C us [])
  (I2.env0.make C us []) (hb _ (Value.ref (s.heap.objs.size+1)::us) I2.kIn hl) r2 hq) λr s' hq'=> ?_))
 cases r with
 | error e=>exact hx pins σ _ _ e s' I2 hq'
 | ok fl=>
  cases fl with
  | ret u=>
   obtain⟨v,H',I3,rv,ev,q3⟩:=I2.after hq';subst ev;exact⟨rv,⟨V.ref<|s.heap.objs.size+1,H',I3,rfl,q3⟩⟩
  | next=>exact False.elim hq'
  | brk=>exact False.elim hq'
  | cont=>exact False.elim hq'
theorem dM1 (M:Mk X.K C f)(F:uI X.prog X.w X.K X.mg X.base CX k f fd ps sp)(hr:iX (k+1) X.A)(hg:Gl X x)(hm:X.mg x=some (.ref C))(hb:Binds X.K fd ps ds)(hd:Vals dvs ds)(hx:xW CX X E)
  (ha:PA X (e::es) t) (hdb:⇑(x∪0)) (he:↥(starEach (e::es) X.env=(false,eval e X.env)::starEach es X.env)) (hpl:↥((backTo pos<|starEach es X.env).any (·.1)=false)) :
  PE X (.Call (.Name x p) (e::es) [] pos) (cP3 C sp dvs E t):=by
 intro pins s σ H Q I h;refine rL (x9 I hg hm ?_ hdb);refine aP7 (h₀:=X.base) I.ok.mod.kin M.kp (thn (ha pos pins s σ H _ I h) λus s1 ⟨vs,H1,I1,r,q⟩=>⟨I1.kIn,?_⟩) he hpl
 exact d52 M F hr hb hd hx I1 r q
end
section
variable {X:Cx}{CX:CXT}{k:Nat}{f C:Addr}{fd:FuncData}{ps ks:List Str}{sp:Sp}{E:XK}{x m:Str}{p pos apos kpos:Pos}{e o:Expr}{es:List Expr}{kws:List Keyword}{te ta:TE}{t tk:TA}{nm:Option Str}
variable {g:List Value->List Value->List Value}{gV:List V->List V->List V}
end
structure bC (N P:List Str)(sc:Scope):Prop where
 kind:sc.kind= .function
 co:sc.isCoroutine=false
 gen:sc.isGenerator=false
 nd:N.Nodup
 pre:N.take P.length=P
 par: ∀x∈P,sc.names.lookup x=some .local\/sc.names.lookup x=some .cell
 nofree: ∀y∈sc.names,y.2≠ .free
theorem bS0 {kindOf:Str->Option NameKind}{x:Str}: ∀{binds:List (Str×Value)} {m:Str->Option Value},(∀v,(x,v) ∉ binds)->bindL kindOf binds m x=m x
 | [],_,_=>rfl
 | (n,v)::r,m,h=>by
  unfold bindL;rw[bS0 λw hw=>h w (bM _ hw)]
  split
  .have:x≠n:=by rintro rfl;exact h v b7
   simp[this]
  .rfl
theorem bS1 {kindOf:Str->Option NameKind}{x:Str}: ∀{binds:List (Str×Value)} {m:Str->Option Value},(∀v,(x,v) ∉ binds)->bindC kindOf binds m x=m x
 | [],_,_=>rfl
 | (n,v)::r,m,h=>by
  unfold bindC;rw[bS1 λw hw=>h w (bM _ hw)]
  split
  .rfl
  .have:x≠n:=by rintro rfl;exact h v b7
   simp[this]
theorem bS2 {kindOf:Str->Option NameKind}{x:Str}{v:Value}: ∀{P:List Str} {vs:List Value} {i:Nat} {m:Str->Option Value},P.Nodup->P[i]? =some x->vs[i]? =some v->kindOf x=some .local->
  bindL kindOf (P.zip vs) m x=some v
 | [],_,_,_,_,h,_,_=>by simp at h
 | _::_,[],_,_,_,_,h,_=>by simp at h
 | p::P,w::vs,0,m,nd,h1,h2,hk=>by
  simp at h1 h2;subst h1;subst h2
  show bindL kindOf ((p,w)::P.zip vs) m p=_
  unfold bindL;rw[bS0 λv hv=>(a20.mp nd).1 (a21 hv).1,a8 hk]
  simp
 | p::P,w::vs,i+1,m,nd,h1,h2,hk=>by
  show bindL kindOf ((p,w)::P.zip vs) m x=_
  unfold bindL;exact bS2 (i:=i) (a20.mp nd).2 (by exists h1) (by exists h2) hk
theorem bS3 {kindOf:Str->Option NameKind}{x:Str}{v:Value}: ∀{P:List Str} {vs:List Value} {i:Nat} {m:Str->Option Value},P.Nodup->P[i]? =some x->vs[i]? =some v->kindOf x≠some .local->
  bindC kindOf (P.zip vs) m x=some v
 | [],_,_,_,_,h,_,_=>by simp at h
 | _::_,[],_,_,_,_,h,_=>by simp at h
 | p::P,w::vs,0,m,nd,h1,h2,hk=>by
  simp at h1 h2;subst h1;subst h2
  show bindC kindOf ((p,w)::P.zip vs) m p=_
  unfold bindC;rw[bS1 λv hv=>(a20.mp nd).1 (a21 hv).1,a7 hk]
  simp
 | p::P,w::vs,i+1,m,nd,h1,h2,hk=>by
  show bindC kindOf ((p,w)::P.zip vs) m x=_
  unfold bindC;exact bS3 (i:=i) (a20.mp nd).2 (by exists h1) (by exists h2) hk
nonrec def start (N:List Str)(vs:List V):St:=vs.map some++replicate (N.length-vs.length) none
nonrec def vT (CX:CXT)(P:Program)(w:World)(K:Frag)(mg:Str->Option Value)(base:Heap)(N:List Str)(qual:Str)(scope:Scope)(f:Addr)(cd:Value)(A:Around)(outer:List Env)(s:Shared)(H:Hp)(E:XK):Cx where
 prog:=P
 w:=w
 K:=K
 mg:=mg
 base:=base
 A:=A.deeper (envOfC qual scope s.heap.objs.size f cd)
 N:=N
 s₀:=s
 H₀:=H
 env:=envOfC qual scope s.heap.objs.size f cd
 outer:=outer
 stack:=envOfC qual scope s.heap.objs.size f cd::outer
 ex:=[]
 calm:=true
 fn:=λ_=>true
 pn:=[]
 xe:=λe s'=>wpAny (model P w) (A.deeper<|envOfC qual scope s.heap.objs.size f cd) (leaving (envOfC qual scope s.heap.objs.size f cd) e) (λ_ s''=>CX outer H s E e s'') (λe' s''=>CX outer H s E e' s'') s'
theorem c70 {sc:Scope}(h:sc.names.lookup x=some .cell): ∃c,(cellsFrom n sc.names []).lookup x=some c:=by
 have q:=aO0 sc.names n [] (.inl h);exact aN1.mp q
theorem bS4 {CX:CXT}{ps:List Str}{cd:Value}{s1:Shared}{H:Hp}{E:XK}{vs:List V}
  (S:bC N ps scope) (hd:A.handled=none) (e0:cI5<$>A outer s H) (hl:vs.length=ps.length) (r:Vals vs us)
  (x:InCallC s s.heap.objs.size (bindL (envOfC qual scope s.heap.objs.size f cd).kindOf (ps.zip us) λ_=>none) (cellsFrom (s.heap.objs.size+1) scope.names []) (bindC (envOfC qual scope s.heap.objs.size f cd).kindOf (ps.zip us) λ_=>none) s1) :
  Inv (vT CX P w K mg base N qual scope f cd A outer s H E) [] (start N vs) H s1:=by
 have hpl:ps.length<=N.length:=by have:=bO length S.pre;rw[jV]at this;lia
 obtain⟨h1,tk,rfl,hk⟩:=x.done;have noA: ∀b:Addr,b ∉ (vT CX P w K mg base N qual scope f cd A outer s H E).ex:=λb z=>absurd (show b∈([]:List Addr)from z) ae
 refine⟨⟨e0.mod,S.kind,rfl,rfl,aG _,λy z c h1 h2=> ?_,λy hy=> ?_,λy c _ h=> ?_,λ_=>hd,Around.frames_deeper e0.frames,.inr ⟨rfl,rfl⟩,λb z=>absurd z (noA b),e0.bs,e0.bsz,λb _ _=>noA b,λb z=>absurd z (noA b),e0.funs,e0.frf⟩,
  rfl,e0.bare,Un.kept hk,⟨_,x.toInCall.ns,λi y v h1 h2 h3=> ?_⟩,λy c h=>⟨_,x.cell y c h⟩,e0.hok.fresh<|aG _,λy c h=> ?_,λp hp=>absurd (show p∈([]:List (Addr×Obj))from hp) ae,e0.hok.kept hk,?_⟩
 .exact name_of_addr x.apart (rH h1) (rH h2)
 .have hy:scope.names.lookup y=some .cell\/scope.names.lookup y=some .free:=hy;rcases hy with hy|hy
  .exact c70 hy
  .exact absurd rfl (S.nofree _<|rH hy)
 .exact rV (x.above y c<|rH h)
 .have hi:i<vs.length:=by
   unfold start at h2
   by_cases hi:i<vs.length
   .exact hi
   .rw[uQ<|by simpa using hi]at h2
    rw[List.getElem?_replicate]at h2;split at h2<;>cases h2
  have ha:vs[i]? =some v:=by
   unfold start at h2;rw[a03<|by simpa using hi,bX]at h2
   cases e:vs[i]? with
   | none=>rw[e]at h2;cases h2
   | some a=>rw[e]at h2;cases h2;rfl
  obtain⟨u,hu,rv⟩:=r.get ha;have hp:ps[i]? =some y:=by
   rw[<-S.pre,List.getElem?_take_of_lt ad];exact h1
  have ndP:ps.Nodup:=by rw[<-S.pre];exact S.nd.sublist (List.take_sublist _ _)
  refine⟨u,rv,?_⟩
  rcases S.par y (aP1 hp)with k|k
  .exact .inl ⟨k,bS2 ndP hp hu k⟩
  .obtain⟨c,e⟩:=c70 (n:=s.heap.objs.size+1) k;refine .inr ⟨.inl k,c,e,?_⟩;have q:=x.cell y c e;rw[bS3 ndP hp hu (by show scope.names.lookup y≠_;rw[k];decide)]at q
   exact q
 .exact e0.hok.fresh (rV<|x.above y c<|rH h)
 .unfold start;show _=N.length;rw[cI,aF,List.length_replicate]
  lia
theorem d53 {CX:CXT}{P:Program}{w:World}{K:Frag}{mg:Str->Option Value}{base:Heap}{k:Nat}{f:Addr}{name qual:Str}{params:Arguments}{body:List Stmt}{scope:Scope}{dV kV doc pm cdv ct oc:Value}{an od:Option Addr}
  {osl:Array (Option Value)} {N ps:List Str} {sp:Sp} (lk:K.lookup f=some ⟨oc,od,.func<|fnOf name qual params body scope dV kV doc pm an cdv ct,osl⟩) (hcd:codeIn K cdv qual=true) (S:bC N ps scope)
  (len: ∀vs H Q E,sp vs H Q E->vs.length=ps.length)
  (hbody: ∀(A:Around) (outer:List Env) (s:Shared) (H:Hp) (vs:List V) (Q:VK) (E:XK),iX k (A.deeper<|envOfC qual scope s.heap.objs.size f cdv)->sp vs H Q E->
   ∃t,PSs (vT CX P w K mg base N qual scope f cdv A outer s H E) body t/\t {nx:=λ_ H'=>Q .non H',rt:=Q} (start N vs) H) :
  uI P w K mg base CX (k+1) f (fnOf name qual params body scope dV kV doc pm an cdv ct) ps sp:=by
 refine⟨len,λA outer s H args us vs Q E hr e0 hb r hsp=> ?_⟩
 have hl:=len _ _ _ _ hsp;have KX:K.In s.heap:=e0.mod.kin.keeps λb o e=>(e0.bs b o e).1
 have lim:s.heap.NoLimit:=e0.mod.nolimit.keeps λb o e=>(e0.bs b o e).1
 have hkind: ∀y∈ps.zip us,scope.names.lookup y.1=some .local\/(scope.names.lookup y.1=some .cell/\((cellsFrom (s.heap.objs.size+1) scope.names []).lookup y.1).isSome=true):=λ⟨n,v⟩ hy=>by
  rcases S.par n (a21 hy).1 with q|q
  .exact .inl q
  .exact .inr ⟨q,aO0 _ _ _<|.inl q⟩
 refine codeAny_call_function hr.depth (KX _ _ lk) rfl S.co S.gen rfl (PySem.W.codeRec_of KX hcd) (hb _ _ _ _ ?_)
 refine wpAny_newFunctionEnv_cells S.kind hkind λenv he s1 x=> ?_
 subst he;refine⟨lim.keeps x.toInCall.keep,codeAny_func ?_⟩;obtain⟨t,ht,hq⟩:=hbody A outer s H vs Q E (hr.deeper _) hsp;have I:Inv (vT CX P w K mg base N qual scope f cdv A outer s H E) [] (start N vs) H s1:=bS4 S hr.hd e0 hl r x;refine bD (ht [] s1 (start N vs) H _ I hq) (λfl s' hs=> ?_) λe s' hs=>hs
 have fin: ∀{σ':St} {H':Hp} {v:V} {u:Value},Inv (vT CX P w K mg base N qual scope f cdv A outer s H E) [] σ' H' s'->RelV v u->Q v H'->CE outer P w H s Q u s':=
  λ{σ' H' v u} J rv q=>⟨v,H',J.os,J.bare,J.base,J.hok,rv,q⟩
 cases fl with
 | ret u=>
  obtain⟨v,σ',H',J,rv,q⟩:=hs;exact fin J rv q
 | next=>
  obtain⟨σ',H',J,q⟩:=hs;exact fin (v:=V.non) (u:=Value.none) J rfl q
 | brk=>
  obtain⟨_,_,_,q⟩:=hs;exact False.elim q
 | cont=>
  obtain⟨_,_,_,q⟩:=hs;exact False.elim q
section
variable {X:Cx}{x:Str}{p pos:Pos}{e:Expr}{es:List Expr}{t:TA}{id T:String}{r:List V->Hp->VK->Prop}
def tCB (r:List V->Hp->VK->Prop)(t:TA):TE:=λσ H Q=>t σ H λvs H1=>r vs H1 Q
theorem c71 (hc:qV X (.builtin id) r)(hg:Gl X x)(hm:X.mg x=none)(hv:bootBuiltins x=some (.builtin id))(ha:PA X (e::es) t)(hn:⇑(x≠"__name__"))(hdb:⇑(x∪0))
  (he:↥(starEach (e::es) X.env=(false,eval e X.env)::starEach es X.env)) (hpl:↥((backTo pos<|starEach es X.env).any (·.1)=false)):PE X (.Call (.Name x p) (e::es) [] pos) (tCB r t):=by
 intro pins s σ H Q I h;refine rL (a38 I hg hm hv ?_ hn hdb);exact PyProof.Rows.callWith_builtin1 (thn (ha pos pins s σ H _ I h) λus s1 ⟨vs,H1,I1,r1,q1⟩=>hc pins s1 σ H1 vs us Q I1 r1 q1) he hpl
theorem cX6 (hc:qV X (.type T) r)(hg:Gl X x)(hm:X.mg x=none)(hv:bootBuiltins x=some (.type T))(ha:PA X (e::es) t)(hn:⇑(x≠"__name__"))(hdb:⇑(x∪0))
  (he:↥(starEach (e::es) X.env=(false,eval e X.env)::starEach es X.env)) (hpl:↥((backTo pos<|starEach es X.env).any (·.1)=false)):PE X (.Call (.Name x p) (e::es) [] pos) (tCB r t):=by
 intro pins s σ H Q I h;refine rL (a38 I hg hm hv ?_ hn hdb);exact mM (thn (ha pos pins s σ H _ I h) λus s1 ⟨vs,H1,I1,r1,q1⟩=>hc pins s1 σ H1 vs us Q I1 r1 q1) he hpl
end
end L2
namespace HT
open PySem PyProof.Rows
section
open PySem.SeqAt
open PySem.AutoSeq1 (wpAny_loadPart')
open PySem.MeetsSeq PySem.MeetsSeq2 PySem.MeetsSeq3
end
section
variable {prog:Program}{w:World}{A:Around}{E:Value->Shared->Prop}{s:Shared}
theorem cat_tup {ws:List Value}(ht:IsTup s.heap t vs.toArray)(hb:IsTup s.heap b ws.toArray)(hv:vs≠[])
  (h1:ws=[]->Q (.ref t) s) (h2:ws≠[]->Q (.ref s.heap.objs.size) {s with heap:=s.heap.push {cls:= .type "tuple",data:= .seq (vs++ws).toArray}})
  (hsz:vs.length+ws.length<=sizeLine):wpAny (model prog w) A (binaryOp .Add (.ref t)<|.ref b) Q E s:=by
 obtain⟨⟨cls,dd,data,sl⟩,ho,hc,n,hd⟩:=id ht;obtain⟨⟨cls2,dd2,data2,sl2⟩,ho2,hc2,n2,hd2⟩:=id hb;simp only at hc hd hc2 hd2;subst hc hd hc2 hd2;have e:vs.toArray++ws.toArray=(vs++ws).toArray:=ae
 by_cases hw:ws=[]
 .exact concat_meets ⟨_,ho,rfl⟩ ⟨_,ho2,rfl⟩ aQ6 seq_tuple_add aO1 aN6 (aN2 _ _)
   (tuple_addW1 t b vs.toArray ws.toArray n n2 dd dd2 sl sl2 (by exists hv)<|by simp[hw]) ⟨ho,ho2,h1 hw⟩
 .refine concat_meets ⟨_,ho,rfl⟩ ⟨_,ho2,rfl⟩ aQ6 seq_tuple_add aO1 aN6 (aN2 _ _)
   (tuple_addW2 t b vs.toArray ws.toArray n n2 dd dd2 sl sl2 (by exists hv) (by exists hw) (by rw[b6,b6];exact hsz)) ⟨ho,ho2,?_⟩
  rw[e];exact h2 hw
nonrec def sIx (n d:Nat):Option Int->Nat
 | none=>d
 | some v=>if v<0 then(v+(n:Int)).toNat else min v.toNat n
theorem sIx_none (n d:Nat):sIx n d none=d:=rfl
theorem sIx_nat (n d k:Nat):sIx n d (some (k:Int))=min k n:=by
 show(if(k:Int)<0 then((k:Int)+(n:Int)).toNat else min (k:Int).toNat n)=min k n
 rw[a7 ad,jU]
theorem sIx_le (n d:Nat)(hd:d<=n)(o:Option Int):sIx n d o<=n:=by
 cases o with
 | none=>exact hd
 | some v=>
  show(if v<0 then(v+(n:Int)).toNat else min v.toNat n)<=n
  by_cases hv:v<0
  .rw[a8 hv];lia
  .rw[a7 hv];exact Nat.min_le_right _ _
theorem cP5 (v:Int)(n d:Nat):(if v<0 then max (v+(n:Int)) 0 else min v (n:Int))=((sIx n d (some v):Nat):Int):=by
 show(if v<0 then max (v+(n:Int)) 0 else min v (n:Int))=(((if v<0 then(v+(n:Int)).toNat else min v.toNat n):Nat):Int)
 by_cases hv:v<0
 .simp only[a8 hv];lia
 .simp only[a7 hv];lia
theorem cI6 (lo hi:Option Int)(n:Nat):Builtin.Slice.sliceAdjust lo hi 1 (n:Int)=(((sIx n 0 lo:Nat):Int),((sIx n n hi:Nat):Int)):=by
 have h1: ¬((1:Int)<0):=ad
 unfold Builtin.Slice.sliceAdjust;simp only[h1,gW];refine gJ ?_ ?_
 .cases lo with
  | none=>rfl
  | some v=>exact cP5 v n 0
 .cases hi with
  | none=>rfl
  | some v=>exact cP5 v n n
theorem cI7 (i j:Nat):Builtin.Slice.slicePlaces (i:Int) (j:Int) 1=j-i:=by
 unfold Builtin.Slice.slicePlaces;have h1:(1:Int)>0:=ad
 simp only[h1,iQ,Int.ediv_one];split<;>lia
theorem bD0 {o:Option Int}{Q:Option Int->Shared->Prop}(p:IsPart v o)(h:Q o s):wpAny (model prog w) A (Builtin.Slice.slicePartIndex v) Q E s:=by
 cases p with
 | none=>exact slicePart_none h
 | int i t=>exact slicePart_int h
theorem zC {vl:Value}{lo:Option Int}{Q:Int×Int×Nat->Shared->Prop}(hs:s.heap.IsSliceOf sl vl vu .none)(pl:IsPart vl lo)(pu:IsPart vu hi)
  (h:Q (((sIx n 0 lo:Nat):Int),1,sIx n n hi-sIx n 0 lo) s):wpAny (model prog w) A (Builtin.Slice.sliceApplied (.ref sl)<|pure (n:Int)) Q E s:=by
 obtain⟨os,hos,hcs,hds⟩:=id hs;unfold Builtin.Slice.sliceApplied Builtin.Slice.sliceFields;refine a9 (a9<|iP hos hds (x:=vl) rfl (a9<|iP hos hds (x:=vu) rfl (a9<|iP hos hds (x:= .none) rfl (aK ?_))));refine a9 (slicePart_none ?_);show wpAny _ _ (if((1:Int)==0)=true then _ else _) _ _ s;rw[a7 ac]
 refine a9 (bD0 pl<|a9<|bD0 pu<|a9<|aK ?_)
 show wpAny _ _ (match Builtin.Slice.sliceAdjust lo hi 1 (n:Int)with| (lo,hi)=>pure (lo,(1:Int),Builtin.Slice.slicePlaces lo hi 1)) _ _ s
 rw[cI6 lo hi n];show wpAny _ _ (pure (((sIx n 0 lo:Nat):Int),(1:Int),Builtin.Slice.slicePlaces ((sIx n 0 lo:Nat):Int) ((sIx n n hi:Nat):Int) 1)) _ _ s;rw[cI7];exact aK h
theorem d54 (xs:Array Value)(i k:Nat):((List.range k).filterMap fun(m:Nat)=>xs[((i:Int)+(m:Int)*1).toNat]?).toArray=((xs.toList.drop i).take k).toArray:=by
 have e:(fun(m:Nat)=>xs[((i:Int)+(m:Int)*1).toNat]?)=λm=>xs[i+m]? :=by
  funext m
  have:((i:Int)+(m:Int)*1).toNat=i+m:=ad
  rw[this]
 rw[e];have:=pick_run xs i k;rw[List.filterMap_map]at this;have e2:((λx=>xs[x]?)∘λx=>i+x)=λm=>xs[i+m]? :=rfl
 rw[e2]at this;rw[this]
theorem getItem_tuple_cut {vl:Value}{lo:Option Int}(ht:IsTup s.heap t items)(hs:s.heap.IsSliceOf sl vl vu .none)(pl:IsPart vl lo)(pu:IsPart vu hi)
  (hw: ¬(sIx items.size 0 lo=0/\sIx items.size items.size hi=items.size))
  (h:Q (.ref s.heap.objs.size) {s with heap:=s.heap.push {cls:= .type "tuple",data:= .seq ((items.toList.drop<|sIx items.size 0 lo).take<|sIx items.size items.size hi-sIx items.size 0 lo).toArray}})
  (hsz:items.size<=sizeLine):wpAny (model prog w) A (getItem (.ref t)<|.ref sl) Q E s:=by
 have htake:sizeOk (.seq ((items.toList.drop<|sIx items.size 0 lo).take<|sIx items.size items.size hi-sIx items.size 0 lo).toArray):=by
  show((items.toList.drop<|sIx items.size 0 lo).take<|sIx items.size items.size hi-sIx items.size 0 lo).toArray.size<=sizeLine
  rw[b6,jV,a17,oS];omega
 have hj:sIx items.size items.size hi<=items.size:=sIx_le _ _ (aG _) hi;obtain⟨os,hos,hcs,hds⟩:=id hs;have hTs:s.TypeIs (.ref sl) "slice":=⟨os,hos,hcs⟩;unfold getItem;try with_reducible refine iO ?_
 first|refine a9 (aK ?_)|skip
 refine a9 (wpAny_sequenceKey ht.typeIs ac ?_)
 refine a9 (rC (name:=Str.ofString "__getitem__") ht.typeIs a02
  (jW a02 ht.typeIs entry_tuple_getitem ?_<|args_tuple_getitem _ _))
 show wpAny _ _ (Builtin.Tuple.tupleItemsOf (.ref t) >>= _) _ _ s
 refine a9 (tupleItemsOf_ ht ?_)
 refine a9 (a31 hTs ?_)
 rw[a8 ac]
 refine a9 (zC hs pl pu ?_)
 have hno: ¬((((sIx items.size 0 lo:Nat):Int)==0&&(1:Int)==1&&(sIx items.size items.size hi-sIx items.size 0 lo)==items.size)=true):=by
  intro q;rw[bP,bP]at q;have q1:((sIx items.size 0 lo:Nat):Int)=0:=eq_of_beq q.1.1;have q2:sIx items.size items.size hi-sIx items.size 0 lo=items.size:=eq_of_beq q.2;exact hw ⟨aa,aa⟩
 show wpAny _ _ (if(((sIx items.size 0 lo:Nat):Int)==0&&(1:Int)==1&&(sIx items.size items.size hi-sIx items.size 0 lo)==items.size)=true then _ else _) _ _ s
 rw[a7 hno,d54]
 first
  | exact a9 (m:=Builtin.Tuple.tupleExact _) (lH (aK ⟨_,rfl,aK h⟩) htake)
  | exact a9 (m:=Builtin.Tuple.tupleExact _) (lH (a9<|aK<|aK ⟨_,rfl,aK h⟩) htake)
  | exact a9 (a9 (m:=Builtin.Tuple.tupleExact _)<|lH (aK<|aK ⟨_,rfl,aK h⟩) htake)
  | exact a9 (a9 (m:=Builtin.Tuple.tupleExact _)<|lH (aK ⟨_,rfl,aK h⟩) htake)
end
end HT
namespace L2
abbrev TO:=St->Hp->(Option Int->Hp->Prop)->Prop
def PO (X:Cx)(e:Option Expr)(t:TO):Prop:=
 ∀(pins:List (Addr×Obj)) (s:Shared) (σ:St) (H:Hp) (Q:Option Int->Hp->Prop),Inv X pins σ H s->t σ H Q->
  X∩(evalPart e X.env) (λu s'=> ∃o H',Inv X pins σ H' s'/\IsPart u o/\Q o H') X.xe s
def dM2:TO:=λ_ H Q=>Q none H
def tPart (t:TE):TO:=λσ H Q=>t σ H λx H1=> ∃i,x= .int i/\Q (some i) H1
theorem intsAre_of {ns:List Int}: ∀{us:List Value},Vals (ns.map V.int) us->IntsAre us ns:=by
 induction ns with
 | nil=>intro us r;rw[mV]at r;cases r;exact .nil
 | cons n ns ih=>
  intro us r;rw[cS]at r;cases r with
  | cons r1 r2=>
   obtain⟨t,e⟩:=r1;subst e;exact .cons n t (ih r2)
section
variable {X:Cx}{e:Expr}{te:TE}{lo hi:Option Expr}{tl th:TO}{pos p2:Pos}
theorem dM3:PO X none dM2:=by
 intro pins s σ H Q I h;rw[evalPart_none];exact aK ⟨none,H,I,.none,h⟩
theorem cP6 (h:PE X e te):PO X (some e) (tPart te):=by
 intro pins s σ H Q I hw;rw[evalPart_some];refine thn (h pins s σ H _ I hw) λu s1 ⟨x,H1,I1,r1,q1⟩=> ?_
 obtain⟨i,rfl,q⟩:=q1;obtain⟨t,rfl⟩:=r1;exact⟨some i,H1,I1,.int i t,q⟩
def SlR (X:Cx)(r:V->Option Int->Option Int->Hp->VK->Prop):Prop:=
 ∀(pins:List (Addr×Obj)) (s:Shared) (σ:St) (H:Hp) (x:V) (v vl vu:Value) (lo hi:Option Int) (sl:Addr) (Q:VK),Inv X pins σ H s->RelV x v->s.heap.IsSliceOf sl vl vu .none->IsPart vl lo->IsPart vu hi->r x lo hi H Q->
  ∃T id,typeLookup (.type T) "__getitem__"=pure (some<|.builtin id)/\s.TypeIs v T/\X∩(getItem v<|.ref sl) (EP X pins σ Q) X.xe s
theorem SlR.or {r r':V->Option Int->Option Int->Hp->VK->Prop}(h:SlR X r)(h':SlR X r'):SlR X (λx lo hi H Q=>r x lo hi H Q\/r' x lo hi H Q):=by
 intro pins s σ H x v vl vu lo hi sl Q I rx hs pl pu q;rcases q with q|q
 .exact h pins s σ H x v vl vu lo hi sl Q I rx hs pl pu q
 .exact h' pins s σ H x v vl vu lo hi sl Q I rx hs pl pu q
def tSl (r:V->Option Int->Option Int->Hp->VK->Prop)(te:TE)(tl th:TO):TE:=λσ H Q=>te σ H λx H1=>tl σ H1 λl H2=>th σ H2 λu H3=>r x l u H3 Q
theorem c72 {r:V->Option Int->Option Int->Hp->VK->Prop}(hr:SlR X r)(he:PE X e te)(hl:PO X lo tl)(hu:PO X hi th):PE X (.Subscript e (.Slice lo hi none p2) pos) (tSl r te tl th):=by
 intro pins s σ H Q I h;refine Subscript_ (thn (he pins s σ H _ I h) λv s1 ⟨x,H1,I1,r1,q1⟩=> ?_)
 refine wpAny_Slice (thn (hl pins s1 σ H1 _ I1 q1) λvl s2 ⟨l,H2,I2,pl,q2⟩=>thn (hu pins s2 σ H2 _ I2 q2) λvu s3 ⟨u,H3,I3,pu,q3⟩=> ?_)
 rw[evalPart_none];refine aK ?_;have I4:Inv X pins σ H3 {s3 with heap:=s3.heap.push {cls:= .type "slice",data:= .fields #[vl,vu,.none]}}:=I3.kept (t':=s3.toks) λb ob q=>bE _ q
 obtain⟨T,id,hT,ht,hg⟩:=hr pins {s3 with heap:=s3.heap.push {cls:= .type "slice",data:= .fields #[vl,vu,.none]}} σ H3 x v vl vu l u s3.heap.objs.size Q I4 r1 (Heap.IsSliceOf.new ..) pl pu q3;show X∩(subscriptTail e (.Slice lo hi none p2) v<|.ref s3.heap.objs.size) (EP X pins σ Q) X.xe {s3 with heap:=s3.heap.push {cls:= .type "slice",data:= .fields #[vl,vu,.none]}}
 exact tail_any (ops:=[.ref s3.heap.objs.size,v]) ht hT hg (by with_unfolding_all rfl)
nonrec def c73 (xs:List V)(lo hi:Option Int):List V:=(xs.drop<|HT.sIx xs.length 0 lo).take (HT.sIx xs.length xs.length hi-HT.sIx xs.length 0 lo)
theorem b66 (xs:List V)(lo hi:Option Int):(c73 xs lo hi).length<=xs.length:=by
 unfold c73;rw[jV,a17]
 lia
nonrec def rSlT (K:Frag):V->Option Int->Option Int->Hp->VK->Prop:=λx lo hi H Q=> ∃a xs,x= .ref a/\SqT K H a xs/\
 ¬(HT.sIx xs.length 0 lo=0/\HT.sIx xs.length xs.length hi=xs.length)/\ ∀p,H p=none->Q (.ref p) (upd H p<|.tup<|c73 xs lo hi)
theorem d55:SlR X (rSlT X.K):=by
 intro pins s σ H x v vl vu lo hi sl Q I rx hs pl pu h;obtain⟨a,xs,rfl,hx,hw,q⟩:=h;cases rx;obtain⟨its,r,ht,hz⟩:=I.tuple hx;have hlen:its.toArray.size=xs.length:=by rw[b6];exact r.length.symm
 refine⟨"tuple",_,PyProof.Rows.slot_tuple_getitem.lookup,ht.typeIs,?_⟩
 refine HT.getItem_tuple_cut ht hs pl pu (by rw[hlen];exact hw) ?_ (by rw[hlen];exact hz)
 rw[hlen];refine⟨.ref s.heap.objs.size,_,I.laid (t':=s.toks) (o:= .tup (c73 xs lo hi)) (λb ob q=>bE _ q) (aG _) ?_,rfl,q _<|I.hok.fresh<|aG _⟩
 exact⟨aN (b66 xs lo hi) hz,_,(r.drop<|HT.sIx xs.length 0 lo).take<|HT.sIx xs.length xs.length hi-HT.sIx xs.length 0 lo,vS _ _⟩
nonrec def rCatT (K:Frag):R2:=λx y H Q=> ∃a b xs ys,x= .ref a/\y= .ref b/\SqT K H a xs/\SqT K H b ys/\xs≠[]/\xs.length+ys.length<=sizeLine/\
 (ys=[]->Q (.ref a) H)/\(ys≠[]-> ∀p,H p=none->Q (.ref p) (upd H p<|.tup<|xs++ys))
theorem Vals.nil_iff {xs:List V}(r:Vals xs us):us=[]↔xs=[]:=by
 cases r with
 | nil=>simp
 | cons _ _=>simp
theorem dM4:OpR X (binaryOp .Add) (rCatT X.K):=by
 intro pins s σ H x y v u Q I rx ry h;obtain⟨a,b,xs,ys,rfl,rfl,ha,hb,hx,hz,q1,q2⟩:=h;cases rx;cases ry;obtain⟨its,r1,p1,_⟩:=I.tuple ha;obtain⟨its2,r2,p2,_⟩:=I.tuple hb;refine HT.cat_tup p1 p2 (λz=>hx (r1.nil_iff.mp z)) (λz=>⟨.ref a,H,I,rfl,q1<|r2.nil_iff.mp z⟩) (λz=> ?_) (by rw[<-r1.length,<-r2.length];exact hz)
 refine⟨.ref s.heap.objs.size,_,I.laid (t':=s.toks) (o:= .tup (xs++ys)) (λb ob q=>bE _ q) (aG _) ?_,rfl,q2 (λw=>z (r2.nil_iff.mpr w)) _<|I.hok.fresh<|aG _⟩
 exact⟨by rw[cI];exact hz,_,r1.append r2,vS _ _⟩
end
nonrec def ixN (n:Nat)(i:Int):Option Nat:=if 0<=i then(if i<n then some i.toNat else none)else if -(n:Int)<=i then some (i+n).toNat else none
nonrec def atI {α:Type}(xs:List α)(i:Int):Option α:=(ixN xs.length i).bind λj=>xs[j]?
theorem cP7 {i:Int}(h:ixN n i=some j):seqIndex? i n=some j/\j<n/\ -(n:Int)<=i/\i<n:=by
 unfold ixN at h
 by_cases h0:0<=i
 .rw[a8 h0]at h
  by_cases h1:i<n
  .rw[a8 h1]at h;have e:i.toNat=j:=iN h;exact⟨by rw[a35 h0 h1,e],ad,ad,h1⟩
  .rw[a7 h1]at h;cases h
 .rw[a7 h0]at h
  by_cases h1: -(n:Int)<=i
  .rw[a8 h1]at h;have e:(i+n).toNat=j:=iN h;exact⟨by rw[a32 ad h1,e],ad,h1,ad⟩
  .rw[a7 h1]at h;cases h
theorem bA9 {α:Type}{xs:List α}{i:Int}{v:α}(h:atI xs i=some v): ∃j,seqIndex? i xs.length=some j/\xs[j]? =some v/\j<xs.length/\ -(xs.length:Int)<=i/\i<xs.length:=by
 unfold atI at h;cases e:ixN xs.length i with
 | none=>rw[e]at h;cases h
 | some j=>
  rw[e]at h;obtain⟨h1,h2,h3,h4⟩:=cP7 e;exact⟨j,h1,h,h2,h3,h4⟩
theorem dL {α:Type}{xs:List α}{v:α}(h:xs[j]? =some v):atI xs (j:Int)=some v:=by
 have hj:j<xs.length:=(l8.mp h).1;have e:ixN xs.length (j:Int)=some j:=by
  unfold ixN;rw[a8 ad,a8 ad];simp
 unfold atI;rw[e];exact h
theorem d56 {α:Type}(xs:List α)(v:α):atI (xs++[v]) (-1)=some v:=by
 have hl:(xs++[v]).length=xs.length+1:=ae
 have e:ixN (xs++[v]).length (-1)=some xs.length:=by
  unfold ixN;rw[hl,a7 ac,a8 ad]
  congr 1
  lia
 unfold atI;rw[e];show(xs++[v])[xs.length]? =some v;simp
def bX8 (b:Expr):Prop:= ∀o i,subscripted b false o i=operate [o,i] (getItem o i)
def IxR (X:Cx)(r:R2):Prop:=
 ∀(value slice:Expr) (pins:List (Addr×Obj)) (s:Shared) (σ:St) (H:Hp) (x y:V) (v u:Value) (Q:VK),Inv X pins σ H s->RelV x v->RelV y u->r x y H Q->
  subscripted slice false v u=operate [v,u] (getItem v u)->X∩(subscriptTail value slice v u) (EP X pins σ Q) X.xe s
def MtR (X:Cx)(id:String)(r:V->List V->Hp->VK->Prop):Prop:=
 ∀(pins:List (Addr×Obj)) (s:Shared) (σ:St) (H:Hp) (x:V) (xs:List V) (v:Value) (us:List Value) (Q:VK),Inv X pins σ H s->RelV x v->Vals xs us->r x xs H Q->
  X∩(call (.builtin id) (v::us)) (EP X pins σ Q) X.xe s
section
variable {X:Cx}{a b:Expr}{ta tb:TE}{pos:Pos}
theorem IxR.or {r r':R2}(h:IxR X r)(h':IxR X r'):IxR X (λx y H Q=>r x y H Q\/r' x y H Q):=by
 intro value slice pins s σ H x y v u Q I rx ry q hs;rcases q with q|q
 .exact h value slice pins s σ H x y v u Q I rx ry q hs
 .exact h' value slice pins s σ H x y v u Q I rx ry q hs
theorem pe_ix {r:R2}(hr:IxR X r)(ha:PE X a ta)(hb:PE X b tb)(hs:bX8 b):PE X (.Subscript a b pos) (tOp r ta tb):=by
 intro pins s σ H Q I h;exact Subscript_ (binT ha hb I h λv u s2 x y H2 I2 rx ry q=>hr a b pins s2 σ H2 x y v u Q I2 rx ry q (hs _ _))
nonrec def rIxL (K:Frag):R2:=λx y H Q=> ∃p xs i v,x= .ref p/\y= .int i/\SqL K H p xs/\atI xs i=some v/\Q v H
nonrec def rIxT (K:Frag):R2:=λx y H Q=> ∃p xs i v,x= .ref p/\y= .int i/\SqT K H p xs/\atI xs i=some v/\Q v H
nonrec def rIxS:R2:=λx y H Q=> ∃z i c,x= .str z/\y= .int i/\z.length<=sizeLine/\atI z.cps.toList i=some c/\Q (.str ⟨#[c]⟩) H
theorem dM5:IxR X (rIxL X.K):=by
 intro value slice pins s σ H x y v u Q I rx ry h hs;obtain⟨p,xs,i,z,rfl,rfl,hq,he,q⟩:=h;cases rx;obtain⟨t,rfl⟩:=ry;obtain⟨its,r,pl,hz⟩:=I.list hq;obtain⟨j,h1,h2,h3,h4,h5⟩:=bA9 he;obtain⟨w,ew,rw'⟩:=r.get h2;have hl:=r.length;have hn:=b20;have fin:EP X pins σ Q w s:=⟨z,H,I,rw',q⟩
 by_cases h0:0<=i
 .have hj:i.toNat=j:=by
   rw[a35 h0 h5]at h1;exact iN h1
  exact item_listR pl.isList h0 ad (by rw[hj];exists ew) fin hs
 .have hj:(i+(its.toArray.size:Int)).toNat=j:=by
   rw[a32 ad h4]at h1
   rw[b6,<-hl];exact iN h1
  exact subscriptTail_builtinR (x:=w) pl.isList.typeIs slot_list_getitem.lookup
   (wpAny_getItem_list_neg (Q:=λr s'=>r=w/\EP X pins σ Q r s') pl.isList ad (by rw[b6]<;>lia) ad (by rw[hj];exists ew) ⟨rfl,fin⟩) hs
theorem ix_tup:IxR X (rIxT X.K):=by
 intro value slice pins s σ H x y v u Q I rx ry h hs;obtain⟨p,xs,i,z,rfl,rfl,hq,he,q⟩:=h;cases rx;obtain⟨t,rfl⟩:=ry;obtain⟨its,r,pl,hz⟩:=I.tuple hq;obtain⟨j,h1,h2,h3,h4,h5⟩:=bA9 he;obtain⟨w,ew,rw'⟩:=r.get h2;have hl:=r.length;have hn:=b20;have fin:EP X pins σ Q w s:=⟨z,H,I,rw',q⟩;exact subscriptTail_builtinR (x:=w) pl.typeIs slot_tuple_getitem.lookup
  (getItem_tuple (j:=j) (Q:=λr s'=>r=w/\EP X pins σ Q r s') pl ad ad (by rw[b6,<-hl];exact h1) (by exists ew) ⟨rfl,fin⟩) hs
theorem ix_str:IxR X rIxS:=by
 intro value slice pins s σ H x y v u Q I rx ry h hs;obtain⟨z,i,c,rfl,rfl,hz,he,q⟩:=h;obtain⟨t,rfl⟩:=rx;obtain⟨t',rfl⟩:=ry;obtain⟨j,h1,h2,h3,h4,h5⟩:=bA9 he;have hl:z.cps.toList.length=z.length:=by simp[Str.length]
 rw[hl]at h1 h4 h5;have hn:=b20;exact tail_any (typeIs_str s z t) slot_str_getitem.lookup (getItem_str (c:=c) (by
  have e1:decide (i< -(2^63:Int))=false:=bZ ad
  have e2:decide (i≥2^63)=false:=bZ ad
  rw[e1,e2,Bool.or_false]) (by rw[h1];exists h2) ⟨.str ⟨#[c]⟩,H,I.tok _,⟨_,rfl⟩,q⟩) hs
nonrec def rIx (K:Frag):R2:=λx y H Q=>rIxL K x y H Q\/rIxT K x y H Q\/rIxS x y H Q
theorem ix_seq:IxR X (rIx X.K):=dM5.or (ix_tup.or ix_str)
theorem cI8 (its:List Value)(n j:Nat)(u:Value):Obj.mapSeq (·.setIfInBounds j u) {cls:= .type "list",data:= .seq its.toArray n}={cls:= .type "list",data:= .seq (its.set j u).toArray n}:=by
 simp[Obj.mapSeq]
theorem Inv.lst {σ:St}{H:Hp}{p:Addr}{xs:List V}(I:Inv X pins σ H s)(h:H p=some (.lst xs)) :
  ∃(its:List Value) (n:Nat),Vals xs its/\s.heap.get? p=some {cls:= .type "list",data:= .seq its.toArray n}/\xs.length<=sizeLine:=by
 obtain⟨z,its,n,r,e⟩:=I.hok p _ h;exact⟨its,n,r,e,z⟩
theorem Inv.lstUpd {σ:St}{H:Hp}{p:Addr}{xs ys:List V}{its':List Value}{n':Nat}{f:Obj->Obj}(I:Inv X pins σ H s)(h:H p=some (.lst xs))
  (ho:s.heap.get? p=some {cls:= .type "list",data:= .seq its.toArray n}) (hf:f {cls:= .type "list",data:= .seq its.toArray n}={cls:= .type "list",data:= .seq its'.toArray n'}) (r:Vals ys its') (hz:ys.length<=sizeLine) (t:Nat) :
  Inv X pins σ (upd H p<|.lst ys) {s with heap:=s.heap.update p f,toks:=t}:=by
 have e:(s.heap.update p f).get? p=some {cls:= .type "list",data:= .seq its'.toArray n'}:=by
  rw[rD f ho (by rw[hf]<;>rfl),hf]
 refine I.write (x:=p) (e:=p) (by rw[h];trivial) (.inl rfl) (λb u hb q=>(aO2 _ _<|Ne.symm hb).trans q) ⟨_,e⟩ ?_
 exact⟨hz,its',n',r,e⟩
nonrec def rSetL:V->V->V->Hp->(Hp->Prop)->Prop:=λo i v H Q=> ∃p xs k j,o= .ref p/\i= .int k/\H p=some (.lst xs)/\ixN xs.length k=some j/\Q (upd H p<|.lst<|xs.set j v)
theorem c74:PSet X rSetL:=by
 intro pins s σ H o i v ov iv u Q I ro ri rv h;obtain⟨p,xs,k,j,rfl,rfl,hp,hj,q⟩:=h;cases ro;obtain⟨t,rfl⟩:=ri;obtain⟨its,n,r,ho,hz⟩:=I.lst hp;obtain⟨h1,h2,h3,h4⟩:=cP7 hj;have hl:=r.length;have hn:=b20;have I':Inv X pins σ (upd H p<|.lst<|xs.set j v) {s with heap:=s.heap.update p (Obj.mapSeq (·.setIfInBounds j u))}:=
  I.lstUpd hp ho (cI8 its n j u) (r.set rv j) (by rw[gH];exact hz) s.toks
 by_cases h0:0<=k
 .have hk:k.toNat=j:=by
   rw[a35 h0 h4]at h1;exact iN h1
  exact PySem.W.ki_setAt ho h0 ad (by rw[b6,<-hl];exact h4) (by rw[hk];exact⟨_,I',q⟩)
 .have hk:(k+(its.toArray.size:Int)).toNat=j:=by
   rw[a32 ad h3]at h1
   rw[b6,<-hl];exact iN h1
  exact PySem.W.ki_setBack ho ad (by rw[b6,<-hl];exact h3) ad (by rw[hk];exact⟨_,I',q⟩)
theorem bX9 (lo hi:Option Int)(n:Nat):(sliceBounds lo hi none n).1=((HT.sIx n 0 lo:Nat):Int)/\(sliceBounds lo hi none n).2.1=((HT.sIx n n hi:Nat):Int)/\(sliceBounds lo hi none n).2.2=1:=by
 refine⟨?_,?_,rfl⟩
 .cases lo with
  | none=>simp[sliceBounds,HT.sIx]
  | some i=>
   simp only[sliceBounds,HT.sIx,getD_none,show(1:Int)>0 by decide,iQ]
   by_cases h:i<0
   .simp only[h,iQ]<;>lia
   .simp only[h,gW]<;>lia
 .cases hi with
  | none=>simp[sliceBounds,HT.sIx]
  | some i=>
   simp only[sliceBounds,HT.sIx,getD_none,show(1:Int)>0 by decide,iQ]
   by_cases h:i<0
   .simp only[h,iQ]<;>lia
   .simp only[h,gW]<;>lia
theorem bO2 (its:List Value)(lo hi:Option Int):slicePick its.toArray lo hi none=((its.drop<|HT.sIx its.length 0 lo).take<|HT.sIx its.length its.length hi-HT.sIx its.length 0 lo).toArray:=by
 obtain⟨h1,h2,h3⟩:=bX9 lo hi its.toArray.size;unfold slicePick;rw[h1,h2,h3];simp only[sliceRange_one,pick_run,b6]<;>rfl
nonrec def rSlL (K:Frag):V->Option Int->Option Int->Hp->VK->Prop:=λx lo hi H Q=> ∃a xs,x= .ref a/\SqL K H a xs/\ ∀p,H p=none->Q (.ref p) (upd H p<|.lst<|c73 xs lo hi)
theorem cP8:SlR X (rSlL X.K):=by
 intro pins s σ H x v vl vu lo hi sl Q I rx hs pl pu h;obtain⟨a,xs,rfl,hx,q⟩:=h;cases rx;obtain⟨its,r,ht,hz⟩:=I.list hx;have hlen:=r.length;refine⟨"list",_,slot_list_getitem.lookup,ht.isList.typeIs,?_⟩;refine wpAny_getItem_list_slice ht.isList hs pl pu .none ae ?_ (by rw[b6]<;>lia)
 rw[bO2,<-hlen];refine⟨.ref s.heap.objs.size,_,I.laid (t':=s.toks) (o:= .lst (c73 xs lo hi)) (λb ob q=>bE _ q) (aG _) ?_,rfl,q _<|I.hok.fresh<|aG _⟩
 exact⟨aN (b66 xs lo hi) hz,_,0,(r.drop<|HT.sIx xs.length 0 lo).take<|HT.sIx xs.length xs.length hi-HT.sIx xs.length 0 lo,cO _ rfl⟩
nonrec def aV2:V->Bool
 | .non=>true
 | .bl _=>true
 | .int _=>true
 | .str _=>true
 | _=>false
nonrec def eqV:V->V->Bool
 | .non,.non=>true
 | .bl a,.bl b=>a==b
 | .bl a,.int b=>(if a then 1 else 0)==b
 | .int a,.bl b=>a==(if b then 1 else 0)
 | .int a,.int b=>a==b
 | .str a,.str b=>a==b
 | _,_=>false
theorem eqAt_V {y x:V}(ry:RelV y u)(rx:RelV x v)(fy:aV2 y=true)(fx:aV2 x=true):SeqAt.EqAt A s u v (eqV y x):=by
 cases y with
 | non=>
  cases ry;cases x with
  | non=>cases rx;exact SeqAt.EqAt.same _
  | bl b=>cases rx;exact SeqAt.EqAt.none_bool b
  | int b=>obtain⟨t,rfl⟩:=rx;exact SeqAt.EqAt.none_int b t
  | str b=>obtain⟨t,rfl⟩:=rx;exact SeqAt.EqAt.none_str b t
  | _=>exact absurd (show false=true from fx) bJ
 | bl a=>
  cases ry;cases x with
  | non=>cases rx;exact SeqAt.EqAt.bool_none a
  | bl b=>cases rx;exact SeqAt.EqAt.bool_bool a b
  | int b=>obtain⟨t,rfl⟩:=rx;exact SeqAt.EqAt.bool_int a b t
  | str b=>obtain⟨t,rfl⟩:=rx;exact SeqAt.EqAt.bool_str a b t
  | _=>exact absurd (show false=true from fx) bJ
 | int a=>
  obtain⟨t',rfl⟩:=ry;cases x with
  | non=>cases rx;exact SeqAt.EqAt.int_none a t'
  | bl b=>cases rx;exact SeqAt.EqAt.int_bool a t' b
  | int b=>obtain⟨t,rfl⟩:=rx;exact SeqAt.EqAt.int_int a t' b t
  | str b=>obtain⟨t,rfl⟩:=rx;exact SeqAt.EqAt.int_str a t' b t
  | _=>exact absurd (show false=true from fx) bJ
 | str a=>
  obtain⟨t',rfl⟩:=ry;cases x with
  | non=>cases rx;exact SeqAt.EqAt.str_none a t'
  | bl b=>cases rx;exact SeqAt.EqAt.str_bool a t' b
  | int b=>obtain⟨t,rfl⟩:=rx;exact SeqAt.EqAt.str_int a t' b t
  | str b=>obtain⟨t,rfl⟩:=rx;exact SeqAt.EqAt.str_str a t' b t
  | _=>exact absurd (show false=true from fx) bJ
 | _=>exact absurd (show false=true from fy) bJ
nonrec def eqU (x:V)(u:Value):Bool:=match u with
 | .none=>eqV .non x
 | .bool b=>eqV (.bl b) x
 | .int i _=>eqV (.int i) x
 | .str z _=>eqV (.str z) x
 | _=>false
theorem d57 {x y:V}(r:RelV y u)(f:aV2 y=true):eqU x u=eqV y x:=by
 cases y with
 | non=>cases r;rfl
 | bl b=>cases r;rfl
 | int i=>obtain⟨t,rfl⟩:=r;rfl
 | str z=>obtain⟨t,rfl⟩:=r;rfl
 | _=>exact absurd (show false=true from f) bJ
theorem bY0 {x:V}: ∀{xs:List V} {us:List Value},Vals xs us->xs.all aV2=true->us.any (eqU x)=xs.any λy=>eqV y x
 | _,_,.nil,_=>rfl
 | y::xs,u::us,.cons r t,f=>by
  rw[all_cons,bP]at f;rw[any_cons,any_cons,d57 r f.1,bY0 t f.2]
theorem bD1 {A:Around}{s:Shared}{x:V}{v:Value}(rx:RelV x v)(fx:aV2 x=true): ∀{xs:List V} {us:List Value},Vals xs us->xs.all aV2=true-> ∀u∈us,SeqAt.EqAt A s u v (eqU x u)
 | _,_,.nil,_=>λu hu=>by cases hu
 | y::xs,u::us,.cons r t,f=>λu' hu=>by
  rw[all_cons,bP]at f;rcases aT.mp hu with rfl|hu
  .rw[d57 r f.1];exact eqAt_V r rx f.1 fx
  .exact bD1 rx fx t f.2 u' hu
nonrec def inV (x:V)(xs:List V):Bool:=xs.any λy=>eqV y x
nonrec def rIn (K:Frag)(neg:Bool):R2:=λx y H Q=> ∃p xs,y= .ref p/\(SqL K H p xs\/SqT K H p xs)/\aV2 x=true/\xs.all aV2=true/\Q (.bl<|if neg then !inV x xs else inV x xs) H
theorem bY1:OpR X (compareOp .NotIn) (rIn X.K true):=by
 intro pins s σ H x y v u Q I rx ry h;obtain⟨p,xs,rfl,hq,fx,fs,q⟩:=h;cases ry;rcases hq with hq|hq
 .obtain⟨its,r,pl,hz⟩:=I.list hq;refine SeqAt.notIn_listAt (eqU x) pl.isList (λw hw=>bD1 rx fx r fs w (by exists hw)) ⟨.bl _,H,I,rfl,?_⟩
  rw[show its.toArray.any (eqU x)=its.any (eqU x)by simp,bY0 r fs]
  exact q
 .obtain⟨its,r,pl,hz⟩:=I.tuple hq;refine SeqAt.notIn_tupleAt (eqU x) pl (λw hw=>bD1 rx fx r fs w (by exists hw)) ⟨.bl _,H,I,rfl,?_⟩
  rw[show its.toArray.any (eqU x)=its.any (eqU x)by simp,bY0 r fs]
  exact q
theorem bY2:qV X (.builtin "len") (λxs H Q=> ∃p ys,xs=[.ref p]/\(SqL X.K H p ys\/SqT X.K H p ys)/\Q (.int ys.length) H):=by
 intro pins s σ H xs us Q I r h;obtain⟨p,ys,rfl,hq,q⟩:=h;obtain⟨u,rfl,rx⟩:=vals1 r;cases rx;have hn:=b20;rcases hq with hq|hq
 .obtain⟨its,r',pl,hz⟩:=I.list hq;have hlen:=r'.length;exact Calls.call_len_list pl.isList (by simp only[b6]<;>lia) ⟨.int ys.length,H,I.tok _,⟨s.toks+1,by rw[b6,hlen]⟩,q⟩
 .obtain⟨its,r',pl,hz⟩:=I.tuple hq;have hlen:=r'.length;exact len_tuple pl (by simp only[b6]<;>lia) ⟨.int ys.length,H,I.tok _,⟨s.toks+1,by rw[b6,hlen]⟩,q⟩
theorem bY3:qV X (.type "list") (λxs H Q=> ∃p ys,xs=[.ref p]/\(SqL X.K H p ys\/SqT X.K H p ys)/\ ∀l,H l=none->Q (.ref l) (upd H l<|.lst ys)):=by
 intro pins s σ H xs us Q I r h;obtain⟨p,ys,rfl,hq,q⟩:=h;obtain⟨u,rfl,rx⟩:=vals1 r;cases rx;have fin: ∀(its:List Value),Vals ys its->ys.length<=sizeLine-> ∀(h':Heap) (c':Nat),(∀b o',s.heap.get? b=some o'->h'.get? b=some o')->
   h'.get? s.heap.objs.size=some {cls:= .type "list",dict:=none,data:= .seq its.toArray c',slots:= #[]}->EP X pins σ Q (.ref s.heap.objs.size) {s with heap:=h'}:=λits r' hz h' c' kp e=>
  ⟨.ref s.heap.objs.size,_,I.laid (t':=s.toks) kp (aG _)<|show t9 X.prog X.w _ h' _ (.lst ys)from⟨hz,its,c',r',e⟩,rfl,q _<|I.hok.fresh<|aG _⟩
 rcases hq with hq|hq
 .obtain⟨its,r',pl,hz⟩:=I.list hq;have hlen:=r'.length;obtain⟨o,ho,hc,n,hd⟩:=pl.isList;exact call_list_seq p (.inl rfl) ho hc hd (λh' c' kp e=>fin its r' hz h' c' kp e) (by simp only[b6]<;>lia)
 .obtain⟨its,r',pl,hz⟩:=I.tuple hq;have hlen:=r'.length;obtain⟨o,ho,hc,n,hd⟩:=pl;exact call_list_seq p (.inr rfl) ho hc hd (λh' c' kp e=>fin its r' hz h' c' kp e) (by simp only[b6]<;>lia)
theorem xX:qV X (.type "tuple") (λxs H Q=> ∃p ys,xs=[.ref p]/\((SqL X.K H p ys/\ ∀l,H l=none->Q (.ref l) (upd H l<|.tup ys))\/(SqT X.K H p ys/\Q (.ref p) H))):=by
 intro pins s σ H xs us Q I r h;obtain⟨p,ys,rfl,h⟩:=h;obtain⟨u,rfl,rx⟩:=vals1 r;cases rx;rcases h with⟨hq,q⟩| ⟨hq,q⟩
 .obtain⟨its,r',pl,hz⟩:=I.list hq;have hlen:=r'.length;refine call_tuple_list pl.isList (λh' kp=> ?_) (by simp only[b6]<;>lia)
  have I1:Inv X pins σ H {s with heap:=h'}:=I.kept (t':=s.toks) kp;have I2:Inv X pins σ (upd H h'.objs.size<|.tup ys) {s with heap:=h'.push {cls:= .type "tuple",data:= .seq its.toArray}}:=
   I1.laid (t':=s.toks) (λb o e=>bE _ e) (aG _) (show t9 X.prog X.w _ _ _ (.tup ys)from⟨hz,its,r',vS _ _⟩)
  exact⟨.ref h'.objs.size,_,I2,rfl,q _<|I1.hok.fresh<|aG _⟩
 .obtain⟨its,r',pl,hz⟩:=I.tuple hq;exact call_tuple_same pl ⟨.ref p,H,I,rfl,q⟩
def tyV (K:Frag)(T:String)(x:V)(H:Hp):Prop:=match x with
 | .str _=>T="str"
 | .int _=>T="int"
 | .ref p=>(T="list"/\ ∃xs,SqL K H p xs)\/(T="tuple"/\ ∃o,K.lookup p=some o/\o.cls= .type "tuple"/\o.dict=none)\/
   (T="dict"/\((∃kvs,H p=some (.dK kvs))\/ ∃kvs,H p=some (.dT kvs)))\/(T="set"/\ ∃S n,H p=some (.set S n))
 | _=>False
theorem tyV_is {pins:List (Addr×Obj)}{σ:St}{H:Hp}{s:Shared}{T:String}{x:V}{v:Value}(I:Inv X pins σ H s)(r:RelV x v)(ty:tyV X.K T x H) :
  s.TypeIs v T/\ ∀a,v= .ref a-> ∃ob,s.heap.get? a=some ob/\ob.dict=none:=by
 cases x with
 | str z=>
  obtain⟨t,rfl⟩:=r;cases (show T="str" from ty)
  exact⟨typeIs_str s z t,λ_ e=>nomatch e⟩
 | int i=>
  obtain⟨t,rfl⟩:=r;cases (show T="int" from ty)
  exact⟨vQ s i t,λ_ e=>nomatch e⟩
 | ref p=>
  cases r;rcases ty with⟨rfl,xs,hq⟩| ⟨rfl,o,hk,hc,hd⟩| ⟨rfl,hk⟩| ⟨rfl,S,n,hk⟩
  .obtain⟨its,_,pl,_⟩:=I.list hq;refine⟨pl.isList.typeIs,λa e=> ?_⟩
   cases e;obtain⟨o,n,e,c,hd,_⟩:=pl;exact⟨o,e,hd⟩
  .refine⟨⟨o,I.kIn p o hk,hc⟩,λa e=> ?_⟩
   cases e;exact⟨o,I.kIn _ o hk,hd⟩
  .have z: ∃o,s.heap.get? p=some o/\o.ExactDict:=by
    rcases hk with⟨kvs,hk⟩| ⟨kvs,hk⟩
    .obtain⟨_,_,_,_,o,_,_,e,ex,_⟩:=I.hok p _ hk;exact⟨o,e,ex⟩
    .obtain⟨_,_,_,_,o,_,_,e,ex,_⟩:=I.hok p _ hk;exact⟨o,e,ex⟩
   obtain⟨o,e,ex⟩:=z;refine⟨⟨o,e,ex.1⟩,λa e2=> ?_⟩
   cases e2;exact⟨o,e,ex.2.1⟩
  .obtain⟨o,_,_,_,e,ex,_⟩:=I.hok p _ hk;refine⟨⟨o,e,ex.1⟩,λa e2=> ?_⟩
   cases e2;exact⟨o,e,ex.2.1⟩
 | _=>exact False.elim ty
def tBM (K:Frag)(T:String)(r:V->List V->Hp->VK->Prop)(to:TE)(t:TA):TE:=λσ H Q=>to σ H λx H1=>tyV K T x H1/\t σ H1 λxs H2=>r x xs H2 Q
variable {o e:Expr}{es:List Expr}{to:TE}{t:TA}{name:Str}{apos cpos:Pos}{T id:String}{r:V->List V->Hp->VK->Prop}
theorem pe_bm (pa:PlainAttrs T)(slot:Slot T name id)(hty:typeOf (.builtin id)=pure (.type "method_descriptor"))(hm:MtR X id r)(ho:PE X o to)(ha:PA X (e::es) t)
  (hbase:↥(attributeBase o name X.env (eval o X.env)=eval o X.env))
  (hfew:↥(((backTo cpos<|starEach (e::es) X.env).all (λx=> !x.1)&&(backToKw cpos<|keywordEach [] X.env).all (λx=>x.1.isSome)
   &&decide ((e::es).length+([]:List Keyword).length+(if([]:List Keyword).isEmpty then 0 else 1)<30))=true))
  (hline:↥((apos.endLine==cpos.line)=true)) (hs:↥(starEach (e::es) X.env=(false,eval e X.env)::starEach es X.env)) (hplain:↥((backTo cpos<|starEach es X.env).any (·.1)=false)) :
  PE X (.Call (.Attribute o name apos) (e::es) [] cpos) (tBM X.K T r to t):=by
 intro pins s σ H Q I h;refine wpAny_Call_method_late hbase hfew hline rfl (thn (ho pins s σ H _ I h) λv s1 ⟨x,H1,I1,r1,ty,q1⟩=> ?_)
 obtain⟨h1,h2⟩:=tyV_is I1 r1 ty;refine⟨T,id,pa,slot,hty,h1,h2,?_⟩;have hA:=ha cpos pins s1 σ H1 _ I1 q1;rw[hs]at hA⊢;refine Calls.callWith_builtin (by show(false||(backTo cpos<|starEach es X.env).any (·.1))=false;rw[hplain]<;>rfl) (aP2 ?_)
 exact thn hA λus s2 ⟨vs,H2,I2,r2,q2⟩=>hm pins s2 σ H2 x vs v us Q I2 r1 r2 q2
end
def MtM (X:Cx)(id:String)(r:V->List V->Hp->VK->Prop):Prop:=
 ∀(pins:List (Addr×Obj)) (s:Shared) (σ:St) (H:Hp) (x:V) (xs:List V) (v:Value) (us:List Value) (Q:VK),Inv X pins σ H s->RelV x v->Vals xs us->r x xs H Q->
  X∩(call (.builtin id) (v::us)) (EP X pins σ Q) X.xe s
theorem Vals.one {x:V}(h:Vals [x] us): ∃u,us=[u]/\RelV x u:=by
 cases h with
 | cons r q=>cases q;exact⟨_,rfl,r⟩
theorem Vals.reverse {xs:List V}(h:Vals xs us):Vals xs.reverse us.reverse:=by
 induction h with
 | nil=>exact .nil
 | cons r t ih=>rw[a11,a11];exact Vals.append ih (.cons r .nil)
theorem Vals.rep {xs:List V}{us:List Value}(h:Vals xs us): ∀k:Nat,Vals (replicate k xs).flatten (replicate k us).flatten
 | 0=> .nil
 | k+1=>by
  rw[lD,lD,oV,oV];exact Vals.append h (Vals.rep h k)
theorem foldl_rep (its:List Value): ∀(k:Nat) (acc:List Value),
  foldl (λx1 x2=>x1++x2) acc.toArray (replicate k its.toArray)=(acc++(replicate k its).flatten).toArray
 | 0,acc=>ae
 | k+1,acc=>by
  have e:acc.toArray++its.toArray=(acc++its).toArray:=ae
  have e2:(acc++its)++(replicate k its).flatten=acc++(replicate (k+1) its).flatten:=by
   rw[lD,oV,List.append_assoc]
  rw[<-e2,<-foldl_rep its k (acc++its),<-e,lD,List.foldl_cons]
section
variable {X:Cx}{pins:List (Addr×Obj)}{σ:St}{H:Hp}{s:Shared}{l b:Addr}{xs ys zs:List V}
theorem Inv.lset {its':List Value}{f:Array Value->Array Value}(I:Inv X pins σ H s)(hH:H l=some (.lst xs))
  (e:s.heap.get? l=some {cls:= .type "list",data:= .seq its.toArray n}) (hf:f its.toArray=its'.toArray) (hv:Vals ys its') (hz:ys.length<=sizeLine) :
  Inv X pins σ (upd H l<|.lst ys) {s with heap:=s.heap.update l (Obj.mapSeq f),toks:=t'}:=by
 have q:=PySem.IsL.update e f;rw[hf]at q;refine I.write (x:=l) (e:=l) (by rw[hH];exact trivial) (.inl rfl) (λb' u hb hu=>(aO2 s.heap (Obj.mapSeq f)<|Ne.symm hb).trans hu) ⟨_,q⟩ ?_
 exact⟨hz,its',_,hv,q⟩
theorem Inv.lnew (I:Inv X pins σ H s)(hv:Vals ys its)(hz:ys.length<=sizeLine) :
  Inv X pins σ (upd H s.heap.objs.size<|.lst ys) {s with heap:=s.heap.push {cls:= .type "list",data:= .seq its.toArray},toks:=t'}:=
 I.laid (λ_ _ q=>bE _ q) (aG _) ⟨hz,its,0,hv,cO _ rfl⟩
theorem Inv.fresh (I:Inv X pins σ H s):H s.heap.objs.size=none:=I.hok.fresh (aG _)
theorem Inv.lstM (I:Inv X pins σ H s)(hH:H l=some (.lst xs)):xs.length<=sizeLine/\ ∃(its:List Value) (n:Nat),Vals xs its/\xs.length=its.length/\s.heap.get? l=some {cls:= .type "list",data:= .seq its.toArray n}:=by
 obtain⟨z,its,n,r,e⟩:=I.hok l _ hH;exact⟨z,its,n,r,r.length,e⟩
theorem d58 (h:n<=sizeLine):Builtin.List.listTooLong n=false:=by
 unfold Builtin.List.listTooLong;exact bZ ad
end
section
variable {X:Cx}
nonrec def dM6:V->List V->Hp->VK->Prop:=λx vs H Q=> ∃l xs y,x= .ref l/\vs=[y]/\H l=some (.lst xs)/\xs.length<sizeLine/\Q .non (upd H l<|.lst<|xs++[y])
theorem bS5:MtM X "list.append" dM6:=by
 intro pins s σ H x vs v us Q I rx rv h;obtain⟨l,xs,y,rfl,rfl,hH,hz,q⟩:=h;cases rx;obtain⟨u,rfl,ru⟩:=rv.one;obtain⟨z,its,n,r,hl,e⟩:=I.lstM hH;refine mY F.slot_list_append ⟨_,e,rfl⟩ F.entry_list_append (F.args_list_append_2 _ _) (PySem.list_append l its.toArray n u (by rw[b6];lia)) ⟨e,?_⟩
 refine⟨.non,_,I.lset (its':=its++[u]) hH e ae (r.append<|.cons ru .nil) ?_,rfl,q⟩
 rw[cI,aO5]
 lia
nonrec def rCat:R2:=λx y H Q=> ∃l b xs zs,x= .ref l/\y= .ref b/\H l=some (.lst xs)/\H b=some (.lst zs)/\xs.length+zs.length<=sizeLine/\ ∀p,H p=none->Q (.ref p) (upd H p<|.lst<|xs++zs)
theorem op_cat:OpR X (binaryOp .Add) rCat:=by
 intro pins s σ H x y v u Q I rx ry h;obtain⟨l,b,xs,zs,rfl,rfl,hH,hB,hz,q⟩:=h;cases rx;cases ry;obtain⟨z,its,n,r,hl,e⟩:=I.lstM hH;obtain⟨z2,its2,n2,r2,hl2,e2⟩:=I.lstM hB;refine PySem.P.add_list e e2 ?_ (by rw[b6,b6];omega)
 have ea:its.toArray++its2.toArray=(its++its2).toArray:=ae
 rw[ea];exact⟨.ref _,_,I.lnew (t':=s.toks) (r.append r2) (by rw[cI];omega),rfl,q _ I.fresh⟩
nonrec def rRep:R2:=λx y H Q=> ∃l k xs,x= .ref l/\y= .int k/\H l=some (.lst xs)/\ -(2^63)<=k/\k<2^63/\xs.length*k.toNat<=sizeLine/\
 ∀p,H p=none->Q (.ref p) (upd H p<|.lst (replicate k.toNat xs).flatten)
theorem bY4 {α:Type}(xs:List α)(k:Nat):(replicate k xs).flatten.length=k*xs.length:=by
 induction k with
 | zero=>simp
 | succ k ih=>rw[lD,oV,cI,ih,Nat.succ_mul,add_comm]
theorem op_rep:OpR X (binaryOp .Mult) rRep:=by
 intro pins s σ H x y v u Q I rx ry h;obtain⟨l,k,xs,rfl,rfl,hH,h1,h2,hz,q⟩:=h;cases rx;obtain⟨t,rfl⟩:=ry;obtain⟨z,its,n,r,hl,e⟩:=I.lstM hH;have hlen:its.toArray.size*k.toNat<=sizeLine:=by rw[b6,<-hl];exact hz
 have hcap: ¬its.toArray.size*k.toNat>(2^63-1)/8:=by
  have:(sizeLine:Nat)<=(2^63-1)/8:=ac
  lia
 have hfit: ¬(!Builtin.List.listFitsIndex k)=true:=by
  rw[fitsIndex_both h1 h2];exact bJ
 have hlong: ¬Builtin.List.listTooLong (its.toArray.size*k.toNat)=true:=by
  rw[d58 hlen];exact bJ
 have hnew:foldl (λx1 x2=>x1++x2) #[] (replicate (if its.toArray.isEmpty=true then 0 else k.toNat) its.toArray)=(replicate k.toNat its).flatten.toArray:=by
  have f0: ∀m:Nat,foldl (λx1 x2=>x1++x2) #[] (replicate m its.toArray)=(replicate m its).flatten.toArray:=λm=>by
   have:=foldl_rep its m [];rw[a22]at this;exact this
  rw[f0];cases its with
  | nil=>simp
  | cons a r'=>rw[a7 ae]
 refine wpAny_binaryOp_repeat_ref (T:="list") (U:="int") ac ⟨_,e,rfl⟩ (λs'=>vQ s' k t) noFill_list_mul F.fills_int_mul F.slot_int_rmul repeat_list F.slot_int_index.lookup
  (mY F.slot_int_rmul (vQ s k t) F.entry_int_rmul (F.args_int_rmul_2 _ _) (int___rmul___int_list k t l its.toArray n)
   ⟨e,rfl,⟨_,e,rfl⟩,mY F.slot_list_mul ⟨_,e,rfl⟩ F.entry_list_mul (F.args_list_mul_2 _ _) (AutoListH.list___mul___list_int_3 l its.toArray n k t hfit hcap hlong) ⟨e,?_⟩⟩)
 rw[hnew];exact⟨.ref _,_,I.lnew (t':=s.toks) (r.rep k.toNat) (by rw[bY4,mul_comm];exact hz),rfl,q _ I.fresh⟩
end
section
variable {prog:Program}{w:World}{A:Around}{E:Value->Shared->Prop}{s:Shared}
set_option maxRecDepth 100000 in
end
end L2
namespace Att
open PySem PySem.W PySem.Calls PyProof.Rows
theorem b86 {P:Params}: ∀(ns:List Int) (vs:List Value),WellAll P h vs (ns.map WData.int)->IntsAre vs ns:=by
 intro ns
 induction ns with
 | nil=>
  intro vs w;rw[mV]at w;cases w;exact .nil
 | cons n ns ih=>
  intro vs w;rw[cS]at w;cases w with
  | cons a b=>
   cases a;exact .cons _ _ (ih _ b)
theorem cX7 {l:OpenLaw}{n:Nat}(hn:l.most=some n){P:Params}{h:Heap}{args:List WData}{vals:List Value}
  (hpre:l.row.toRowW.claim.pre args=true) (hwl:WellAll P h vals args) :
  ∃a vs ns,vals=[Value.ref a]/\args=[WData.list<|ns.map WData.int]/\h.get? a=some {cls:= .type "list",data:= .seq vs.toArray}/\IntsAre vs ns/\ns.length<=n:=by
 have hsh:WShape.hasAll [] args [.list .int]=true:=(pre_splitW hpre).1;have hc:l.pre.holds [] {args:=args}=true:=(pre_splitW hpre).2;obtain⟨d,r,rfl,h1,h2⟩:=hasAllW_cons hsh;obtain rfl:=hasAllW_nil h2;obtain⟨xs,rfl,h3⟩:=hasW_list h1;obtain⟨ns,rfl⟩:=items_int h3;have hlen:ns.length<=n:=by
  unfold OpenLaw.pre at hc;have h4:(WTm.not<|.lt (.lit<|.int (n:Int))<|.len<|.arg 0).holds [] {args:=[.list<|ns.map .int]}=true:=by
   have h4:=(holds_andW hc).1;rw[hn]at h4;exact h4
  have h5:=condW_of h4 (w_not<|w_lt w_lit<|w_len_list<|w_arg rfl);rw[aF]at h5;refine Nat.le_of_not_lt λq=> ?_
  have q':(n:Int)< ((ns.length:Nat):Int):=aa
  first
   | (rw[bQ q']at h5;exact absurd h5 ac)
   | (simp at h5;omega)
 cases hwl with
 | cons w1 w2=>
  cases w2;cases w1 with
  | list ho hall=>exact⟨_,_,ns,rfl,rfl,ho,b86 ns _ hall,hlen⟩
theorem cX8 (l:OpenLaw)(args:List WData):l.row.toRowW.claim.post args (.bool true) args=true:=
 postW_of (r:=l.row.toRowW) (X:=(true==true))
  (show WShape.has [] (.bool true) .bool=true by first|rfl|decide|simp[WShape.has,WShape.arms,WShape.armsAll])
  (show(WTm.eq .res<|.lit<|.bool true).value [] {args:=args,res:=some (.bool true),after:=args}=some (.bool<|true==true)from w_eq_bool (w_res rfl) w_lit) rfl
theorem attach_call {l:OpenLaw}{XP:(Str->Option Value)->Heap->Prop}{d:DefRec}
  (hn:l.most=some n) (hdf:d.params.defaults=[])
  (call: ∀(w:World) (s₀ s₁:Shared) (mg mb:Str->Option Value) (fa:Addr) (o:Obj) (pm cd doc:Value) (a:Addr) (vs:List Value) (ns:List Int),
   Ground q loose [] XP w s₀ mg mb s₁.heap->YP w s₁.heap->
   s₁.heap.get? fa=some o->o.data= .func (docDef d.name d.params d.body d.scope pm cd doc)->s₁.heap.CodeRec cd d.name->mg d.name=some (.ref fa)->
   s₁.heap.get? a=some {cls:= .type "list",data:= .seq vs.toArray}->IntsAre vs ns->ns.length<=n->s₁.gens= #[]->
   codeAny (model l.prog w) callerA (.call (.ref fa) ⟨[.ref a],[]⟩) (λr s'=>r= .ok (.ret<|.bool true)/\OldK s₁.heap s'.heap/\s'.os=s₁.os/\AllBare s'.gens) s₁) :
  WalkO q loose XP YP l.row.toRowW d [] (λf vs=>PySem.call f vs):=by
 intro w s₀ s₁ mg mb G Y fa o pm cd doc dV kV ho hd hcd hD hmg hg args vals as hpre hlay hrd hwl hlo;obtain rfl:dV= .none:=Dflts.none hD hdf;obtain rfl:kV= .none:=Dflts.noKw hD;obtain⟨a,vs,ns,rfl,rfl,hobj,hints,hlen⟩:=cX7 hn hpre hwl;refine enter_call (vI (call w s₀ s₁ mg mb fa o pm cd doc a vs ns G Y ho (fd_plain hd) hcd hmg hobj hints hlen hg) λr s' hq=> ?_)
 obtain⟨rfl,h2,h3,h4⟩:=hq;exact⟨.inl ⟨.bool true,.bool true,[],rfl,λ_=>rfl,.bool true,cX8 l _,λ_=>⟨List.Pairwise.nil,λ_ hm=>(nomatch hm)⟩⟩,h2,h3,h4⟩
end Att
namespace L2
theorem bS6: ∀{vs:List Value} {ns:List Int},IntsAre vs ns->Vals (ns.map V.int) vs
 | _,_,.nil=> .nil
 | _,_,.cons n t h=> .cons ⟨t,rfl⟩ (bS6 h)
def Only (H:Hp):Prop:= ∀b,H b=none\/ ∃o xs,H b=some (.frz o<|.lst xs)
theorem d59 {P:Program}{w:World}{K:Frag}{mg mb:Str->Option Value}{CX:CXT}{k:Nat}{fa a:Addr}{fd:FuncData}{x:Str}{sp:Sp}{s₁:Shared}{vs:List Value}{ns:List Int}
  (KX:K.In s₁.heap) (hns:s₁.heap.Ns mainGlobals mg) (hb:s₁.heap.Ns builtinsNs mb) (hbb: ∀x:Str,x≠"__name__"->mb x=bootBuiltins x) (hlim:s₁.heap.NoLimit) (hg:s₁.gens= #[])
  (ha:s₁.heap.get? a=some {cls:= .type "list",data:= .seq vs.toArray}) (hi:IntsAre vs ns) (hl:ns.length<=sizeLine) (hr:iX k callerA)
  (F: ∀base:Heap,K.In base->base.Ns mainGlobals mg->uI P w K mg base CX k fa fd [x] sp) (hbind: ∀(s:Shared) (u:Value),BindsTo s fd ⟨[u],[]⟩ [(x,u)])
  (hsp: ∀H:Hp,Only H->SqL K H a (ns.map V.int)->sp [.ref a] H (λv _=>v= .bl true) λ_ _ _=>False)
  (hCX: ∀H e s',CX [] H s₁ (λ_ _ _=>False) e s'->False) :
  codeAny (model P w) callerA (.call (.ref fa) ⟨[.ref a],[]⟩) (λr s'=>r= .ok (.ret<|.bool true)/\OldK s₁.heap s'.heap/\s'.os=s₁.os/\AllBare s'.gens) s₁:=by
 have rv:=bS6 hi;have lenV:=hi.length;have core: ∀H:Hp,Only H->SqL K H a (ns.map V.int)->HOk P w H s₁.heap->(∀b,H b≠none->b=a)->(H a≠none->K.lookup a=none)->
   codeAny (model P w) callerA (.call (.ref fa) ⟨[.ref a],[]⟩) (λr s'=>r= .ok (.ret<|.bool true)/\OldK s₁.heap s'.heap/\s'.os=s₁.os/\AllBare s'.gens) s₁:=by
  intro H hO hS hok hA hK;have base_of: ∀{b:Addr} {o:Obj},s₁.heap.get? b=some o->H b=none->(bX2 s₁.heap H).get? b=some o:=λe n=>d36 e n
  have noA: ∀{b:Addr} {o:Obj} {es:Array DictEntry} {ep:Nat},s₁.heap.get? b=some o->o.data= .dict es ep->H b=none:=λ{b o es ep} e d=>by
   cases q:H b with
   | none=>rfl
   | some u=>
    have e':b=a:=hA b (by rw[q];simp)
    subst e';rw[ha]at e;cases e;have d':Data.seq vs.toArray _=Data.dict es ep:=d;cases d'
  have nsK: ∀{b:Addr} {m:Str->Option Value},s₁.heap.Ns b m->(bX2 s₁.heap H).Ns b m:=λ{b m} ⟨o,es,ep,e,d,r⟩=>⟨o,es,ep,base_of e<|noA e d,d,r⟩
  have hKb:K.In (bX2 s₁.heap H):=λb o e=>base_of (KX b o e) (by
   cases q:H b with
   | none=>rfl
   | some u=>
    have e':b=a:=hA b (by rw[q];simp)
    subst e';rw[hK (by rw[q];simp)]at e;cases e)
  have hM:Mod K mg (bX2 s₁.heap H):=⟨hKb,nsK hns,⟨mb,nsK hb,hbb⟩,let ⟨mc,h1,h2⟩:=hlim;⟨mc,nsK h1,h2⟩⟩;have e0:cI5 P w K mg (bX2 s₁.heap H) callerA [] s₁ H:=⟨rfl,hM,λb o e=>dK5 e,le_of_eq<|cW5 _ _,trivial,λb hb=>absurd (show b∈([]:List Addr)from hb) ae,hok,.of_eq hg⟩
  refine vI ((F _ hKb<|nsK hns).run callerA [] s₁ H ⟨[.ref a],[]⟩ [.ref a] [.ref a] _ _ hr e0 (hbind s₁<|.ref a) (.cons rfl .nil)<|hsp H hO hS) λr s' h=> ?_
  cases r with
  | error e=>exact(hCX H e s' h).elim
  | ok fl=>
   cases fl with
   | next=>exact False.elim h
   | brk=>exact False.elim h
   | cont=>exact False.elim h
   | ret u=>
    obtain⟨v,H',os,bare,un,hok',r',q⟩:=h;have q':v= .bl true:=q;subst q';obtain rfl:u=Value.bool true:=r';refine⟨rfl,OldK.of_keep λb o e=> ?_,os,bare⟩
    cases q:H b with
    | none=>exact un.keep b o e q (by intro z;exact absurd (show b∈([]:List Addr)from z) ae) ae
    | some u=>
     rcases hO b with z| ⟨ob,xs,z⟩
     .rw[q]at z;cases z
     .have z2:=un.frzs b ob _ z;obtain⟨e1,_⟩:=hok b _ z;obtain⟨e2,_⟩:=hok' b _ z2;rw[e]at e1;cases e1;exact e2
 cases hk:K.lookup a with
 | some o=>
  have e:=KX a o hk;rw[ha]at e;cases e;refine core (λ_=>none) (λ_=> .inl rfl) (.inr ⟨_,vs.toArray,_,hk,rfl,rfl,rfl,by rw[b6,lenV];exact hl,by exists rv⟩) (λb u z=>by have z':(none:Option HO)=some u:=z;cases z') (λb z=>absurd rfl z) λz=>absurd rfl z
 | none=>
  refine core (λb=>if b=a then some (.frz {cls:= .type "list",data:= .seq vs.toArray}<|.lst<|ns.map V.int)else none) (λb=> ?_) (.inl<|.inr ⟨{cls:= .type "list",data:= .seq vs.toArray},a8 rfl⟩) (λb u z=> ?_) (λb z=> ?_) λ_=>hk
  .by_cases hb:b=a
   .exact .inr ⟨_,_,a8 hb⟩
   .exact .inl (a7 hb)
  .by_cases hb:b=a
   .have z':=(a8 hb).symm.trans z;cases z';subst hb;exact⟨ha,by rw[aF];exact hl,vs,_,rv,ha⟩
   .have z':=(a7 hb).symm.trans z;cases z'
  .by_cases hb:b=a
   .exact hb
   .exact absurd (a7 hb) z
theorem walk_of {l:PySem.W.OpenLaw}{XP:(Str->Option Value)->Heap->Prop}{d:DefRec}{K:Params->Frag}{CX:World->CXT}{sp:World->Sp}
  (hn:l.most=some n) (hn2:n<=sizeLine) (hdf:d.params.defaults=[]) (hr:iX k callerA)
  (hY: ∀(w:World) (h:Heap),YP w h->(K w.params).In h)
  (F: ∀(w:World) (mg:Str->Option Value) (fa:Addr) (h:Heap),(K w.params).In h->h.Ns mainGlobals mg->mg d.name=some (.ref fa)->
   ∃fd:FuncData,(∀(s:Shared) (u:Value),BindsTo s fd ⟨[u],[]⟩ [(x,u)])/\
    ∀base:Heap,(K w.params).In base->base.Ns mainGlobals mg->uI l.prog w (K w.params) mg base (CX w) k fa fd [x] (sp w))
  (hsp: ∀(w:World) (H:Hp) (a:Addr) (ns:List Int),ns.length<=n->Only H->SqL (K w.params) H a (ns.map V.int)->sp w [.ref a] H (λv _=>v= .bl true) λ_ _ _=>False)
  (hCX: ∀(w:World) (H:Hp) (s:Shared) (e:Value) (s':Shared),CX w [] H s (λ_ _ _=>False) e s'->False) :
  PySem.W.WalkO q loose XP YP l.row.toRowW d [] (λf vs=>PySem.call f vs):=by
 refine Att.attach_call hn hdf λw s₀ s₁ mg mb fa o pm cd doc a vs ns G Y ho hd hcd hmg hobj hints hlen hg=> ?_
 have KX:=hY w _ Y;obtain⟨fd,hb,hF⟩:=F w mg fa _ KX G.T.g hmg;exact d59 KX G.T.g G.T.b G.T.builtins G.T.nolimit hg hobj hints (aN hlen hn2) hr hF hb (λH hO hS=>hsp w H a ns hlen hO hS) λH e s'=>hCX w H s₁ e s'
def kJ (s:Stmt):Arguments:=match s with
 | .FunctionDef _ a _ _ _ _ _ _ _ _=>a
 | _=>{posonlyargs:=[],args:=[],vararg:=none,kwonlyargs:=[],kw_defaults:=[],kwarg:=none,defaults:=[]}
def eZ (s:Stmt):List Stmt:=match s with
 | .FunctionDef _ _ b _ _ _ _ _ _ _=>b
 | _=>[]
def aJ (s:Stmt):Scope:=match s with
 | .FunctionDef _ _ _ _ _ _ sc _ _ _=>sc
 | _=>{kind:= .function,names:=[],isGenerator:=false,isCoroutine:=false}
abbrev CX0:CXT:=λ_ _ _ _ _ _=>False
abbrev E0:XK:=λ_ _ _=>False
structure Fun (K:Frag)(x qual:Str)(st:Stmt)(f:Addr)(fd:FuncData):Prop where
 ex: ∃(oc:Value) (od:Option Addr) (kV doc pm:Value) (an:Option Addr) (cdv ct:Value) (osl:Array (Option Value)),
  fd=fnOf x qual (kJ st) (eZ st) (aJ st) .none kV doc pm an cdv ct/\K.lookup f=some ⟨oc,od,.func fd,osl⟩/\codeIn K cdv qual=true
 kp:keepIn K (.ref f)=true
section
variable {P:Program}{w:World}{K:Frag}{mg:Str->Option Value}{base:Heap}
theorem Fun.ok {ps:List Str}{sp:Sp}(F:Fun K x qual st f fd)(S:bC N ps (aJ st))(len: ∀vs H Q E,sp vs H Q E->vs.length=ps.length)
  (hbody: ∀(cdv:Value) (A:Around) (outer:List Env) (s:Shared) (H:Hp) (vs:List V) (Q:VK) (E:XK),iX k (A.deeper<|envOfC qual (aJ st) s.heap.objs.size f cdv)->sp vs H Q E->
   ∃t,PSs (vT CX0 P w K mg base N qual (aJ st) f cdv A outer s H E).nox (eZ st) t/\t {nx:=λ_ H'=>Q .non H',rt:=Q} (start N vs) H):uI<$>CX0 (k+1) f fd ps sp:=by
 obtain⟨oc,od,kV,doc,pm,an,cdv,ct,osl,rfl,lk,hcd⟩:=F.ex;refine d53 lk hcd S len λA outer s H vs Q E hr hsp=> ?_
 obtain⟨t,h,q⟩:=hbody cdv A outer s H vs Q E hr hsp;exact⟨t,h.nox,q⟩
theorem Fun.binds {ps:List Str}(F:Fun K x qual st f fd)
  (h: ∀(kV doc pm:Value) (an:Option Addr) (cdv ct:Value) (us:List Value),us.length=ps.length->bindArgs (fnOf x qual (kJ st) (eZ st) (aJ st) .none kV doc pm an cdv ct) ⟨us,[]⟩=pure (ps.zip us)):Binds K fd ps []:=by
 obtain⟨oc,od,kV,doc,pm,an,cdv,ct,osl,rfl,lk,hcd⟩:=F.ex;exact .all (h kV doc pm an cdv ct)
theorem bD2 {oc:Value}{an:Option Addr}{osl:Array (Option Value)}{kV doc pm cdv ct:Value}(l:K.lookup f=some ⟨oc,od,.func<|fnOf x qual (kJ st) (eZ st) (aJ st) .none kV doc pm an cdv ct,osl⟩)
  (c:codeIn K cdv qual=true) (k:keepIn K (.ref f)=true):Fun K x qual st f (fnOf x qual (kJ st) (eZ st) (aJ st) .none kV doc pm an cdv ct):=⟨⟨oc,od,kV,doc,pm,an,cdv,ct,osl,rfl,l,c⟩,k⟩
end
section
variable {X:Cx}
theorem pv (i:Nat)(hN:↥(X.N[i]? =some x))(hv:Vis X.env.scope x:=by first|exact Or.inl rfl|exact Or.inr (Or.inl rfl)|exact Or.inr (Or.inr rfl))(hd:⇑(x∪0))
  (hcd:⇑((x==("__classdict__":Str))=false)):PE X (.Name x pos) (aR6 i):=pe_var hN hv hd hcd
end
def j0 (H H':Hp):Prop:= ∀b o,H b=some o->H' b=some o
theorem j0.refl (H:Hp):j0 H H:=λ_ _ h=>h
theorem j0.trans {H H1 H2:Hp}(a:j0 H H1)(b:j0 H1 H2):j0 H H2:=λc o h=>b c o (a c o h)
theorem j0.free {H H':Hp}(e:j0 H H')(h:H' l=Option.none):H l=Option.none:=by
 cases q:H l with
 | none=>rfl
 | some o=>
  rw[e l o q]at h;cases h
theorem j0.seq {H H':Hp}{xs:List V}(e:j0 H H')(h:SqL K H a xs):SqL K H' a xs:=by
 rcases h with(h| ⟨o,h⟩)|h
 .exact .inl (.inl<|e _ _ h)
 .exact .inl (.inr ⟨o,e _ _ h⟩)
 .exact .inr h
end L2
namespace M
inductive D where
 | non|bl (b:Bool)|int (i:Int)|str (x:Str)|ty (n:String)
 | tup (l:List D)|lst (l:List D)|rol (l:List D)
 | obj (C:Addr) (ks:List Str) (l:List D)
 | adr (a:Addr)
 | xob (a d:Addr) (ks:List Str) (l:List D)
abbrev AS:=Addr->Prop
def KT (K:Frag)(a:Addr)(vs:List V):Prop:=
 ∃(o:Obj) (its:Array Value) (n:Nat),K.lookup a=some o/\o.cls= .type "tuple"/\o.data= .seq its n/\its.size<=sizeLine/\Vals vs its.toList
def KL (K:Frag)(a:Addr)(vs:List V):Prop:=
 ∃(o:Obj) (its:Array Value) (n:Nat),K.lookup a=some o/\o.cls= .type "list"/\o.dict=none/\o.data= .seq its n/\its.size<=sizeLine/\Vals vs its.toList
def OkC (K:Frag)(C:Addr)(ks:List Str):Prop:=Cls K C/\ ∀f∈ks,aA6 K C f
mutual
def Rep (K:Frag)(A:AS)(H:Hp):D->V->Prop
 | .non,v=>v= .non
 | .bl b,v=>v= .bl b
 | .int i,v=>v= .int i
 | .str x,v=>v= .str x
 | .ty n,v=>v= .ty n
 | .tup l,v=> ∃a vs,v= .ref a/\((¬A a/\Rd H a (.tup vs))\/KT K a vs)/\cB K A H l vs
 | .lst l,v=> ∃a vs,v= .ref a/\ ¬A a/\H a=some (.lst vs)/\cB K A H l vs
 | .rol l,v=> ∃a vs,v= .ref a/\((¬A a/\Rd H a (.lst vs))\/KL K a vs)/\cB K A H l vs
 | .obj C ks l,v=> ∃a dx vs,v= .ref a/\ ¬A a/\H a=some (.ins C dx<|ks.zip vs)/\ks.length=vs.length/\cB K A H l vs/\OkC K C ks
 | .adr a,v=>v= .ref a
 | .xob a d ks l,v=> ∃vs,v= .ref a/\ ¬A d/\H d=some (.xd<|ks.zip vs)/\ks.length=vs.length/\cB K A H l vs
def cB (K:Frag)(A:AS)(H:Hp):List D->List V->Prop
 | [],vs=>vs=[]
 | d::ds,vs=> ∃v vr,vs=v::vr/\Rep K A H d v/\cB K A H ds vr
end
section
variable {K:Frag}{A A':AS}{H H':Hp}
def oC (A:AS)(H:Hp)(A':AS)(H':Hp):Prop:= ∀b o,¬A b->H b=some o-> ¬A' b/\H' b=some o
theorem Rd.pres (p:oC A H A' H'){u:HO}(n: ¬A a)(r:Rd H a u): ¬A' a/\Rd H' a u:=by
 rcases r with r| ⟨o,r⟩
 .exact⟨(p a _ n r).1,.inl (p a _ n r).2⟩
 .exact⟨(p a _ n r).1,.inr ⟨o,(p a _ n r).2⟩⟩
mutual
theorem Rep.mono (p:oC A H A' H'): ∀{d:D} {v:V},Rep K A H d v->Rep K A' H' d v
 | .non,_,h=>h
 | .bl _,_,h=>h
 | .int _,_,h=>h
 | .str _,_,h=>h
 | .ty _,_,h=>h
 | .tup l,v,h=>by
  simp only[Rep]at h⊢;obtain⟨a,vs,e,c,r⟩:=h;refine⟨a,vs,e,?_,cB.mono p r⟩;rcases c with⟨n,c⟩|c
  .exact .inl (Rd.pres p n c)
  .exact .inr c
 | .lst l,v,h=>by
  simp only[Rep]at h⊢;obtain⟨a,vs,e,n,c,r⟩:=h;exact⟨a,vs,e,(p a _ n c).1,(p a _ n c).2,cB.mono p r⟩
 | .rol l,v,h=>by
  simp only[Rep]at h⊢;obtain⟨a,vs,e,c,r⟩:=h;refine⟨a,vs,e,?_,cB.mono p r⟩;rcases c with⟨n,c⟩|c
  .exact .inl (Rd.pres p n c)
  .exact .inr c
 | .obj C ks l,v,h=>by
  simp only[Rep]at h⊢;obtain⟨a,dx,vs,e,n,c,hl,r,ok⟩:=h;exact⟨a,dx,vs,e,(p a _ n c).1,(p a _ n c).2,hl,cB.mono p r,ok⟩
 | .adr _,_,h=>h
 | .xob a d ks l,v,h=>by
  simp only[Rep]at h⊢;obtain⟨vs,e,n,c,hl,r⟩:=h;exact⟨vs,e,(p d _ n c).1,(p d _ n c).2,hl,cB.mono p r⟩
theorem cB.mono (p:oC A H A' H'): ∀{l:List D} {vs:List V},cB K A H l vs->cB K A' H' l vs
 | [],_,h=>by simp only[cB]at h ⊢; exact h
 | d::ds,vs,h=>by
  simp only[cB]at h⊢;obtain⟨v,vr,e,r,rs⟩:=h;exact⟨v,vr,e,Rep.mono p r,cB.mono p rs⟩
end
theorem cB.length: ∀{l:List D} {vs:List V},cB K A H l vs->l.length=vs.length
 | [],_,h=>by simp only[cB]at h;subst h;rfl
 | d::ds,vs,h=>by
  simp only[cB]at h;obtain⟨v,vr,rfl,_,rs⟩:=h;simp only[dP,cB.length rs]
theorem cB.nil:cB K A H [] []:=by simp only[cB]
theorem cB.cons {d:D}{v:V}{l:List D}{vs:List V}(r:Rep K A H d v)(rs:cB K A H l vs):cB K A H (d::l) (v::vs):=by
 simp only[cB];exact⟨v,vs,rfl,r,rs⟩
theorem cB.uncons {d:D}{l:List D}{vs:List V}(h:cB K A H (d::l) vs): ∃v vr,vs=v::vr/\Rep K A H d v/\cB K A H l vr:=by
 simpa only[cB]using h
theorem cB.unnil {vs:List V}(h:cB K A H [] vs):vs=[]:=by simpa only[cB]using h
theorem cB.append: ∀{l m:List D} {vs ws:List V},cB K A H l vs->cB K A H m ws->cB K A H (l++m) (vs++ws)
 | [],_,_,_,h,g=>by rw[h.unnil];exact g
 | d::l,m,vs,ws,h,g=>by
  obtain⟨v,vr,rfl,r,rs⟩:=h.uncons;exact .cons r (cB.append rs g)
theorem cB.get: ∀{l:List D} {vs:List V} {i:Nat} {d:D},cB K A H l vs->l[i]? =some d-> ∃v,vs[i]? =some v/\Rep K A H d v
 | [],_,_,_,_,e=>by simp at e
 | d::l,vs,0,d',h,e=>by
  obtain⟨v,vr,rfl,r,rs⟩:=h.uncons;simp at e;subst e;exact⟨v,ae,r⟩
 | d::l,vs,i+1,d',h,e=>by
  obtain⟨v,vr,rfl,r,rs⟩:=h.uncons;obtain⟨w,h1,h2⟩:=cB.get (i:=i) rs (by exists e)
  exact⟨w,by simpa using h1,h2⟩
theorem cB.set: ∀{l:List D} {vs:List V} {d:D} {v:V} (i:Nat),cB K A H l vs->Rep K A H d v->cB K A H (l.set i d) (vs.set i v)
 | [],_,_,_,_,h,_=>by rw[h.unnil];exact .nil
 | d'::l,vs,d,v,0,h,g=>by
  obtain⟨w,vr,rfl,r,rs⟩:=h.uncons;exact .cons g rs
 | d'::l,vs,d,v,i+1,h,g=>by
  obtain⟨w,vr,rfl,r,rs⟩:=h.uncons;exact .cons r (cB.set i rs g)
theorem cB.drop: ∀{l:List D} {vs:List V} (n:Nat),cB K A H l vs->cB K A H (l.drop n) (vs.drop n)
 | _,_,0,h=>h
 | [],_,n+1,h=>by rw[h.unnil];exact .nil
 | d::l,vs,n+1,h=>by
  obtain⟨v,vr,rfl,r,rs⟩:=h.uncons;exact cB.drop n rs
theorem cB.take: ∀{l:List D} {vs:List V} (n:Nat),cB K A H l vs->cB K A H (l.take n) (vs.take n)
 | _,_,0,h=>by simp only[List.take_zero];exact .nil
 | [],_,n+1,h=>by rw[h.unnil];exact .nil
 | d::l,vs,n+1,h=>by
  obtain⟨v,vr,rfl,r,rs⟩:=h.uncons;exact .cons r (cB.take n rs)
theorem cB.rep {l:List D}{vs:List V}(h:cB K A H l vs): ∀k:Nat,cB K A H (replicate k l).flatten (replicate k vs).flatten
 | 0=> .nil
 | k+1=>by
  rw[lD,lD,oV,oV];exact .append h (h.rep k)
theorem cB.reverse: ∀{l:List D} {vs:List V},cB K A H l vs->cB K A H l.reverse vs.reverse
 | [],_,h=>by rw[h.unnil];exact .nil
 | d::l,vs,h=>by
  obtain⟨v,vr,rfl,r,rs⟩:=h.uncons;rw[a11,a11];exact .append (cB.reverse rs) (.cons r .nil)
theorem oC.same (s:j0 H H'):oC A H A H':=λb o n e=>⟨n,s b o e⟩
theorem oC.sub (s:j0 H H')(h: ∀a,A' a->A a):oC A H A' H':=λb o n e=>⟨λq=>n (h b q),s b o e⟩
theorem oC.fresh (s:j0 H H')(n:H a=none):oC A H (λb=>A b\/b=a) H':=λb o nb e=>
 ⟨λq=>q.elim nb λz=>(by subst z;rw[n]at e;cases e),s b o e⟩
theorem oC.upd {a:Addr}{o:HO}(h:A a):oC A H A (upd H a o):=λb o' nb e=>⟨nb,by rw[cV λz=>nb (by subst z;exact h)];exact e⟩
end
inductive B where
 | pu (d:D)|ow (l:List D)|bo (l:List D)
nonrec def B.d:B->D
 | .pu d=>d
 | .ow l=> .lst l
 | .bo l=> .lst l
abbrev Ev:=List (Option B)
def Own (ρ:Ev)(σ:L2.St):AS:=λa=> ∃(i:Nat) (l:List D),ρ[i]? =some (some<|.ow l)/\σ[i]? =some (some<|.ref a)
structure C0 where
 H0:Hp
 A0:AS
def Av (C:C0)(ρ:Ev)(σ:L2.St):AS:=λa=>C.A0 a\/Own ρ σ a
structure EOk (K:Frag)(C:C0)(ρ:Ev)(σ:L2.St)(H:Hp):Prop where
 len:ρ.length=σ.length
 pu: ∀(i:Nat) (d:D),ρ[i]? =some (some<|.pu d)-> ∃v,σ[i]? =some (some v)/\Rep K (Av C ρ σ) H d v
 ow: ∀(i:Nat) (l:List D),ρ[i]? =some (some<|.ow l)-> ∃a vs,σ[i]? =some (some<|.ref a)/\H a=some (.lst vs)/\C.H0 a=none/\cB K (Av C ρ σ) H l vs
 inj: ∀(i j:Nat) (l l':List D) (a:Addr),ρ[i]? =some (some<|.ow l)->ρ[j]? =some (some<|.ow l')->σ[i]? =some (some<|.ref a)->σ[j]? =some (some<|.ref a)->i=j
 bo: ∀(i:Nat) (l:List D),ρ[i]? =some (some<|.bo l)-> ∃a vs,σ[i]? =some (some<|.ref a)/\C.A0 a/\C.H0 a=some (.lst vs)/\cB K (Av C ρ σ) H l vs
 ext:j0 C.H0 H
 a0: ∀a,C.A0 a->C.H0 a≠none
section
variable {K:Frag}{C:C0}{ρ ρ':Ev}{σ σ':L2.St}{H H':Hp}
theorem EOk.avSome (I:EOk K C ρ σ H)(h:Av C ρ σ a):H a≠none:=by
 rcases h with h| ⟨i,l,h1,h2⟩
 .intro z;cases e:C.H0 a with
  | none=>exact I.a0 a h e
  | some o=>rw[I.ext a o e]at z;cases z
 .obtain⟨b,vs,h3,h4,_⟩:=I.ow i l h1;rw[h2]at h3;cases h3;rw[h4];simp
theorem EOk.same (I:EOk K C ρ σ H)(s:j0 H H'):EOk K C ρ σ H' where
 len:=I.len
 pu:=λi d h=>let ⟨v,h1,h2⟩:=I.pu i d h;⟨v,h1,h2.mono<|.same s⟩
 ow:=λi l h=>let ⟨a,vs,h1,h2,h3,h4⟩:=I.ow i l h;⟨a,vs,h1,s _ _ h2,h3,h4.mono<|.same s⟩
 inj:=I.inj
 bo:=λi l h=>let ⟨a,vs,h1,h2,h3,h4⟩:=I.bo i l h;⟨a,vs,h1,h2,h3,h4.mono<|.same s⟩
 ext:=I.ext.trans s
 a0:=I.a0
theorem get_set_ne {α:Type}{l:List α}{x:α}(h:i≠j):(l.set i x)[j]? =l[j]? :=by
 rw[aP9];simp[h]
theorem kC {α:Type}{l:List α}{x:α}(h:i<l.length):(l.set i x)[i]? =some x:=by
 rw[aP9];simp[h]
theorem bF {α:Type}{l:List α}{x y:α}(h:(l.set i x)[j]? =some y):(i=j/\y=x/\i<l.length)\/(i≠j/\l[j]? =some y):=by
 by_cases e:i=j
 .subst e;rw[aP9]at h
  by_cases hl:i<l.length
  .simp[hl]at h;exact .inl ⟨rfl,h.symm,hl⟩
  .simp[hl]at h
 .exact .inr ⟨e,by rw[get_set_ne e]at h;exact h⟩
def vU (K:Frag)(A:AS)(H H':Hp):B->V->Prop
 | .pu d,v=>Rep K A H' d v
 | .ow l,v=> ∃a vs,v= .ref a/\H a=none/\H' a=some (.lst vs)/\cB K (λb=>A b\/b=a) H' l vs
 | .bo _,_=>False
theorem vU.rep {A:AS}(hA: ∀a,A a->H a≠none): ∀{b:B} {v:V},vU K A H H' b v->Rep K A H' b.d v
 | .pu d,v,h=>h
 | .ow l,v,h=>by
  obtain⟨a,vs,e,n,h1,r⟩:=h;show Rep K A H' (.lst l) v;simp only[Rep];exact⟨a,vs,e,λz=>hA a z n,h1,r.mono λb o nb q=>⟨λz=>nb (.inl z),q⟩⟩
 | .bo l,v,h=>h.elim
theorem EOk.store (I:EOk K C ρ σ H){b:B}{v:V}{H1:Hp}(s:j0 H H1)(r:vU K (Av C ρ σ) H H1 b v)(hi:i<σ.length):EOk K C (ρ.set i<|some b) (σ.set i<|some v) H1:=by
 have I1:=I.same s;have hir:i<ρ.length:=by rw[I.len];exact hi
 cases b with
 | pu d=>
  have sub: ∀a,Av C (ρ.set i<|some<|.pu d) (σ.set i<|some v) a->Av C ρ σ a:=by
   rintro a (z| ⟨j,l,h1,h2⟩)
   .exact .inl z
   .rcases bF h1 with⟨rfl,h3,_⟩| ⟨ne,h3⟩
    .cases h3
    .rw[get_set_ne ne]at h2;exact .inr ⟨j,l,h3,h2⟩
  refine⟨by rw[gH,gH];exact I.len,?_,?_,?_,?_,I1.ext,I.a0⟩
  rotate_right
  .intro j l h;rcases bF h with⟨rfl,h3,_⟩| ⟨ne,h3⟩
   .cases h3
   .obtain⟨a,vs,h4,h5,h6,h7⟩:=I1.bo j l h3;exact⟨a,vs,by rw[get_set_ne ne];exact h4,h5,h6,h7.mono<|.sub (.refl _) sub⟩
  .intro j d' h;rcases bF h with⟨rfl,h3,_⟩| ⟨ne,h3⟩
   .cases h3;exact⟨v,kC hi,Rep.mono (.sub (.refl _) sub) r⟩
   .obtain⟨v',h4,h5⟩:=I1.pu j d' h3;exact⟨v',by rw[get_set_ne ne];exact h4,h5.mono<|.sub (.refl _) sub⟩
  .intro j l h;rcases bF h with⟨rfl,h3,_⟩| ⟨ne,h3⟩
   .cases h3
   .obtain⟨a,vs,h4,h5,h6,h7⟩:=I1.ow j l h3;exact⟨a,vs,by rw[get_set_ne ne];exact h4,h5,h6,h7.mono<|.sub (.refl _) sub⟩
  .intro j k l l' a h1 h2 h3 h4;rcases bF h1 with⟨rfl,z,_⟩| ⟨ne,z⟩
   .cases z
   .rcases bF h2 with⟨rfl,z',_⟩| ⟨ne',z'⟩
    .cases z'
    .rw[get_set_ne ne]at h3;rw[get_set_ne ne']at h4;exact I.inj j k l l' a z z' h3 h4
 | ow l0=>
  obtain⟨a0,vs0,rfl,n0,e0,r0⟩:=r;have sub: ∀a,Av C (ρ.set i<|some<|.ow l0) (σ.set i<|some<|.ref a0) a->Av C ρ σ a\/a=a0:=by
   rintro a (z| ⟨j,l,h1,h2⟩)
   .exact .inl (.inl z)
   .rcases bF h1 with⟨rfl,h3,_⟩| ⟨ne,h3⟩
    .rw[kC hi]at h2;cases h2;exact .inr rfl
    .rw[get_set_ne ne]at h2;exact .inl (.inr ⟨j,l,h3,h2⟩)
  have P:oC (Av C ρ σ) H (Av C (ρ.set i<|some<|.ow l0)<|σ.set i<|some<|.ref a0) H1:=λb o nb e=>
   ⟨λq=>(sub b q).elim nb λz=>(by subst z;rw[n0]at e;cases e),s b o e⟩
  refine⟨by rw[gH,gH];exact I.len,?_,?_,?_,?_,I1.ext,I.a0⟩
  rotate_right
  .intro j l h;rcases bF h with⟨rfl,h3,_⟩| ⟨ne,h3⟩
   .cases h3
   .obtain⟨a,vs,h4,h5,h6,h7⟩:=I.bo j l h3;exact⟨a,vs,by rw[get_set_ne ne];exact h4,h5,h6,h7.mono P⟩
  .intro j d' h;rcases bF h with⟨rfl,h3,_⟩| ⟨ne,h3⟩
   .cases h3
   .obtain⟨v',h4,h5⟩:=I.pu j d' h3;exact⟨v',by rw[get_set_ne ne];exact h4,h5.mono P⟩
  .intro j l h;rcases bF h with⟨rfl,h3,_⟩| ⟨ne,h3⟩
   .cases h3;refine⟨a0,vs0,kC hi,e0,?_,r0.mono λb o nb q=>⟨λz=>nb (sub b z),q⟩⟩
    cases e:C.H0 a0 with
    | none=>rfl
    | some o=>rw[I.ext _ _ e]at n0;cases n0
   .obtain⟨a,vs,h4,h5,h6,h7⟩:=I.ow j l h3;exact⟨a,vs,by rw[get_set_ne ne];exact h4,s _ _ h5,h6,h7.mono P⟩
  .intro j k l l' a h1 h2 h3 h4;have old: ∀{j:Nat} {l:List D},ρ[j]? =some (some<|.ow l)->σ[j]? ≠some (some<|.ref a0):=λ{j l} h z=>by
    obtain⟨b,vs,h4,h5,_⟩:=I.ow j l h;rw[z]at h4;cases h4;rw[n0]at h5;cases h5
   rcases bF h1 with⟨rfl,z,_⟩| ⟨ne,z⟩
   .rw[kC hi]at h3;cases h3;rcases bF h2 with⟨rfl,z',_⟩| ⟨ne',z'⟩
    .rfl
    .rw[get_set_ne ne']at h4;exact absurd h4 (old z')
   .rw[get_set_ne ne]at h3;rcases bF h2 with⟨rfl,z',_⟩| ⟨ne',z'⟩
    .rw[kC hi]at h4;cases h4;exact absurd h3 (old z)
    .rw[get_set_ne ne']at h4;exact I.inj j k l l' a z z' h3 h4
 | bo l0=>exact r.elim
theorem EOk.freeze (I:EOk K C ρ σ H){l:List D}(h:ρ[i]? =some (some<|.ow l)) :
  EOk K C (ρ.set i<|some<|.pu<|.lst l) σ H/\(∀a,Own (ρ.set i<|some<|.pu<|.lst l) σ a->Own ρ σ a)/\ ∃v,σ[i]? =some (some v)/\Rep K (Av C (ρ.set i<|some<|.pu<|.lst l) σ) H (.lst l) v:=by
 have sub: ∀a,Own (ρ.set i<|some<|.pu<|.lst l) σ a->Own ρ σ a:=by
  rintro a ⟨j,l',h1,h2⟩;rcases bF h1 with⟨rfl,h3,_⟩| ⟨ne,h3⟩
  .cases h3
  .exact⟨j,l',h3,h2⟩
 have subA: ∀a,Av C (ρ.set i<|some<|.pu<|.lst l) σ a->Av C ρ σ a:=λa z=>z.imp id (sub a)
 obtain⟨a,vs,h1,h2,h3,h4⟩:=I.ow i l h;have na: ¬Av C (ρ.set i<|some<|.pu<|.lst l) σ a:=by
  rintro(z| ⟨j,l',g1,g2⟩)
  .exact I.a0 a z h3
  .rcases bF g1 with⟨rfl,g3,_⟩| ⟨ne,g3⟩
   .cases g3
   .exact ne (I.inj i j l l' a h g3 h1 g2)
 have R:Rep K (Av C (ρ.set i<|some<|.pu<|.lst l) σ) H (.lst l) (.ref a):=by
  simp only[Rep];exact⟨a,vs,rfl,na,h2,h4.mono<|.sub (.refl _) subA⟩
 refine⟨⟨by rw[gH];exact I.len,?_,?_,?_,?_,I.ext,I.a0⟩,sub,.ref a,h1,R⟩
 rotate_right
 .intro j l' g;rcases bF g with⟨rfl,g3,_⟩| ⟨ne,g3⟩
  .cases g3
  .obtain⟨a',vs',g4,g5,g6,g7⟩:=I.bo j l' g3;exact⟨a',vs',g4,g5,g6,g7.mono<|.sub (.refl _) subA⟩
 .intro j d' g;rcases bF g with⟨rfl,g3,_⟩| ⟨ne,g3⟩
  .cases g3;exact⟨_,h1,R⟩
  .obtain⟨v',g4,g5⟩:=I.pu j d' g3;exact⟨v',g4,g5.mono<|.sub (.refl _) subA⟩
 .intro j l' g;rcases bF g with⟨rfl,g3,_⟩| ⟨ne,g3⟩
  .cases g3
  .obtain⟨a',vs',g4,g5,g6,g7⟩:=I.ow j l' g3;exact⟨a',vs',g4,g5,g6,g7.mono<|.sub (.refl _) subA⟩
 .intro j k l1 l2 a' g1 g2 g3 g4;rcases bF g1 with⟨rfl,z,_⟩| ⟨ne,z⟩
  .cases z
  .rcases bF g2 with⟨rfl,z',_⟩| ⟨ne',z'⟩
   .cases z'
   .exact I.inj j k l1 l2 a' z z' g3 g4
theorem EOk.write (I:EOk K C ρ σ H){l l':List D}{vs':List V}(h:ρ[i]? =some (some<|.ow l))(hs:σ[i]? =some (some<|.ref a))(r:cB K (Av C ρ σ) H l' vs') :
  EOk K C (ρ.set i<|some<|.ow l') σ (upd H a<|.lst vs'):=by
 have hi:i<ρ.length:=(l8.mp h).1;have sub: ∀b,Av C (ρ.set i<|some<|.ow l') σ b->Av C ρ σ b:=by
  rintro b (z| ⟨j,l2,h1,h2⟩)
  .exact .inl z
  .rcases bF h1 with⟨rfl,h3,_⟩| ⟨ne,h3⟩
   .exact .inr ⟨i,l,h,h2⟩
   .exact .inr ⟨j,l2,h3,h2⟩
 have own:Av C ρ σ a:= .inr ⟨i,l,h,hs⟩;have P:oC (Av C ρ σ) H (Av C (ρ.set i<|some<|.ow l') σ) (upd H a<|.lst vs'):=λb o nb e=>⟨λz=>nb (sub b z),(oC.upd own b o nb e).2⟩
 obtain⟨a1,vs,h1,h2,h3,h4⟩:=I.ow i l h;rw[hs]at h1;cases h1;refine⟨by rw[gH];exact I.len,?_,?_,?_,?_,?_,I.a0⟩
 rotate_left 3
 .intro j l2 g;rcases bF g with⟨rfl,g3,_⟩| ⟨ne,g3⟩
  .cases g3
  .obtain⟨a',vs',g4,g5,g6,g7⟩:=I.bo j l2 g3;exact⟨a',vs',g4,g5,g6,g7.mono P⟩
 rotate_left 1
 .intro j d' g;rcases bF g with⟨rfl,g3,_⟩| ⟨ne,g3⟩
  .cases g3
  .obtain⟨v',g4,g5⟩:=I.pu j d' g3;exact⟨v',g4,g5.mono P⟩
 .intro j l2 g;rcases bF g with⟨rfl,g3,_⟩| ⟨ne,g3⟩
  .cases g3;exact⟨a,vs',hs,jM,h3,r.mono P⟩
  .obtain⟨a',vs2,g4,g5,g6,g7⟩:=I.ow j l2 g3;refine⟨a',vs2,g4,?_,g6,g7.mono P⟩;rw[cV λz=> ?_]
   .exact g5
   .subst z;exact ne (I.inj i j l l2 a' h g3 hs g4)
 .intro j k l1 l2 a' g1 g2 g3 g4;have old: ∀{j:Nat} {l1:List D},(ρ.set i<|some<|.ow l')[j]? =some (some<|.ow l1)-> ∃l3,ρ[j]? =some (some<|.ow l3):=λ{j l1} g=>by
   rcases bF g with⟨rfl,z,_⟩| ⟨ne,z⟩
   .exact⟨l,h⟩
   .exact⟨l1,z⟩
  obtain⟨_,q1⟩:=old g1;obtain⟨_,q2⟩:=old g2;exact I.inj j k _ _ a' q1 q2 g3 g4
 .intro b o e;rw[cV λz=> ?_]
  .exact I.ext b o e
  .subst z;rw[h3]at e;cases e
nonrec def C0.raise (C:C0)(ρ:Ev)(σ:L2.St)(H:Hp)(D:(a:Addr)->Decidable (Own ρ σ a)):C0:=⟨λb=> @ite _ (Own ρ σ b) (D b) none (H b),C.A0⟩
open Classical in
theorem EOk.raise (I:EOk K C ρ σ H):EOk K (C.raise ρ σ H λ_=>inferInstance) ρ σ H/\j0 C.H0 (C.raise ρ σ H λ_=>inferInstance).H0:=by
 have e1: ∀b,Own ρ σ b->(C.raise ρ σ H λ_=>inferInstance).H0 b=none:=λb h=>a8 h
 have e2: ∀b,¬Own ρ σ b->(C.raise ρ σ H λ_=>inferInstance).H0 b=H b:=λb h=>a7 h
 have no: ∀b o,C.H0 b=some o-> ¬Own ρ σ b:=λb o e ⟨i,l,h1,h2⟩=>by
  obtain⟨a,vs,h3,h4,h5,_⟩:=I.ow i l h1;rw[h2]at h3;cases h3;rw[h5]at e;cases e
 have s1:j0 C.H0 (C.raise ρ σ H λ_=>inferInstance).H0:=λb o e=>by rw[e2 b<|no b o e];exact I.ext b o e
 refine⟨⟨I.len,I.pu,λi l h=> ?_,I.inj,λi l h=> ?_,λb o e=> ?_,λa h z=> ?_⟩,s1⟩
 .obtain⟨a,vs,h3,h4,h5,h6⟩:=I.ow i l h;exact⟨a,vs,h3,h4,e1 a ⟨i,l,h,h3⟩,h6⟩
 .obtain⟨a,vs,h3,h4,h5,h6⟩:=I.bo i l h;exact⟨a,vs,h3,h4,s1 _ _ h5,h6⟩
 .by_cases q:Own ρ σ b
  .rw[e1 b q]at e;cases e
  .rw[e2 b q]at e;exact e
 .cases e:C.H0 a with
  | none=>exact I.a0 a h e
  | some o=>rw[s1 a o e]at z;cases z
theorem EOk.lower {C C':C0}(I:EOk K C' ρ σ H)(s:j0 C.H0 C'.H0)(e:C'.A0=C.A0)(ha: ∀a,C.A0 a->C.H0 a≠none):EOk K C ρ σ H:=by
 obtain⟨H0',A0'⟩:=C';obtain⟨H0,A0⟩:=C;have e':A0'=A0:=e;subst e';refine⟨I.len,I.pu,λi l h=> ?_,I.inj,λi l h=> ?_,s.trans I.ext,ha⟩
 .obtain⟨a,vs,h3,h4,h5,h6⟩:=I.ow i l h;exact⟨a,vs,h3,h4,s.free h5,h6⟩
 .obtain⟨a,vs,h3,h4,h5,h6⟩:=I.bo i l h;refine⟨a,vs,h3,h4,?_,h6⟩;cases e:H0 a with
  | none=>exact absurd e (ha a h4)
  | some o=>
   have:=s a o e;have h5':H0' a=some (.lst vs):=h5;have this':H0' a=some o:=this;rw[h5']at this';cases this';exact e
end
def Frz (ρ ρ':Ev):Prop:=ρ'.length=ρ.length/\ ∀i:Nat,ρ'[i]? =ρ[i]? \/ ∃l:List D,ρ[i]? =some (some<|.ow l)/\ρ'[i]? =some (some<|.pu<|.lst l)
theorem Frz.refl (ρ:Ev):Frz ρ ρ:=⟨rfl,λ_=> .inl rfl⟩
theorem Frz.trans {a b c:Ev}(h:Frz a b)(g:Frz b c):Frz a c:=by
 refine⟨g.1.trans h.1,λi=> ?_⟩
 rcases g.2 i with e| ⟨l,e1,e2⟩
 .rcases h.2 i with e'| ⟨l,e1,e2⟩
  .exact .inl (e.trans e')
  .exact .inr ⟨l,e1,e.trans e2⟩
 .rcases h.2 i with e'| ⟨l',e3,e4⟩
  .exact .inr ⟨l,e'▸e1,e2⟩
  .rw[e4]at e1;cases e1
theorem Frz.own {ρ ρ':Ev}{σ:L2.St}(f:Frz ρ ρ')(h:Own ρ' σ a):Own ρ σ a:=by
 obtain⟨i,l,h1,h2⟩:=h;rcases f.2 i with e| ⟨l',_,e2⟩
 .exact⟨i,l,e▸h1,h2⟩
 .rw[e2]at h1;cases h1
theorem Frz.set {ρ:Ev}{l:List D}(h:ρ[i]? =some (some<|.ow l)):Frz ρ (ρ.set i<|some<|.pu<|.lst l):=by
 refine⟨gH,λj=> ?_⟩
 by_cases e:i=j
 .subst e;exact .inr ⟨l,h,kC (l8.mp h).1⟩
 .exact .inl (get_set_ne e)
section
variable {K:Frag}{C:C0}{ρ ρ':Ev}{σ:L2.St}{H H':Hp}
theorem Frz.av (f:Frz ρ ρ')(h:Av C ρ' σ a):Av C ρ σ a:=h.imp id f.own
theorem EOk.frz (I:EOk K C ρ σ H)(f:Frz ρ ρ'):EOk K C ρ' σ H:=by
 have ow': ∀{j:Nat} {l:List D},ρ'[j]? =some (some<|.ow l)->ρ[j]? =some (some<|.ow l):=λ{j l} h=>by
  rcases f.2 j with e| ⟨l',_,e2⟩
  .exact e▸h
  .rw[e2]at h;cases h
 refine⟨by rw[f.1];exact I.len,λi d h=> ?_,λi l h=> ?_,λi j l l' a h1 h2=>I.inj i j l l' a (ow' h1) (ow' h2),λi l h=> ?_,I.ext,I.a0⟩
 .rcases f.2 i with e| ⟨l,e1,e2⟩
  .obtain⟨v,h1,h2⟩:=I.pu i d (e▸h);exact⟨v,h1,h2.mono<|.sub (.refl _) λa=>f.av⟩
  .rw[e2]at h;cases h;obtain⟨a,vs,h1,h2,h3,h4⟩:=I.ow i l e1;refine⟨.ref a,h1,?_⟩;simp only[Rep];refine⟨a,vs,rfl,?_,h2,h4.mono<|.sub (.refl _) λa=>f.av⟩
   rintro(z| ⟨j,l',g1,g2⟩)
   .exact I.a0 a z h3
   .have:=I.inj i j l l' a e1 (ow' g1) h1 g2;subst this;rw[e2]at g1;cases g1
 .obtain⟨a,vs,h1,h2,h3,h4⟩:=I.ow i l (ow' h);exact⟨a,vs,h1,h2,h3,h4.mono<|.sub (.refl _) λa=>f.av⟩
 .have h':ρ[i]? =some (some<|.bo l):=by
   rcases f.2 i with e| ⟨l',_,e2⟩
   .exact e▸h
   .rw[e2]at h;cases h
  obtain⟨a,vs,h1,h2,h3,h4⟩:=I.bo i l h';exact⟨a,vs,h1,h2,h3,h4.mono<|.sub (.refl _) λa=>f.av⟩
end
abbrev UE:=Ev->(B->Ev->Prop)->Prop
abbrev UV:=Ev->(D->Ev->Prop)->Prop
abbrev UA:=Ev->(List D->Ev->Prop)->Prop
abbrev UT:=Ev->(Bool->Ev->Prop)->Prop
def lE (K:Frag)(t:UE):TE:=λσ H Q=> ∃C ρ Q0,EOk K C ρ σ H/\t ρ Q0/\
 ∀b ρ' v H',Q0 b ρ'->Frz ρ ρ'->j0 H H'->vU K (Av C ρ' σ) H H' b v->Q v H'
def lA (K:Frag)(t:UA):TA:=λσ H Q=> ∃C ρ Q0,EOk K C ρ σ H/\t ρ Q0/\
 ∀ds ρ' vs H',Q0 ds ρ'->Frz ρ ρ'->j0 H H'->cB K (Av C ρ' σ) H' ds vs->Q vs H'
def lT (K:Frag)(t:UT):TT:=λσ H Q=> ∃C ρ Q0,EOk K C ρ σ H/\t ρ Q0/\
 ∀b ρ' H',Q0 b ρ'->Frz ρ ρ'->j0 H H'->Q b H'
def cI9 (K:Frag)(A:AS)(H:Hp):D->V->Prop
 | .tup l,v=> ∃a vs,v= .ref a/\SqT K H a vs/\cB K A H l vs
 | .lst l,v=> ∃a vs,v= .ref a/\H a=some (.lst vs)/\cB K A H l vs
 | .rol l,v=> ∃a vs,v= .ref a/\SqL K H a vs/\cB K A H l vs
 | d,v=>Rep K A H d v
def lV (K:Frag)(t:UV):TE:=λσ H Q=> ∃C ρ Q0,EOk K C ρ σ H/\t ρ Q0/\
 ∀d ρ' v H',Q0 d ρ'->Frz ρ ρ'->j0 H H'->cI9 K (Av C ρ' σ) H' d v->Q v H'
def PU (X:Cx)(e:Expr)(t:UE):Prop:=PE X e (lE X.K t)
def PUV (X:Cx)(e:Expr)(t:UV):Prop:=PE X e (lV X.K t)
def PUA (X:Cx)(es:List Expr)(t:UA):Prop:=PA X es (lA X.K t)
def PUT (X:Cx)(e:Expr)(t:UT):Prop:=PT X e (lT X.K t)
def PUW (X:Cx)(e:Expr)(t:UT):Prop:=PW X e (lT X.K t)
section
variable {K:Frag}{A:AS}{H:Hp}
theorem Rep.one: ∀{d:D} {v:V},Rep K A H d v->cI9 K A H d v
 | .non,_,h=>h
 | .bl _,_,h=>h
 | .int _,_,h=>h
 | .str _,_,h=>h
 | .ty _,_,h=>h
 | .tup l,v,h=>by
  simp only[Rep]at h;obtain⟨a,vs,e,c,r⟩:=h;exact⟨a,vs,e,c.imp cP id,r⟩
 | .lst l,v,h=>by
  simp only[Rep]at h;obtain⟨a,vs,e,n,c,r⟩:=h;exact⟨a,vs,e,c,r⟩
 | .rol l,v,h=>by
  simp only[Rep]at h;obtain⟨a,vs,e,c,r⟩:=h;exact⟨a,vs,e,c.imp cP id,r⟩
 | .obj _ _ _,_,h=>h
 | .adr _,_,h=>h
 | .xob _ _ _ _,_,h=>h
end
theorem jF {X:Cx}{t t':TE}(h:PE X e t)(i: ∀σ H Q,t' σ H Q->t σ H Q):PE X e t':=λpins s σ H Q I q=>h pins s σ H Q I (i σ H Q q)
theorem dW4 {X:Cx}{t t':TA}(h:PA X es t)(i: ∀σ H Q,t' σ H Q->t σ H Q):PA X es t':=λpos pins s σ H Q I q=>h pos pins s σ H Q I (i σ H Q q)
theorem bS7 {X:Cx}{t t':TT}(h:PT X e t)(i: ∀σ H Q,t' σ H Q->t σ H Q):PT X e t':=λpins s σ H Q I q=>h pins s σ H Q I (i σ H Q q)
theorem dW5 {X:Cx}{t t':TT}(h:PW X e t)(i: ∀σ H Q,t' σ H Q->t σ H Q):PW X e t':=λw pins s σ H Q I q=>h w pins s σ H Q I (i σ H Q q)
section
variable {X:Cx}{a b c e o:Expr}{es iA:List Expr}{pos:Pos}{ta tb tc:UE}
def uC (d:D):UE:=λρ Q=>Q (.pu d) ρ
theorem aE {i j pos}:PU X (.Constant (.int i) j pos) (uC<|.int i):=jF pe_int λσ H Q ⟨C,ρ,Q0,I,h,k⟩=>k _ ρ _ H h (.refl _) (.refl _) (show Rep _ _ _ _ _ by simp only[Rep])
theorem aV3 {b j pos}:PU X (.Constant (.bool b) j pos) (uC<|.bl b):=jF pe_bl λσ H Q ⟨C,ρ,Q0,I,h,k⟩=>k _ ρ _ H h (.refl _) (.refl _) (show Rep _ _ _ _ _ by simp only[Rep])
theorem bD3 {j pos}:PU X (.Constant .none j pos) (uC .non):=jF pe_non λσ H Q ⟨C,ρ,Q0,I,h,k⟩=>k _ ρ _ H h (.refl _) (.refl _) (show Rep _ _ _ _ _ by simp only[Rep])
theorem d60 {x j pos}:PU X (.Constant (.str x) j pos) (uC<|.str x):=jF pe_str λσ H Q ⟨C,ρ,Q0,I,h,k⟩=>k _ ρ _ H h (.refl _) (.refl _) (show Rep _ _ _ _ _ by simp only[Rep])
def aL0 (ρ:Ev)(i:Nat)(Q:B->Ev->Prop):Prop:=match ρ[i]? with
 | some (some<|.pu d)=>Q (.pu d) ρ
 | some (some<|.ow l)=>Q (.pu<|.lst l) (ρ.set i<|some<|.pu<|.lst l)
 | _=>False
def aB (i:Nat):UE:=λρ Q=>aL0 ρ i Q
theorem gX (i:Nat){pos:Pos}(h:PE X (.Name x pos) (aR6 i)):PU X (.Name x pos) (aB i):=jF h λσ H Q ⟨C,ρ,Q0,I,h,k⟩=>by
 unfold aB aL0 at h;split at h
 .rename_i d e
  obtain⟨v,h1,h2⟩:=I.pu i d e;exact⟨v,h1,k _ ρ v H h (.refl _) (.refl _) h2⟩
 .rename_i l e
  obtain⟨_,_,v,h1,h2⟩:=I.freeze e;exact⟨v,h1,k _ _ v H h (.set e) (.refl _) h2⟩
 .exact h.elim
def bD4 (ρ:Ev)(i:Nat)(Q:D->Ev->Prop):Prop:=match ρ[i]? with
 | some (some<|.pu d)=>Q d ρ
 | some (some<|.ow l)=>Q (.lst l) ρ
 | some (some<|.bo l)=>Q (.lst l) ρ
 | _=>False
def aQ (i:Nat):UV:=λρ Q=>bD4 ρ i Q
theorem a40 (i:Nat){pos:Pos}(h:PE X (.Name x pos) (aR6 i)):PUV X (.Name x pos) (aQ i):=jF h λσ H Q ⟨C,ρ,Q0,I,h,k⟩=>by
 unfold aQ bD4 at h;split at h
 .rename_i d e
  obtain⟨v,h1,h2⟩:=I.pu i d e;exact⟨v,h1,k _ ρ v H h (.refl _) (.refl _) h2.one⟩
 .rename_i l e
  obtain⟨a,vs,h1,h2,h3,h4⟩:=I.ow i l e;exact⟨_,h1,k _ ρ _ H h (.refl _) (.refl _) ⟨a,vs,rfl,h2,h4⟩⟩
 .rename_i l e
  obtain⟨a,vs,h1,h2,h3,h4⟩:=I.bo i l e;exact⟨_,h1,k _ ρ _ H h (.refl _) (.refl _) ⟨a,vs,rfl,I.ext _ _ h3,h4⟩⟩
 .exact h.elim
def uV (t:UE):UV:=λρ Q=>t ρ λb ρ1=>Q b.d ρ1
theorem EOk.avF {C:C0}{ρ ρ':Ev}{σ:L2.St}{H:Hp}(I:EOk K C ρ σ H)(f:Frz ρ ρ'){a:Addr}(h:Av C ρ' σ a):H a≠none:=I.avSome (f.av h)
theorem a83 (h:PU X e ta):PUV X e (uV ta):=jF h λσ H Q ⟨C,ρ,Q0,I,h,k⟩=>
 ⟨C,ρ,_,I,h,λb ρ' v H' q f s r=>k b.d ρ' v H' q f s (r.rep λa z=>I.avF f z).one⟩
theorem cP9 {v:V}{d:D}{pos:Pos}(h:PE X (.Name x pos) (tC v))(r: ∀A H,Rep X.K A H d v):PU X (.Name x pos) (uC d):=jF h λσ H Q ⟨C,ρ,Q0,I,h,k⟩=>k _ ρ _ H h (.refl _) (.refl _) (r _ _)
def OpU (X:Cx)(f:Value->Value->Sem Value)(g:D->D->(B->Prop)->Prop):Prop:=
 ∀(A:AS) (H:Hp) (d e:D) (v w:V) (Q0:B->Prop) (Q:VK),(∀a,A a->H a≠none)->Rep X.K A H d v->Rep X.K A H e w->g d e Q0->
  (∀b v' H',Q0 b->j0 H H'->vU X.K A H H' b v'->Q v' H')-> ∃r,OpR X f r/\r v w H Q
def uOp (g:D->D->(B->Prop)->Prop)(ta tb:UE):UE:=λρ Q=>ta ρ λx ρ1=>tb ρ1 λy ρ2=>g x.d y.d λb=>Q b ρ2
theorem d61 {f:Value->Value->Sem Value}:OpR X f (λx y H Q=> ∃r,OpR X f r/\r x y H Q):=λpins s σ H x y v u Q I rx ry ⟨r,hr,q⟩=>hr pins s σ H x y v u Q I rx ry q
theorem vU.from {K:Frag}{A:AS}{H0 H H':Hp}(s:j0 H0 H): ∀{b:B} {v:V},vU K A H H' b v->vU K A H0 H' b v
 | .pu _,_,h=>h
 | .ow _,_,⟨a,vs,e,n,h1,r⟩=>⟨a,vs,e,s.free n,h1,r⟩
 | .bo _,_,h=>h.elim
theorem lOp {f:Value->Value->Sem Value}{g:D->D->(B->Prop)->Prop}(ho:OpU X f g)(σ:L2.St)(H:Hp)(Q:VK)(h:lE X.K (uOp g ta tb) σ H Q) :
  tOp (λx y H Q=> ∃r,OpR X f r/\r x y H Q) (lE X.K ta) (lE X.K tb) σ H Q:=by
 obtain⟨C,ρ,Q0,I,h,k⟩:=h;refine⟨C,ρ,_,I,h,λx ρ1 v H1 q1 f1 s1 r1=> ?_⟩
 have I1:=(I.frz f1).same s1;refine⟨C,ρ1,_,I1,q1,λy ρ2 w H2 q2 f2 s2 r2=> ?_⟩
 have I2:=(I1.frz f2).same s2;have hA: ∀a,Av C ρ2 σ a->H2 a≠none:=λa z=>I2.avSome z
 refine ho (Av C ρ2 σ) H2 x.d y.d v w _ Q hA ((r1.rep λa z=>I.avF f1 z).mono<|.sub s2 λa=>f2.av) (r2.rep λa z=>I1.avF f2 z) q2 λb v' H' q s r=> ?_
 exact k b ρ2 v' H' q (f1.trans f2) (s1.trans<|s2.trans s) (r.from<|s1.trans s2)
theorem aM {op:Operator}{g:D->D->(B->Prop)->Prop}(ho:OpU X (binaryOp op) g)(ha:PU X a ta)(hb:PU X b tb):PU X (.BinOp a op b pos) (uOp g ta tb):=
 jF (pe_op d61 ha hb) (lOp ho)
theorem pu_cmp {g:D->D->(B->Prop)->Prop}(ho:OpU X (compareOp op) g)(ha:PU X a ta)(hb:PU X b tb)(hm:behindInMarks op b=false):PU X (.Compare a [op] [b] pos) (uOp g ta tb):=
 jF (dL6 d61 ha hb hm) (lOp ho)
def isB (Q:Bool->Ev->Prop):B->Ev->Prop:=λb ρ=>match b with
 | .pu (.bl k)=>Q k ρ
 | _=>False
nonrec def dF (t:UE):UT:=λρ Q=>t ρ (isB Q)
theorem d62 {t:UE}(σ:L2.St)(H:Hp)(Q:Bool->Hp->Prop)(h:lT X.K (dF t) σ H Q):lE X.K t σ H λx H'=> ∃k,x= .bl k/\Q k H':=by
 obtain⟨C,ρ,Q0,I,h,k⟩:=h;refine⟨C,ρ,_,I,h,λb ρ' v H' q f s r=> ?_⟩
 unfold isB at q;split at q
 .rename_i k'
  refine⟨k',?_,k k' ρ' H' q f s⟩
  have r':Rep X.K (Av C ρ' σ) H' (.bl k') v:=r
  simpa only[Rep]using r'
 .exact q.elim
theorem bS8 (h:PU X e ta)(he: ∀whole,isTrue e X.env whole=(do let v<-whole;standAt e.pos;holding [v] (truthy v)):=by intro _;rfl):PUT X e (dF ta):=
 bS7 (pt_val h he) d62
theorem bB0 {g:D->D->(B->Prop)->Prop}(ho:OpU X (compareOp op) g)(ha:PU X a ta)(hb:PU X b tb)(hm:behindInMarks op b=false):PUT X (.Compare a [op] [b] pos) (dF<|uOp g ta tb):=
 bS7 (dL7 d61 ha hb hm) λσ H Q h=>lOp ho σ H _ (d62 σ H Q h)
def c75 (t u:UT):UT:=λρ Q=>t ρ λc ρ1=>if c=true then u ρ1 Q else Q false ρ1
def uOr (t u:UT):UT:=λρ Q=>t ρ λc ρ1=>if c=true then Q true ρ1 else u ρ1 Q
def bY5 (t:UT):UT:=λρ Q=>t ρ λc ρ1=>Q (!c) ρ1
variable {tA tB:UT}
theorem zD (ha:PUT X a tA):PUW X (.BoolOp .And [a] pos) tA:=dK8 ha
theorem bB1 (ha:PUT X a tA):PUW X (.BoolOp .Or [a] pos) tA:=pw_or1 ha
theorem aI0 (ha:PUT X a tA)(hb:PUW X (.BoolOp .And (b::iA) pos) tB):PUW X (.BoolOp .And (a::b::iA) pos) (c75 tA tB):=
 dW5 (pw_and ha hb) λσ H Q ⟨C,ρ,Q0,I,h,k⟩=>⟨C,ρ,_,I,h,λc ρ1 H1 q f s=>by
  cases c with
  | true=>
   rw[a8 rfl]at q⊢;exact⟨C,ρ1,Q0,(I.frz f).same s,q,λb ρ2 H2 q2 f2 s2=>k b ρ2 H2 q2 (f.trans f2) (s.trans s2)⟩
  | false=>
   rw[a7 bJ]at q⊢;exact k _ _ _ q f s⟩
theorem b22 (ha:PUT X a tA)(hb:PUW X (.BoolOp .Or (b::iA) pos) tB):PUW X (.BoolOp .Or (a::b::iA) pos) (uOr tA tB):=
 dW5 (pw_or ha hb) λσ H Q ⟨C,ρ,Q0,I,h,k⟩=>⟨C,ρ,_,I,h,λc ρ1 H1 q f s=>by
  cases c with
  | true=>
   rw[a8 rfl]at q⊢;exact k _ _ _ q f s
  | false=>
   rw[a7 bJ]at q⊢;exact⟨C,ρ1,Q0,(I.frz f).same s,q,λb ρ2 H2 q2 f2 s2=>k b ρ2 H2 q2 (f.trans f2) (s.trans s2)⟩⟩
theorem PUW.pt (h:PUW X e tA):PUT X e tA:=PW.pt h
theorem bB2 (ha:PUT X a tA):PUT X (.UnaryOp .Not a pos) (bY5 tA):=
 bS7 (pt_not ha) λσ H Q ⟨C,ρ,Q0,I,h,k⟩=>⟨C,ρ,_,I,h,λc ρ1 H1 q f s=>k _ ρ1 H1 q f s⟩
def bS9 (t u:UE):UE:=λρ Q=>t ρ λx ρ1=>isB (λc ρ1=>if c=true then u ρ1 Q else Q (.pu<|.bl false) ρ1) x ρ1
def uOrV (t u:UE):UE:=λρ Q=>t ρ λx ρ1=>isB (λc ρ1=>if c=true then Q (.pu<|.bl true) ρ1 else u ρ1 Q) x ρ1
def d63 (t:UE):UE:=λρ Q=>t ρ λx ρ1=>isB (λc ρ1=>Q (.pu<|.bl<|!c) ρ1) x ρ1
theorem bY6 {Q:Bool->Ev->Prop}{b:B}{ρ:Ev}{A:AS}{H H':Hp}{v:V}(h:isB Q b ρ)(r:vU K A H H' b v): ∃k,v= .bl k/\Q k ρ:=by
 unfold isB at h;split at h
 .rename_i k'
  have r':Rep K A H' (.bl k') v:=r;exact⟨k',by simpa only[Rep]using r',h⟩
 .exact h.elim
theorem nY {A:AS}{H H':Hp}{k:Bool}:vU K A H H' (.pu<|.bl k) (.bl k):=by
 show Rep K A H' (.bl k) (.bl k)
 simp only[Rep]
theorem bY7 {op}(h:PU X a ta):PU X (.BoolOp op [a] pos) ta:=pe_one h
theorem cJ0 (ha:PU X a ta)(hb:PU X (.BoolOp .And (b::iA) pos) tb):PU X (.BoolOp .And (a::b::iA) pos) (bS9 ta tb):=
 jF (pe_and ha hb) λσ H Q ⟨C,ρ,Q0,I,h,k⟩=>⟨C,ρ,_,I,h,λx ρ1 v H1 q f s r=>by
  obtain⟨c,rfl,q⟩:=bY6 q r;refine⟨c,rfl,?_⟩;cases c with
  | true=>
   rw[a8 rfl]at q⊢;exact⟨C,ρ1,Q0,(I.frz f).same s,q,λb ρ2 v H2 q2 f2 s2 r2=>k b ρ2 v H2 q2 (f.trans f2) (s.trans s2) (r2.from s)⟩
  | false=>
   rw[a7 bJ]at q⊢;exact k _ _ _ _ q f s nY⟩
theorem pu_or (ha:PU X a ta)(hb:PU X (.BoolOp .Or (b::iA) pos) tb):PU X (.BoolOp .Or (a::b::iA) pos) (uOrV ta tb):=
 jF (pe_or ha hb) λσ H Q ⟨C,ρ,Q0,I,h,k⟩=>⟨C,ρ,_,I,h,λx ρ1 v H1 q f s r=>by
  obtain⟨c,rfl,q⟩:=bY6 q r;refine⟨c,rfl,?_⟩;cases c with
  | true=>
   rw[a8 rfl]at q⊢;exact k _ _ _ _ q f s nY
  | false=>
   rw[a7 bJ]at q⊢;exact⟨C,ρ1,Q0,(I.frz f).same s,q,λb ρ2 v H2 q2 f2 s2 r2=>k b ρ2 v H2 q2 (f.trans f2) (s.trans s2) (r2.from s)⟩⟩
theorem pu_not (ha:PU X a ta):PU X (.UnaryOp .Not a pos) (d63 ta):=
 jF (pe_not ha) λσ H Q ⟨C,ρ,Q0,I,h,k⟩=>⟨C,ρ,_,I,h,λx ρ1 v H1 q f s r=>by
  obtain⟨c,rfl,q⟩:=bY6 q r;exact⟨c,rfl,k _ _ _ _ q f s nY⟩⟩
def uIf (t:UT)(ta tb:UE):UE:=λρ Q=>t ρ λc ρ1=>if c=true then ta ρ1 Q else tb ρ1 Q
theorem bD5 (hc:PUT X c tA)(ha:PU X a ta)(hb:PU X b tb):PU X (.IfExp c a b pos) (uIf tA ta tb):=
 jF (d37 hc ha hb) λσ H Q ⟨C,ρ,Q0,I,h,k⟩=>⟨C,ρ,_,I,h,λc ρ1 H1 q f s=>by
  have I1:=(I.frz f).same s;cases c with
  | true=>
   dsimp only at q⊢;rw[a8 rfl]at q⊢;exact⟨C,ρ1,Q0,I1,q,λb ρ2 v H2 q2 f2 s2 r2=>k b ρ2 v H2 q2 (f.trans f2) (s.trans s2) (r2.from s)⟩
  | false=>
   dsimp only at q⊢;rw[a7 bJ]at q⊢;exact⟨C,ρ1,Q0,I1,q,λb ρ2 v H2 q2 f2 s2 r2=>k b ρ2 v H2 q2 (f.trans f2) (s.trans s2) (r2.from s)⟩⟩
def aI:UA:=λρ Q=>Q [] ρ
def a6 (t:UE)(u:UA):UA:=λρ Q=>t ρ λx ρ1=>u ρ1 λxs ρ2=>Q (x.d::xs) ρ2
theorem aA:PUA X [] aI:=dW4 cI4 λσ H Q ⟨C,ρ,Q0,I,h,k⟩=>k [] ρ [] H h (.refl _) (.refl _) .nil
theorem aC {t:UA}(ha:PU X e ta)(hr:PUA X es t)(hs:↥(starEach (e::es) X.env=(false,eval e X.env)::starEach es X.env)):PUA X (e::es) (a6 ta t):=
 dW4 (bX7 ha hr hs) λσ H Q ⟨C,ρ,Q0,I,h,k⟩=>⟨C,ρ,_,I,h,λx ρ1 v H1 q1 f1 s1 r1=>by
  have I1:=(I.frz f1).same s1;refine⟨C,ρ1,_,I1,q1,λxs ρ2 vs H2 q2 f2 s2 r2=> ?_⟩
  exact k _ ρ2 _ H2 q2 (f1.trans f2) (s1.trans s2) (.cons ((r1.rep λa z=>I.avF f1 z).mono<|.sub s2 λa=>f2.av) r2)⟩
def bL (t:UA):UE:=λρ Q=>t ρ λl ρ1=>l.length<=sizeLine/\Q (.pu<|.tup l) ρ1
def dY (t:UA):UE:=λρ Q=>t ρ λl ρ1=>l.length<=sizeLine/\Q (.ow l) ρ1
theorem fL {H:Hp}{p:Addr}(h:H p=none)(o:HO):j0 H (upd H p o):=λb u q=>by rw[cV<|dX q h];exact q
theorem kY {A:AS}{H:Hp}{p:Addr}{l:List D}{vs:List V}(hA: ∀a,A a->H a≠none)(n:H p=none)(r:cB K A H l vs):Rep K A (upd H p<|.tup vs) (.tup l) (.ref p):=by
 simp only[Rep];exact⟨p,vs,rfl,.inl ⟨λz=>hA p z n,.inl jM⟩,r.mono<|.same<|fL n _⟩
theorem gO {A:AS}{H H0:Hp}{p:Addr}{l:List D}{vs:List V}(s:j0 H0 H)(n:H p=none)(r:cB K A H l vs):vU K A H0 (upd H p<|.lst vs) (.ow l) (.ref p):=
 ⟨p,vs,rfl,s.free n,jM,r.mono<|.fresh (fL n _) n⟩
theorem bK {t:UA}{x1}(h:PUA X es t):PU X (.Tuple es x1 pos) (bL t):=
 jF (pe_tup h) λσ H Q ⟨C,ρ,Q0,I,h,k⟩=>⟨C,ρ,_,I,h,λl ρ1 vs H1 q f s r=>by
  obtain⟨hz,q⟩:=q;refine⟨by rw[<-r.length];exact hz,λp n=> ?_⟩
  have I1:=(I.frz f).same s;exact k _ ρ1 _ _ q f (s.trans<|fL n _) (kY (λa z=>I1.avSome z) n r)⟩
theorem cN {t:UA}(h:PUA X es t):PU X (.List es pos) (dY t):=
 jF (pe_lst h) λσ H Q ⟨C,ρ,Q0,I,h,k⟩=>⟨C,ρ,_,I,h,λl ρ1 vs H1 q f s r=>by
  obtain⟨hz,q⟩:=q;refine⟨by rw[<-r.length];exact hz,λp n=> ?_⟩
  exact k _ ρ1 _ _ q f (s.trans<|fL n _) (gO s n r)⟩
abbrev Φ:=List D->(B->Prop)->Prop
def spP (K:Frag)(φ:Φ):Sp:=λvs H Q _=> ∃A ds Q0,(∀a,A a->H a≠none)/\cB K A H ds vs/\φ ds Q0/\ ∀b v H',Q0 b->j0 H H'->vU K A H H' b v->Q v H'
def aU (φ:Φ)(t:UA):UE:=λρ Q=>t ρ λds ρ1=>φ ds λb=>Q b ρ1
theorem lCall {t:UA}{E:XK}(σ:L2.St)(H:Hp)(Q:VK)(h:lE X.K (aU φ t) σ H Q):d49 (spP X.K φ) [] E (lA X.K t) σ H Q:=by
 obtain⟨C,ρ,Q0,I,h,k⟩:=h;refine⟨C,ρ,_,I,h,λds ρ1 vs H1 q f s r=> ?_⟩
 have I1:=(I.frz f).same s;show spP X.K φ (vs++[]) H1 Q E;rw[lK];exact⟨Av C ρ1 σ,ds,_,λa z=>I1.avSome z,r,q,λb v H' q' s' r'=>k b ρ1 v H' q' f (s.trans s') (r'.from s)⟩
theorem dM7 {CX:CXT}{ps:List Str}{E:XK}{t:UA}(F:uI X.prog X.w X.K X.mg X.base CX k f fd ps (spP X.K φ))(hr:iX k X.A)(hg:Gl X x)(hm:X.mg x=some (.ref f))
  (hk:keepIn X.K (.ref f)=true) (hb:Binds X.K fd ps []) (hx:xW CX X E) (ha:PUA X (e::es) t) (hdb:⇑(x∪0)) (he:↥(starEach (e::es) X.env=(false,eval e X.env)::starEach es X.env))
  (hpl:↥((backTo pos<|starEach es X.env).any (·.1)=false)):PU X (.Call (.Name x p) (e::es) [] pos) (aU φ t):=
 jF (cP4 F hr hg hm hk hb .nil hx ha hdb he hpl) lCall
theorem d64 {CX:CXT}{ps:List Str}{E:XK}(F:uI X.prog X.w X.K X.mg X.base CX k f fd ps (spP X.K φ))(hr:iX k X.A)(hg:Gl X x)(hm:X.mg x=some (.ref f))
  (hk:keepIn X.K (.ref f)=true) (hb:Binds X.K fd ps []) (hx:xW CX X E) (hdb:⇑(x∪0)):PU X (.Call (.Name x p) [] [] pos) (aU φ aI):=
 jF (d51 F hr hg hm hk hb .nil hx hdb) λσ H Q ⟨C,ρ,Q0,I,h,k⟩=>⟨Av C ρ σ,[],_,λa z=>I.avSome z,.nil,h,λb v H' q' s' r'=>k b ρ v H' q' (.refl _) s' r'⟩
def xA (X:Cx)(f:Value)(g:List D->(B->Prop)->Prop):Prop:=
 ∀(A:AS) (H:Hp) (ds:List D) (vs:List V) (Q0:B->Prop) (Q:VK),(∀a,A a->H a≠none)->cB X.K A H ds vs->g ds Q0->
  (∀b v' H',Q0 b->j0 H H'->vU X.K A H H' b v'->Q v' H')-> ∃r,qV X f r/\r vs H Q
theorem callAny {f:Value}:qV X f (λxs H Q=> ∃r,qV X f r/\r xs H Q):=λpins s σ H xs us Q I rx ⟨r,hr,q⟩=>hr pins s σ H xs us Q I rx q
theorem lCB {f:Value}{g:List D->(B->Prop)->Prop}{t:UA}(hc:xA X f g)(σ:L2.St)(H:Hp)(Q:VK)(h:lE X.K (aU g t) σ H Q):tCB (λxs H Q=> ∃r,qV X f r/\r xs H Q) (lA X.K t) σ H Q:=by
 obtain⟨C,ρ,Q0,I,h,k⟩:=h;refine⟨C,ρ,_,I,h,λds ρ1 vs H1 q f s r=> ?_⟩
 have I1:=(I.frz f).same s;exact hc (Av C ρ1 σ) H1 ds vs _ Q (λa z=>I1.avSome z) r q λb v H' q' s' r'=>k b ρ1 v H' q' f (s.trans s') (r'.from s)
theorem jN {id:String}{g:List D->(B->Prop)->Prop}{t:UA}(hc:xA X (.builtin id) g)(hg:Gl X x)(hm:X.mg x=none)(hv:bootBuiltins x=some (.builtin id))(ha:PUA X (e::es) t)(hn:⇑(x≠"__name__"))(hdb:⇑(x∪0))
  (he:↥(starEach (e::es) X.env=(false,eval e X.env)::starEach es X.env)) (hpl:↥((backTo pos<|starEach es X.env).any (·.1)=false)):PU X (.Call (.Name x p) (e::es) [] pos) (aU g t):=
 jF (c71 callAny hg hm hv ha hn hdb he hpl) (lCB hc)
theorem gY {T:String}{g:List D->(B->Prop)->Prop}{t:UA}(hc:xA X (.type T) g)(hg:Gl X x)(hm:X.mg x=none)(hv:bootBuiltins x=some (.type T))(ha:PUA X (e::es) t)(hn:⇑(x≠"__name__"))(hdb:⇑(x∪0))
  (he:↥(starEach (e::es) X.env=(false,eval e X.env)::starEach es X.env)) (hpl:↥((backTo pos<|starEach es X.env).any (·.1)=false)):PU X (.Call (.Name x p) (e::es) [] pos) (aU g t):=
 jF (cX6 callAny hg hm hv ha hn hdb he hpl) (lCB hc)
end
structure UD where
 nx:Ev->Prop
 rt:B->Prop
 bk:Ev->Prop:=λ_=>False
 ct:Ev->Prop:=λ_=>False
abbrev US:=UD->Ev->Prop
structure DOk (K:Frag)(C:C0)(D0:UD)(D:bO1):Prop where
 nx: ∀ρ σ H,D0.nx ρ->EOk K C ρ σ H->D.nx σ H
 rt: ∀b v H,D0.rt b->j0 C.H0 H->vU K C.A0 C.H0 H b v->D.rt v H
 bk: ∀ρ σ H,D0.bk ρ->EOk K C ρ σ H->D.bk σ H
 ct: ∀ρ σ H,D0.ct ρ->EOk K C ρ σ H->D.ct σ H
def lS (K:Frag)(t:US):TS:=λD σ H=> ∃C ρ D0,EOk K C ρ σ H/\t D0 ρ/\DOk K C D0 D
def PUS (X:Cx)(st:Stmt)(t:US):Prop:=PS X st (lS X.K t)
def tL (X:Cx)(sts:List Stmt)(t:US):Prop:=PSs X sts (lS X.K t)
theorem uB {X:Cx}{t t':TS}(h:PS X st t)(i: ∀D σ H,t' D σ H->t D σ H):PS X st t':=λpins s σ H D I q=>h pins s σ H D I (i D σ H q)
theorem bD6 {X:Cx}{st:List Stmt}{t t':TS}(h:PSs X st t)(i: ∀D σ H,t' D σ H->t D σ H):PSs X st t':=λpins s σ H D I q=>h pins s σ H D I (i D σ H q)
section
variable {X:Cx}{st:Stmt}{sts:List Stmt}{e:Expr}{pos:Pos}{t u:US}{te:UE}{tc:UT}{K:Frag}
def dG:US:=λD ρ=>D.nx ρ
def aW (t u:US):US:=λD ρ=>t {D with nx:=u D} ρ
theorem cJ1:tL X [] dG:=bD6 dK9 λD σ H ⟨C,ρ,D0,I,h,k⟩=>k.nx ρ σ H h I
theorem bV (h1:PUS X st t)(h2:tL X sts u):tL X (st::sts) (aW t u):=
 bD6 (zB h1 h2) λD σ H ⟨C,ρ,D0,I,h,k⟩=>⟨C,ρ,{D0 with nx:=u D0},I,h,⟨λρ' σ' H' q I'=>⟨C,ρ',D0,I',q,k⟩,k.rt,k.bk,k.ct⟩⟩
theorem bN (h1:PUS X st t):tL X [st] t:=bX3 h1
def eJ (t:UE):US:=λD ρ=>t ρ λb _=>D.rt b
theorem vU.back {A A':AS}{H0 H H':Hp}(s:j0 H0 H)(h: ∀a,A' a->A a): ∀{b:B} {v:V},vU K A H H' b v->vU K A' H0 H' b v
 | .pu _,_,r=>Rep.mono (.sub (.refl _) h) r
 | .ow _,_,⟨a,vs,e,n,h1,r⟩=>⟨a,vs,e,s.free n,h1,r.mono λb o nb q=>⟨λz=>nb (z.imp (h b) id),q⟩⟩
 | .bo _,_,r=>r.elim
theorem d65 (he:PU X e te):PUS X (.Return (some e) pos) (eJ te):=
 uB (d38 he) λD σ H ⟨C,ρ,D0,I,h,k⟩=>⟨C,ρ,_,I,h,λb ρ' v H' q f s r=>k.rt b v H' q (I.ext.trans s) (r.back I.ext λa z=> .inl z)⟩
def vV (i:Nat):US:=λD ρ=>match ρ[i]? with
 | some (some<|.pu d)=>D.rt (.pu d)
 | some (some<|.ow l)=>D.rt (.ow l)
 | _=>False
theorem qA (i:Nat)(h:PE X (.Name x p) (aR6 i)):PUS X (.Return (some<|.Name x p) pos) (vV i):=
 uB (d38 h) λD σ H ⟨C,ρ,D0,I,h,k⟩=>by
  unfold vV at h;split at h
  .rename_i d e
   obtain⟨v,h1,h2⟩:=I.pu i d e;exact⟨v,h1,k.rt _ v H h I.ext<|Rep.mono (.sub (.refl _) λa z=> .inl z) h2⟩
  .rename_i l e
   obtain⟨a,vs,h1,h2,h3,h4⟩:=I.ow i l e;refine⟨_,h1,k.rt _ _ H h I.ext ⟨a,vs,rfl,h3,h2,h4.mono λb o nb q=>⟨λz=>nb (z.elim .inl λz=> .inr ?_),q⟩⟩⟩
   subst z;exact⟨i,l,e,h1⟩
  .exact h.elim
def fU (c:UT)(t u:US):US:=λD ρ=>c ρ λb ρ1=>if b=true then t D ρ1 else u D ρ1
theorem d66 {a b:List Stmt}(hc:PUT X c tc)(ha:tL X a t)(hb:tL X b u):PUS X (.If c a b pos) (fU tc t u):=
 uB (dW3 hc ha hb) λD σ H ⟨C,ρ,D0,I,h,k⟩=>⟨C,ρ,_,I,h,λc ρ1 H1 q f s=>by
  have I1:=(I.frz f).same s;cases c with
  | true=>
   dsimp only at q⊢;rw[a8 rfl]at q⊢;exact⟨C,ρ1,D0,I1,q,k⟩
  | false=>
   dsimp only at q⊢;rw[a7 bJ]at q⊢;exact⟨C,ρ1,D0,I1,q,k⟩⟩
theorem c76:PUS X st (λ_ _=>False):=uB d39 λD σ H ⟨C,ρ,D0,I,h,k⟩=>h
abbrev UG:=B->Ev->(Ev->Prop)->Prop
def lG (K:Frag)(T:List Nat)(g:UG):TG:=λv σ H Q=> ∃C ρ b H00 Q0,EOk K C ρ σ H00/\j0 H00 H/\vU K (Av C ρ σ) H00 H b v/\g b ρ Q0/\ ∀ρ' σ' H',Q0 ρ'->EOk K C ρ' σ' H'->(∀j:Nat,j ∉ T->σ'[j]? =σ[j]?)->Q σ' H'
def PUG (X:Cx)(e:Expr)(T:List Nat)(g:UG):Prop:=PG X e (lG X.K T g)
theorem dW6 {t t':TG}(h:PG X e t)(i: ∀v σ H Q,t' v σ H Q->t v σ H Q):PG X e t':=λpins s σ H v u Q I r q=>h pins s σ H v u Q I r (i v σ H Q q)
def dM (i:Nat):UG:=λb ρ Q=>i<ρ.length/\Q (ρ.set i<|some b)
theorem sV (i:Nat)(h:PG X e (aA5 i)):PUG X e [i] (dM i):=dW6 h λv σ H Q z=>by
 obtain⟨C,ρ,b,H00,Q0,I,s,r,⟨hi,q⟩,k⟩:=z;exact k _ _ _ q (I.store s r (by rw[<-I.len];exact hi)) λj hj=>get_set_ne λz=>hj (by simp[z])
abbrev UGs:=List D->Ev->(Ev->Prop)->Prop
def lGs (K:Frag)(T:List Nat)(g:UGs):TGs:=λvs σ H Q=> ∃C ρ ds Q0,EOk K C ρ σ H/\cB K (Av C ρ σ) H ds vs/\g ds ρ Q0/\ ∀ρ' σ' H',Q0 ρ'->EOk K C ρ' σ' H'->(∀j:Nat,j ∉ T->σ'[j]? =σ[j]?)->Q σ' H'
def dM8 (X:Cx)(es:List Expr)(T:List Nat)(g:UGs):Prop:=PGs X es (lGs X.K T g)
def pO:UGs:=λds ρ Q=>ds=[]/\Q ρ
theorem Av.store_pu {C:C0}{ρ:Ev}{σ:L2.St}{d:D}{v:V}(h:Av C (ρ.set i<|some<|.pu d) (σ.set i<|some v) a):Av C ρ σ a:=by
 rcases h with z| ⟨j,l,h1,h2⟩
 .exact .inl z
 .rcases bF h1 with⟨rfl,h3,_⟩| ⟨ne,h3⟩
  .cases h3
  .rw[get_set_ne ne]at h2;exact .inr ⟨j,l,h3,h2⟩
theorem d67 {t t':TGs}(h:PGs X es t)(i: ∀v σ H Q,t' v σ H Q->t v σ H Q):PGs X es t':=λpins s σ H v u Q I r q=>h pins s σ H v u Q I r (i v σ H Q q)
theorem mE:dM8 X [] [] pO:=d67 dL0 λvs σ H Q z=>by
 obtain⟨C,ρ,ds,Q0,I,r,⟨e,q⟩,k⟩:=z;subst e;exact⟨r.unnil,k ρ σ H q I λ_ _=>rfl⟩
def eH (i:Nat)(u:UGs):UGs:=λds ρ Q=>match ds with
 | d::r=>i<ρ.length/\u r (ρ.set i<|some<|.pu d) Q
 | []=>False
theorem cX {u:UGs}{T:List Nat}(i:Nat)(h1:PG X e (aA5 i))(h2:dM8 X es T u)
  (hs:↥((assignEach (e::es) X.env).map (·.2)=assign e X.env::(assignEach es X.env).map (·.2))):dM8 X (e::es) (i::T) (eH i u):=
 d67 (d41 h1 h2 hs) λvs σ H Q z=>by
  obtain⟨C,ρ,ds,Q0,I,r,g,k⟩:=z;cases ds with
  | nil=>exact(show False from g).elim
  | cons d dr=>
   obtain⟨hi,g⟩:i<ρ.length/\u dr (ρ.set i<|some<|.pu d) Q0:=g;obtain⟨v,vr,rfl,rv,rr⟩:=r.uncons;have I1:EOk X.K C (ρ.set i<|some<|.pu d) (σ.set i<|some v) H:=I.store (b:= .pu d) (.refl _) rv (by rw[<-I.len];exact hi)
   exact⟨v,vr,rfl,C,_,dr,Q0,I1,rr.mono<|.sub (.refl _) λa z=>Av.store_pu z,g,λρ' σ' H' q I' hT=>k ρ' σ' H' q I' λj hj=>(hT j λz=>hj (bM _ z)).trans (get_set_ne λz=>hj (by simp[z]))⟩
def pP (u:UGs):UG:=λb ρ Q=>match b.d with
 | .tup ds=>u ds ρ Q
 | _=>False
theorem qB {u:UGs}{T:List Nat}(hc:X.calm=true)(h:dM8 X es T u)(hu: ∀ds ρ Q,u ds ρ Q->ds.length=n)
  (hn:↥((assignEach es X.env).length=n)) (hst:↥((assignEach es X.env).findIdx? (·.1)=none)):PUG X (.Tuple es k pos) T (pP u):=
 dW6 (pg_tup hc h hn hst) λv σ H Q z=>by
  obtain⟨C,ρ,b,H00,Q0,I,s,r,g,k⟩:=z;have R:=r.rep λa z=>I.avSome z
  unfold pP at g;split at g
  .rename_i ds e
   rw[e]at R;simp only[Rep]at R;obtain⟨a,vs,rfl,c,rs⟩:=R;exact⟨a,vs,rfl,c.imp cP id,by rw[<-rs.length];exact hu _ _ _ g,C,ρ,ds,Q0,I.same s,rs,g,k⟩
  .exact g.elim
def bD7 (t:UE)(g:UG):US:=λD ρ=>t ρ λb ρ1=>g b ρ1 D.nx
theorem b23 {g:UG}{T:List Nat}(he:PU X e te)(hg:PUG X tg T g)(hs:↥(swapsWithSole [tg] e pos.line X.env=pure false))(hw:↥(swappedStores [tg] e X.env=pure none))
  (h1:↥((assignEach [tg] X.env).map (·.2)=[assign tg X.env])):PUS X (.Assign [tg] e pos) (bD7 te g):=
 uB (d42 he hg hs hw h1) λD σ H ⟨C,ρ,D0,I,h,k⟩=>⟨C,ρ,_,I,h,λb ρ1 v H1 q f s r=>⟨C,ρ1,b,H,D0.nx,I.frz f,s,r,q,λρ' σ' H' q I' _=>k.nx ρ' σ' H' q I'⟩⟩
def cE (i:Nat)(t:UE):US:=λD ρ=>t ρ λb ρ1=>D.nx (ρ1.set i<|some b)
theorem aA7 (i:Nat)(hN:X.N.Nodup)(hi:X.N[i]? =some x)(hx:Loc X.env.scope x)(he:PU X e te)(hs:↥(swapsWith e (some<|.Name x pos') pos.line X.env=pure false))(hf:X.fn x=true\/X.env.scope.names.lookup x=some .local:=by walk_at "z")
  (hl: ∀pins σ H s,Inv X pins σ H s->i<σ.length:=by intro pins σ H s I;rw[I.len];decide):PUS X (.Assign [.Name x pos'] e pos) (cE i te):=by
 intro pins s σ H D I q;refine ps_set hN hi hx he hs hf pins s σ H D I ?_;obtain⟨C,ρ,D0,J,h,k⟩:=q;exact⟨C,ρ,_,J,h,λb ρ1 v H1 q f s1 r=>k.nx _ _ _ q ((J.frz f).store s1 r<|hl pins σ H s I)⟩
def IpU (X:Cx)(op:Operator)(g:D->D->(B->Prop)->Prop):Prop:=
 ∀(A:AS) (H:Hp) (d e:D) (v w:V) (Q0:B->Prop) (Q:VK),(∀a,A a->H a≠none)->Rep X.K A H d v->Rep X.K A H e w->g d e Q0->
  (∀b v' H',Q0 b->j0 H H'->vU X.K A H H' b v'->Q v' H')-> ∃r,PIp X op r/\r v w H Q
theorem ipAny {op:Operator}:PIp X op (λx y H Q=> ∃r,PIp X op r/\r x y H Q):=λpins s σ H x y v u Q I rx ry ⟨r,hr,q⟩=>hr pins s σ H x y v u Q I rx ry q
def c77 (i:Nat)(g:D->D->(B->Prop)->Prop)(te:UE):US:=λD ρ=>aL0 ρ i λx ρ0=>te ρ0 λy ρ1=>g x.d y.d λb=>D.nx (ρ1.set i<|some b)
theorem d68 {op:Operator}{g:D->D->(B->Prop)->Prop}(i:Nat)(hN:X.N.Nodup)(hi:X.N[i]? =some x)(hx:Loc X.env.scope x)(he:PU X e te)(ho:IpU X op g)(hf:X.fn x=true\/X.env.scope.names.lookup x=some .local:=by walk_at "z")
  (hl: ∀pins σ H s,Inv X pins σ H s->i<σ.length:=by intro pins σ H s I;rw[I.len];decide):PUS X (.AugAssign (.Name x pos') op e pos) (c77 i g te):=by
 intro pins s σ H D I q;refine ps_aug hN hi hx he ipAny hf pins s σ H D I ?_;obtain⟨C,ρ,D0,J,h,k⟩:=q;have go: ∀(d:M.D) (ρ0:Ev) (v:V),Frz ρ ρ0->σ[i]? =some (some v)->Rep X.K (Av C ρ0 σ) H d v->(te ρ0 λy ρ1=>g d y.d λb=>D0.nx (ρ1.set i<|some b))->
   tAug i (lE X.K te) (λx y H Q=> ∃r,PIp X op r/\r x y H Q) D σ H:=λd ρ0 v f0 h1 r0 h=>by
  have J0:=J.frz f0;refine⟨v,h1,C,ρ0,_,J0,h,λy ρ1 w H1 q1 f1 s1 r1=> ?_⟩
  have J1:=(J0.frz f1).same s1;refine ho (Av C ρ1 σ) H1 d y.d v w _ _ (λa z=>J1.avSome z) (r0.mono<|.sub s1 λa=>f1.av) (r1.rep λa z=>J0.avF f1 z) q1 λb v' H' q s r=> ?_
  exact k.nx _ _ _ q (J1.store s r<|hl pins σ _ _ I)
 unfold c77 aL0 at h;split at h
 .rename_i d e
  obtain⟨v,h1,h2⟩:=J.pu i d e;exact go d ρ v (.refl _) h1 h2 h
 .rename_i l e
  obtain⟨_,_,v,h1,h2⟩:=J.freeze e;exact go (.lst l) _ v (.set e) h1 h2 h
 .exact h.elim
def bY8 (c:UT)(tb:US):US:=λD ρ=> ∃W:Nat->Ev->Prop,(∃m,W m ρ)/\ ∀m ρ,W m ρ->
 c ρ λb ρ1=>if b=true then tb {D with nx:=λρ'=> ∃m',m'<m/\W m' ρ',ct:=λρ'=> ∃m',m'<m/\W m' ρ',bk:=D.nx} ρ1 else D.nx ρ1
theorem bD8 {tb:US}(hp:PassesOwn (model X.prog X.w) X.A X.env X.xe)(hc:PUT X c tc)(hb:tL X body tb):PUS X (.While c body [] pos) (bY8 tc tb):=
 uB (d44 hp hc hb) λD σ H ⟨C,ρ,D0,I,⟨W,⟨m0,w0⟩,turn⟩,k⟩=>by
  refine⟨λm σ H=> ∃ρ,EOk X.K C ρ σ H/\W m ρ,⟨m0,ρ,I,w0⟩,?_⟩
  rintro m σ H ⟨ρ,I,w⟩;refine⟨C,ρ,_,I,turn m ρ w,λb ρ1 H1 q f s=> ?_⟩
  have I1:=(I.frz f).same s;cases b with
  | true=>
   dsimp only at q⊢;rw[a8 rfl]at q⊢;refine⟨λσ' H'=> ∃m',m'<m/\ ∃ρ',EOk X.K C ρ' σ' H'/\W m' ρ',λσ' H' z=>z,C,ρ1,_,I1,q,⟨?_,k.rt,k.nx,?_⟩⟩
   .rintro ρ' σ' H' ⟨m',hm,w'⟩ I';exact⟨m',hm,ρ',I',w'⟩
   .rintro ρ' σ' H' ⟨m',hm,w'⟩ I';exact⟨m',hm,ρ',I',w'⟩
  | false=>
   dsimp only at q⊢;rw[a7 bJ]at q⊢;exact k.nx _ _ _ q I1
end
abbrev UI:=Ev->(Nat->(Nat->D)->Ev->Prop)->Prop
structure cJ2 (K:Frag)(A:AS)(H:Hp)(J:It)(n:Nat)(it:Nat->D):Prop where
 go: ∀A' H' i,oC A H A' H'->i<n->J.go i H'
 yld: ∀A' H' i x H'',oC A H A' H'->(∀a,A' a->H' a≠none)->i<n->J.yld i H' x H''->j0 H' H''/\Rep K A' H'' (it i) x
 stop: ∀A' H',oC A H A' H'->J.stop n H'
def lI (K:Frag)(t:UI):TI:=λσ H R=> ∃C ρ Q0,EOk K C ρ σ H/\t ρ Q0/\
 ∀n it ρ' J H',Q0 n it ρ'->Frz ρ ρ'->j0 H H'->cJ2 K (Av C ρ' σ) H' J n it->R J H'
def PUI (X:Cx)(tg iter:Expr)(t:UI):Prop:=PI X tg iter (lI X.K t)
def mK (ui:UI)(g:UG)(tb:US):US:=λD ρ=>ui ρ λn it ρ1=> ∃Pv:Nat->Ev->Prop,Pv 0 ρ1/\
 (∀i ρ,i<n->Pv i ρ->g (.pu<|it i) ρ λρ2=>tb {D with nx:=Pv (i+1),ct:=Pv (i+1),bk:=D.nx} ρ2)/\ ∀ρ,Pv n ρ->D.nx ρ
nonrec def C0.rz (C:C0) (ρ:Ev) (σ:L2.St) (H:Hp):C0:=C.raise ρ σ H λ_=>Classical.propDecidable _
section
variable {X:Cx}{e:Expr}{pos:Pos}{te:UE}{K:Frag}{C:C0}{ρ ρ':Ev}{σ σ':L2.St}{H H':Hp}
theorem EOk.rz (I:EOk K C ρ σ H):EOk K (C.rz ρ σ H) ρ σ H/\j0 C.H0 (C.rz ρ σ H).H0:=I.raise
theorem dM9 (I':EOk K (C.rz ρ σ H) ρ' σ' H'):oC (Av C ρ σ) H (Av (C.rz ρ σ H) ρ' σ') H':=λb o nb e=>by
 have e0:(C.rz ρ σ H).H0 b=some o:=by
  show @ite _ (Own ρ σ b) (Classical.propDecidable _) none (H b)=some o
  rw[a7 λz=>nb (.inr z)]
  exact e
 refine⟨?_,I'.ext b o e0⟩
 rintro(z| ⟨i,l,h1,h2⟩)
 .exact nb (.inl z)
 .obtain⟨a,vs,h3,h4,h5,_⟩:=I'.ow i l h1;rw[h2]at h3;cases h3;rw[e0]at h5;cases h5
theorem b24 {ui:UI}{g:UG}{T:List Nat}{tb:US}(hp:PassesOwn (model X.prog X.w) X.A X.env X.xe)(hc:X.calm=true)(hi:PUI X tg iter ui)(hg:PUG X tg T g)(hb:tL X body tb)
  (hs: ∀x,foldedSetIterable iter X.env x=pure x:=by intro _;rfl):PUS X (.For tg iter body [] pos) (mK ui g tb):=
 uB (ps_for hp hc hi hg hb hs) λD σ H ⟨C,ρ,D0,I,h,k⟩=>⟨C,ρ,_,I,h,λn it ρ1 J H1 q f s ok=>by
  obtain⟨Pv,p0,turn,fin⟩:=q;have I1:=(I.frz f).same s;obtain⟨Ir,sub⟩:=I1.rz;refine⟨λi m σ' H'=>m=n-i/\i<=n/\ ∃ρ',EOk X.K (C.rz ρ1 σ H1) ρ' σ' H'/\Pv i ρ',⟨n,rfl,dI _,ρ1,Ir,p0⟩,?_⟩
  rintro i m σ' H' ⟨rfl,hi,ρ',I',p'⟩;have P:=dM9 I';have lo: ∀ρ2 σ2 H2,EOk X.K (C.rz ρ1 σ H1) ρ2 σ2 H2->EOk X.K C ρ2 σ2 H2:=λρ2 σ2 H2 J2=>J2.lower sub rfl I.a0
  by_cases hlt:i<n
  .refine .inr ⟨ok.go _ _ i P hlt,λσ2 H2=> ∃ρ2,EOk X.K (C.rz ρ1 σ H1) ρ2 σ2 H2/\Pv (i+1) ρ2,λσ2 H2 z=>⟨n-(i+1),aa,rfl,hlt,z⟩,λx H2 y=> ?_⟩
   obtain⟨s2,r2⟩:=ok.yld _ _ i x H2 P (λa z=>I'.avSome z) hlt y
   refine⟨C.rz ρ1 σ H1,ρ',.pu<|it i,H',_,I',s2,r2,turn i ρ' hlt p',λρ2 σ2 H3 q I3 _=>⟨C.rz ρ1 σ H1,ρ2,_,I3,q,⟨?_,?_,?_,?_⟩⟩⟩
   .exact λρ3 σ3 H4 q I4=>⟨ρ3,I4,q⟩
   .exact λb v H4 q s4 r4=>k.rt b v H4 q (sub.trans s4) (r4.from sub)
   .exact λρ3 σ3 H4 q I4=>k.nx ρ3 σ3 H4 q (lo _ _ _ I4)
   .exact λρ3 σ3 H4 q I4=>⟨ρ3,I4,q⟩
  .have e:i=n:=aa
   subst e;exact .inl ⟨ok.stop _ _ P,k.nx _ _ _ (fin ρ' p')<|lo _ _ _ I'⟩⟩
nonrec def oE:D->Option (List D)
 | .tup l=>some l
 | .lst l=>some l
 | .rol l=>some l
 | _=>none
def fS (t:UE):UI:=λρ Q=>t ρ λb ρ1=>match oE b.d with
 | some l=>Q l.length (λi=>l.getD i .non) ρ1
 | none=>False
theorem pi_any {l:Expr}{tl:TE}(hl:PE X l tl):PI X tg l (λσ H R=>tl σ H λx H1=> ∃a,x= .ref a/\((∃xs,SqL X.K H1 a xs/\R (Itl X.K a) H1)\/ ∃xs,SqT X.K H1 a xs/\R (Itt X.K a) H1)):=by
 intro pins s σ H R I h;refine thn (hl pins s σ H _ I h) λv s1 ⟨x,H1,I1,r1,q1⟩=> ?_
 obtain⟨a,e,q⟩:=q1;subst e;cases r1;rcases q with⟨xs,hq,q⟩| ⟨xs,hq,q⟩
 .obtain⟨its,rv,p,hz⟩:=I1.list hq;refine a12 p.isList ?_;refine⟨s1.heap.objs.size,[s1.heap.objs.size],_,_,H1,rfl,I1.kept (t':=s1.toks) λb o e=>bE _ e,cW7 a _,⟨_,cO _ rfl,rfl,rfl⟩,λb hb=> ?_,q⟩
  have e:b=s1.heap.objs.size:=by exists hb
  subst e;exact I1.fpOk (aG _) (I1.hok.fresh<|aG _)
 .obtain⟨its,rv,p,hz⟩:=I1.tuple hq;refine wpAny_pyIter_tuple (show s1.heap.IsTuple a its.toArray from p) ?_
  refine⟨s1.heap.objs.size,[s1.heap.objs.size],_,_,H1,rfl,I1.kept (t':=s1.toks) λb o e=>bE _ e,cH6 a _,⟨_,cO _ rfl,rfl,rfl⟩,λb hb=> ?_,q⟩
  have e:b=s1.heap.objs.size:=by exists hb
  subst e;exact I1.fpOk (aG _) (I1.hok.fresh<|aG _)
theorem bD9 {t t':TI}(h:PI X tg iter t)(i: ∀σ H R,t' σ H R->t σ H R):PI X tg iter t':=λpins s σ H R I q=>h pins s σ H R I (i σ H R q)
theorem bT0 {A:AS}{vs:List V}{l:List D}(c:(¬A a/\Rd H a (.lst vs))\/KL K a vs)(r:cB K A H l vs):cJ2 K A H (Itl K a) l.length (λi=>l.getD i .non):=by
 have sq: ∀A' H',oC A H A' H'->SqL K H' a vs:=λA' H' P=>by
  rcases c with⟨n,c⟩|c
  .exact .inl (Rd.pres P n c).2
  .exact .inr c
 have get: ∀i,i<l.length-> ∃x,vs[i]? =some x/\Rep K A H (l.getD i .non) x:=λi hi=>r.get (by rw[aL,aO hi];rfl)
 refine⟨λA' H' i P hi=> ?_,λA' H' i x H'' P hA hi y=> ?_,λA' H' P=>⟨vs,sq _ _ P,by rw[r.length];exact aG _⟩⟩
 .obtain⟨x,e,_⟩:=get i hi;exact⟨vs,x,sq _ _ P,e⟩
 .obtain⟨x',e,r'⟩:=get i hi;obtain⟨rfl,y⟩:=y;have:=y vs (sq _ _ P);rw[e]at this;cases this;exact⟨.refl _,r'.mono P⟩
theorem d69 {A:AS}{vs:List V}{l:List D}(c:(¬A a/\Rd H a (.tup vs))\/KT K a vs)(r:cB K A H l vs):cJ2 K A H (Itt K a) l.length (λi=>l.getD i .non):=by
 have sq: ∀A' H',oC A H A' H'->SqT K H' a vs:=λA' H' P=>by
  rcases c with⟨n,c⟩|c
  .exact .inl (Rd.pres P n c).2
  .exact .inr c
 have get: ∀i,i<l.length-> ∃x,vs[i]? =some x/\Rep K A H (l.getD i .non) x:=λi hi=>r.get (by rw[aL,aO hi];rfl)
 refine⟨λA' H' i P hi=> ?_,λA' H' i x H'' P hA hi y=> ?_,λA' H' P=>⟨vs,sq _ _ P,by rw[r.length];exact aG _⟩⟩
 .obtain⟨x,e,_⟩:=get i hi;exact⟨vs,x,sq _ _ P,e⟩
 .obtain⟨x',e,r'⟩:=get i hi;obtain⟨rfl,y⟩:=y;have:=y vs (sq _ _ P);rw[e]at this;cases this;exact⟨.refl _,r'.mono P⟩
theorem gZ (h:PU X e te):PUI X tg e (fS te):=bD9 (pi_any h) λσ H R ⟨C,ρ,Q0,I,h,k⟩=>⟨C,ρ,_,I,h,λb ρ1 v H1 q f s r=>by
 have rr:=r.rep λa z=>I.avF f z
 generalize b.d=d at q rr;cases d with
 | tup l=>
  simp only[Rep]at rr;obtain⟨a,vs,rfl,c,rs⟩:=rr;exact⟨a,rfl,.inr ⟨vs,c.imp cP id,k _ _ ρ1 _ H1 q f s<|d69 c rs⟩⟩
 | lst l=>
  simp only[Rep]at rr;obtain⟨a,vs,rfl,n,c,rs⟩:=rr;exact⟨a,rfl,.inl ⟨vs,.inl<|.inl c,k _ _ ρ1 _ H1 q f s<|bT0 (.inl ⟨n,.inl c⟩) rs⟩⟩
 | rol l=>
  simp only[Rep]at rr;obtain⟨a,vs,rfl,c,rs⟩:=rr;exact⟨a,rfl,.inl ⟨vs,c.imp cP id,k _ _ ρ1 _ H1 q f s<|bT0 c rs⟩⟩
 | _=>exact(show False from q).elim⟩
theorem bE0 {A:AS}:cJ2 K A H (Itr lo n) n (λi=> .int (lo+i)):=
 ⟨λ_ _ _ _ h=>h,λ_ _ i x H'' _ _ _ ⟨e,y⟩=>by subst e;subst y;exact⟨.refl _,by simp only[Rep]⟩,λ_ _ _=>aG n⟩
def pQ (ta:UA):UI:=λρ Q=>ta ρ λds ρ1=>match ds with
 | [.int j]=>(-(2^62)<=j/\j<2^62)/\Q j.toNat (λi=> .int (0+i)) ρ1
 | _=>False
def aV4 (ta:UA):UI:=λρ Q=>ta ρ λds ρ1=>match ds with
 | [.int i,.int j]=>(-(2^62)<=i/\i<2^62/\ -(2^62)<=j/\j<2^62)/\Q (j-i).toNat (λk=> .int (i+k)) ρ1
 | _=>False
theorem bW {A:AS}{i:Int}{v:V}(h:Rep K A H (.int i) v):v= .int i:=by simpa only[Rep]using h
theorem jI {a:Expr}{ta:UA}(hg:Gl X "range")(hm:X.mg "range"=none)(ha:PUA X [a] ta)(hs:↥(starEach [a] X.env=[(false,eval a X.env)])):PUI X tg (.Call (.Name "range" p) [a] [] pos) (pQ ta):=
 bD9 (cW8 hg hm ha hs) λσ H R ⟨C,ρ,Q0,I,h,k⟩=>⟨C,ρ,_,I,h,λds ρ1 vs H1 q f s r=>by
  split at q
  .rename_i j
   obtain⟨v,vr,rfl,rv,rr⟩:=r.uncons;have:=rr.unnil;subst this;have:=bW rv;subst this;obtain⟨⟨h1,h2⟩,q⟩:=q;exact⟨j,rfl,h1,h2,k _ _ ρ1 _ H1 q f s bE0⟩
  .exact q.elim⟩
theorem zE {a b:Expr}{ta:UA}(hg:Gl X "range")(hm:X.mg "range"=none)(ha:PUA X [a,b] ta)(hs:↥(starEach [a,b] X.env=[(false,eval a X.env),(false,eval b X.env)]))(hs2:↥(starEach [b] X.env=[(false,eval b X.env)])) :
  PUI X tg (.Call (.Name "range" p) [a,b] [] pos) (aV4 ta):=
 bD9 (cW9 hg hm ha hs hs2) λσ H R ⟨C,ρ,Q0,I,h,k⟩=>⟨C,ρ,_,I,h,λds ρ1 vs H1 q f s r=>by
  split at q
  .rename_i i j
   obtain⟨v,vr,rfl,rv,rr⟩:=r.uncons;obtain⟨w,wr,rfl,rw',rr'⟩:=rr.uncons;have:=rr'.unnil;subst this;have:=bW rv;subst this;have:=bW rw';subst this;obtain⟨hb,q⟩:=q;exact⟨i,j,rfl,hb,k _ _ ρ1 _ H1 q f s bE0⟩
  .exact q.elim⟩
end
section
variable {X:Cx}{a b e o:Expr}{es:List Expr}{pos:Pos}{ta tb te ti:UE}{K:Frag}{C:C0}{ρ ρ':Ev}{σ σ':L2.St}{H H':Hp}{A:AS}
theorem Frz.ow {l:List D}(f:Frz ρ ρ')(h:ρ'[i]? =some (some<|.ow l)):ρ[i]? =some (some<|.ow l):=by
 rcases f.2 i with q| ⟨l',_,q⟩
 .exact q▸h
 .rw[q]at h;cases h
def qC (ρ:Ev)(i:Nat)(Q:List D->Prop):Prop:=match ρ[i]? with
 | some (some<|.ow l)=>Q l
 | _=>False
theorem nM {Q:List D->Prop}(h:qC ρ i Q): ∃l,ρ[i]? =some (some<|.ow l)/\Q l:=by
 unfold qC at h;split at h
 .rename_i l e
  exact⟨l,e,h⟩
 .exact h.elim
def aR7 (i:Nat)(t:UE):US:=λD ρ=>qC ρ i λ_=>t ρ λb ρ1=>qC ρ1 i λl=>l.length<sizeLine/\D.nx (ρ1.set i<|some<|.ow<|l++[b.d])
theorem kN {apos:Pos}(i:Nat)(hx:PE X (.Name x p) (aR6 i))(he:PU X e te)
  (hbase:↥(attributeBase (.Name x p) "append" X.env (eval (.Name x p) X.env)=eval (.Name x p) X.env))
  (hfew:↥(((backTo cpos<|starEach [e] X.env).all (λx=> !x.1)&&(backToKw cpos<|keywordEach [] X.env).all (λx=>x.1.isSome)
   &&decide ([e].length+([]:List Keyword).length+(if([]:List Keyword).isEmpty then 0 else 1)<30))=true))
  (hline:↥((apos.endLine==cpos.line)=true)) (hs:↥(starEach [e] X.env=(false,eval e X.env)::starEach [] X.env)) (hplain:↥((backTo cpos<|starEach [] X.env).any (·.1)=false))
  (hw:↥(swapsWith (.Call (.Attribute (.Name x p) "append" apos) [e] [] cpos) none pos.line X.env=pure false)) :
  PUS X (.Expr (.Call (.Attribute (.Name x p) "append" apos) [e] [] cpos) pos) (aR7 i te):=
 uB (bX4 (pe_bm PySem.F.plainAttrs_list PySem.F.slot_list_append PySem.F.type_list_append bS5 hx (bX7 he cI4 hs) hbase hfew hline hs hplain) hw) λD σ H ⟨C,ρ,D0,I,h,k⟩=>by
  obtain⟨l,hl,h⟩:=nM h;obtain⟨a,vs,h1,h2,h3,h4⟩:=I.ow i l hl;refine⟨.ref a,h1,.inl ⟨rfl,vs,SqL.of h2⟩,C,ρ,_,I,h,λb ρ1 v H1 q f s r=> ?_⟩
  obtain⟨l',hl',hz,q⟩:=nM q;have e:=f.ow hl';rw[hl]at e;cases e;have I1:=(I.frz f).same s;obtain⟨a',vs',g1,g2,g3,g4⟩:=I1.ow i l hl';rw[h1]at g1;cases g1;refine⟨a,vs',v,rfl,rfl,g2,by rw[<-g4.length];exact hz,k.nx _ _ _ q ?_⟩
  exact I1.write hl' h1 (g4.append<|.cons (r.rep λa z=>I.avF f z) .nil)
def cQ0 (i:Nat)(t ti:UE):US:=λD ρ=>t ρ λb ρ1=>qC ρ1 i λ_=>ti ρ1 λj ρ2=>qC ρ2 i λl=>match j.d with
 | .int k=>(match ixN l.length k with
  | some n=>D.nx (ρ2.set i<|some<|.ow<|l.set n b.d)
  | none=>False)
 | _=>False
theorem bE1 {ix:Expr}(i:Nat)(hx:PE X (.Name x p) (aR6 i))(he:PU X e te)(hi:PU X ix ti)
  (ha: ∀v,assign (.Subscript (.Name x p) ix tpos) X.env v=(do
   let ov<-holding [v] (eval (.Name x p) X.env)
   let iv<-holding [v,ov] (eval ix X.env)
   standAt tpos
   holding [v,ov,iv] (setItem ov iv v)
   release [v,ov,iv] []):=by intro _;rfl)
  (hs:↥(swapsWithSole [.Subscript (.Name x p) ix tpos] e pos.line X.env=pure false)) (hw:↥(swappedStores [.Subscript (.Name x p) ix tpos] e X.env=pure none))
  (h1:↥((assignEach [.Subscript (.Name x p) ix tpos] X.env).map (·.2)=[assign (.Subscript (.Name x p) ix tpos) X.env])):PUS X (.Assign [.Subscript (.Name x p) ix tpos] e pos) (cQ0 i te ti):=
 uB (d42 he (pg_sub hx hi c74 ha) hs hw h1) λD σ H ⟨C,ρ,D0,I,h,k⟩=>⟨C,ρ,_,I,h,λb ρ1 v H1 q f s r=>by
  obtain⟨l,hl,q⟩:=nM q;have I1:=(I.frz f).same s;obtain⟨a,vs,h1,h2,h3,h4⟩:=I1.ow i l hl;refine⟨.ref a,h1,C,ρ1,_,I1,q,λj ρ2 w H2 q2 f2 s2 r2=> ?_⟩
  obtain⟨l',hl',q2⟩:=nM q2;have e:=f2.ow hl';rw[hl]at e;cases e;have I2:=(I1.frz f2).same s2;obtain⟨a',vs',g1,g2,g3,g4⟩:=I2.ow i l hl';rw[h1]at g1;cases g1;have rj:=r2.rep λa z=>I1.avF f2 z
  generalize j.d=dj at q2 rj;split at q2
  .rename_i kk
   have:=bW rj;subst this;split at q2
   .rename_i n hn
    refine⟨a,vs',kk,n,rfl,rfl,g2,by rw[<-g4.length];exact hn,k.nx _ _ _ q2 ?_⟩
    exact I2.write hl' h1 (g4.set n<|(r.rep λa z=>I.avF f z).mono<|.sub s2 λa=>f2.av)
   .exact q2.elim
  .exact q2.elim⟩
def gIx (d i:D)(Q:D->Prop):Prop:=match oE d,i with
 | some l,.int k=>(match atI l k with
  | some x=>Q x
  | none=>False)
 | _,_=>False
def uIx (t:UV)(ti:UE):UE:=λρ Q=>t ρ λd ρ1=>ti ρ1 λi ρ2=>gIx d i.d λx=>Q (.pu x) ρ2
theorem cB.atI {l:List D}{vs:List V}{k:Int}{x:D}(r:cB K A H l vs)(h:atI l k=some x): ∃v,L2.atI vs k=some v/\Rep K A H x v:=by
 unfold L2.atI at h⊢;cases e:ixN l.length k with
 | none=>rw[e]at h;cases h
 | some j=>
  rw[e]at h;rw[<-r.length,e];exact r.get h
theorem cI9.mono {A':AS}(s:j0 H H')(h: ∀a,A' a->A a): ∀{d:D} {v:V},cI9 K A H d v->cI9 K A' H' d v
 | .non,_,r=>Rep.mono (.sub s h) r
 | .bl _,_,r=>Rep.mono (.sub s h) r
 | .int _,_,r=>Rep.mono (.sub s h) r
 | .str _,_,r=>Rep.mono (.sub s h) r
 | .ty _,_,r=>Rep.mono (.sub s h) r
 | .tup _,_,⟨a,vs,e,c,r⟩=>⟨a,vs,e,c.imp (λc=>c.imp (s _ _) λ⟨o,z⟩=>⟨o,s _ _ z⟩) id,r.mono<|.sub s h⟩
 | .lst _,_,⟨a,vs,e,c,r⟩=>⟨a,vs,e,s _ _ c,r.mono<|.sub s h⟩
 | .rol _,_,⟨a,vs,e,c,r⟩=>⟨a,vs,e,s.seq c,r.mono<|.sub s h⟩
 | .obj _ _ _,_,r=>Rep.mono (.sub s h) r
 | .adr _,_,r=>Rep.mono (.sub s h) r
 | .xob _ _ _ _,_,r=>Rep.mono (.sub s h) r
theorem cI9.seq {d:D}{v:V}{l:List D}(r:cI9 K A H d v)(h:oE d=some l): ∃a vs,v= .ref a/\(SqL K H a vs\/SqT K H a vs)/\cB K A H l vs:=by
 cases d with
 | tup l'=>cases h;obtain⟨a,vs,e,c,r⟩:=r;exact⟨a,vs,e,.inr c,r⟩
 | lst l'=>cases h;obtain⟨a,vs,e,c,r⟩:=r;exact⟨a,vs,e,.inl<|SqL.of c,r⟩
 | rol l'=>cases h;obtain⟨a,vs,e,c,r⟩:=r;exact⟨a,vs,e,.inl c,r⟩
 | _=>cases h
theorem dN0 {d i:D}{Q:D->Prop}(h:gIx d i Q): ∃l k x,oE d=some l/\i= .int k/\atI l k=some x/\Q x:=by
 unfold gIx at h;split at h
 .rename_i l k e
  split at h
  .rename_i x ex
   exact⟨l,k,x,e,rfl,ex,h⟩
  .exact h.elim
 .exact h.elim
theorem bE2 {t:UV}(ha:PUV X a t)(hb:PU X b ti)(hs:bX8 b):PU X (.Subscript a b pos) (uIx t ti):=
 jF (pe_ix ix_seq ha hb hs) λσ H Q ⟨C,ρ,Q0,I,h,k⟩=>⟨C,ρ,_,I,h,λd ρ1 v H1 q f s r=>by
  have I1:=(I.frz f).same s;refine⟨C,ρ1,_,I1,q,λi ρ2 w H2 q2 f2 s2 r2=> ?_⟩
  obtain⟨l,kk,x,e1,e2,e3,q2⟩:=dN0 q2;have ri:=r2.rep λa z=>I1.avF f2 z
  rw[e2]at ri;have:=bW ri;subst this;obtain⟨a,vs,rfl,c,rs⟩:=(r.mono (A':=Av C ρ2 σ) s2 λa=>f2.av).seq e1
  obtain⟨u,e4,r4⟩:=rs.atI e3;have fin:=k (.pu x) ρ2 u H2 q2 (f.trans f2) (s.trans s2) r4;rcases c with c|c
  .exact .inl ⟨a,vs,kk,u,rfl,rfl,c,e4,fin⟩
  .exact .inr (.inl ⟨a,vs,kk,u,rfl,rfl,c,e4,fin⟩)⟩
abbrev UO:=Ev->(Option Int->Ev->Prop)->Prop
def lO (K:Frag)(t:UO):TO:=λσ H Q=> ∃C ρ Q0,EOk K C ρ σ H/\t ρ Q0/\ ∀i ρ' H',Q0 i ρ'->Frz ρ ρ'->j0 H H'->Q i H'
def PUO (X:Cx)(e:Option Expr)(t:UO):Prop:=PO X e (lO X.K t)
theorem dW7 {e:Option Expr}{t t':TO}(h:PO X e t)(i: ∀σ H Q,t' σ H Q->t σ H Q):PO X e t':=λpins s σ H Q I q=>h pins s σ H Q I (i σ H Q q)
def fV:UO:=λρ Q=>Q none ρ
def jB (t:UE):UO:=λρ Q=>t ρ λb ρ1=>match b.d with
 | .int i=>Q (some i) ρ1
 | _=>False
theorem fT:PUO X none fV:=dW7 dM3 λσ H Q ⟨C,ρ,Q0,I,h,k⟩=>k _ _ _ h (.refl _) (.refl _)
theorem eK (h:PU X e te):PUO X (some e) (jB te):=dW7 (cP6 h) λσ H Q ⟨C,ρ,Q0,I,h,k⟩=>⟨C,ρ,_,I,h,λb ρ1 v H1 q f s r=>by
 have r':=r.rep λa z=>I.avF f z
 generalize b.d=d at q r';split at q
 .exact⟨_,bW r',k _ _ _ q f s⟩
 .exact q.elim⟩
nonrec def cutD (l:List D)(lo hi:Option Int):List D:=(l.drop<|HT.sIx l.length 0 lo).take (HT.sIx l.length l.length hi-HT.sIx l.length 0 lo)
theorem cB.cut {l:List D}{vs:List V}(r:cB K A H l vs)(lo hi:Option Int):cB K A H (cutD l lo hi) (c73 vs lo hi):=by
 unfold cutD c73;rw[r.length];exact(r.drop _).take _
def gSl (d:D)(lo hi:Option Int)(Q:B->Prop):Prop:=match d with
 | .tup l=> ¬(HT.sIx l.length 0 lo=0/\HT.sIx l.length l.length hi=l.length)/\Q (.pu<|.tup<|cutD l lo hi)
 | .lst l=>Q (.ow<|cutD l lo hi)
 | .rol l=>Q (.ow<|cutD l lo hi)
 | _=>False
def uSl (t:UV)(tl th:UO):UE:=λρ Q=>t ρ λd ρ1=>tl ρ1 λlo ρ2=>th ρ2 λhi ρ3=>gSl d lo hi λb=>Q b ρ3
theorem fM {t:UV}{tl th:UO}{lo hi:Option Expr}(he:PUV X e t)(hl:PUO X lo tl)(hu:PUO X hi th):PU X (.Subscript e (.Slice lo hi none p2) pos) (uSl t tl th):=
 jF (c72 (cP8.or d55) he hl hu) λσ H Q ⟨C,ρ,Q0,I,h,k⟩=>⟨C,ρ,_,I,h,λd ρ1 v H1 q f s r=>by
  have I1:=(I.frz f).same s;refine⟨C,ρ1,_,I1,q,λl2 ρ2 H2 q2 f2 s2=> ?_⟩
  have I2:=(I1.frz f2).same s2;refine⟨C,ρ2,_,I2,q2,λh3 ρ3 H3 q3 f3 s3=> ?_⟩
  have I3:=(I2.frz f3).same s3;have s13:=s2.trans s3;have sAll:=s.trans s13;have fAll:=f.trans (f2.trans f3);have r':=r.mono (A':=Av C ρ3 σ) s13 λa z=>f2.av (f3.av z)
  cases d with
  | tup l=>
   obtain⟨hw,q3⟩:=q3;obtain⟨a,vs,rfl,c,rs⟩:=r';exact .inr ⟨a,vs,rfl,c,by rw[<-rs.length];exact hw,λp n=>k _ ρ3 _ _ q3 fAll (sAll.trans<|fL n _) (kY (λa z=>I3.avSome z) n<|rs.cut l2 h3)⟩
  | lst l=>
   obtain⟨a,vs,rfl,c,rs⟩:=r';exact .inl ⟨a,vs,rfl,SqL.of c,λp n=>k _ ρ3 _ _ q3 fAll (sAll.trans<|fL n _) (gO sAll n<|rs.cut l2 h3)⟩
  | rol l=>
   obtain⟨a,vs,rfl,c,rs⟩:=r';exact .inl ⟨a,vs,rfl,c,λp n=>k _ ρ3 _ _ q3 fAll (sAll.trans<|fL n _) (gO sAll n<|rs.cut l2 h3)⟩
  | _=>exact(show False from q3).elim⟩
def Sm (i:Int):Prop:=i.natAbs<2^9000
theorem Sm.log {i:Int}(h:Sm i):i.natAbs.log2<9000:=by
 by_cases z:i.natAbs=0
 .rw[z];decide
 .exact(Nat.log2_lt z).mpr h
def fH (d e:D)(Q:B->Prop):Prop:=match d,e with
 | .int i,.int j=>Q (.pu<|.int<|i+j)
 | .lst l,.lst m=>l.length+m.length<=sizeLine/\Q (.ow<|l++m)
 | .tup l,.tup m=>l.length+m.length<=sizeLine/\Q (.pu<|.tup<|l++m)
 | _,_=>False
theorem d70:OpR X (binaryOp .Add) (λx y H Q=> ∃a b ys,x= .ref a/\y= .ref b/\SqT X.K H a []/\SqT X.K H b ys/\Q (.ref b) H):=by
 intro pins s σ H x y v u Q I rx ry h;obtain⟨a,b,ys,rfl,rfl,ha,hb,q⟩:=h;cases rx;cases ry;obtain⟨its,r1,p1,_⟩:=I.tuple ha;obtain⟨its2,r2,p2,_⟩:=I.tuple hb;have e:its=[]:=by
  have:=r1.length;exact oP.mp this.symm
 subst e;obtain⟨⟨cls,dd,data,sl⟩,ho,hc,n,hd⟩:=id p1;obtain⟨⟨cls2,dd2,data2,sl2⟩,ho2,hc2,n2,hd2⟩:=id p2;simp only at hc hd hc2 hd2;subst hc hd hc2 hd2;exact concat_meets ⟨_,ho,rfl⟩ ⟨_,ho2,rfl⟩ aQ6 seq_tuple_add aO1 aN6 (aN2 _ _) (tuple_addW0 a b _ its2.toArray n n2 dd dd2 sl sl2 rfl) ⟨ho,ho2,⟨.ref b,H,I,rfl,q⟩⟩
theorem aK3 {i:Int}:vU K A H H' (.pu<|.int i) (.int i):=by
 show Rep K A H' (.int i) (.int i)
 simp only[Rep]
theorem cF:OpU X (binaryOp .Add) fH:=by
 intro A H d e v w Q0 Q hA r1 r2 g k;unfold fH at g;split at g
 .rename_i i j
  exact⟨_,op_add,i,j,bW r1,bW r2,k _ _ H g (.refl _) aK3⟩
 .rename_i l m
  simp only[Rep]at r1 r2;obtain⟨a,vs,rfl,n1,c1,rs1⟩:=r1;obtain⟨b,ws,rfl,n2,c2,rs2⟩:=r2;exact⟨_,op_cat,a,b,vs,ws,rfl,rfl,c1,c2,by rw[<-rs1.length,<-rs2.length];exact g.1,λp n=>k _ _ _ g.2 (fL n _) (gO (.refl _) n<|rs1.append rs2)⟩
 .rename_i l m
  simp only[Rep]at r1 r2;obtain⟨a,vs,rfl,c1,rs1⟩:=r1;obtain⟨b,ws,rfl,c2,rs2⟩:=r2;obtain⟨hz,g⟩:=g
  by_cases hn:l=[]
  .subst hn;have e1:vs=[]:=rs1.unnil;subst e1;refine⟨_,d70,a,b,ws,rfl,rfl,c1.imp cP id,c2.imp cP id,k _ _ H g (.refl _) ?_⟩;show Rep X.K A H (.tup m) (.ref b);simp only[Rep];exact⟨b,ws,rfl,c2,rs2⟩
  refine⟨_,dM4,a,b,vs,ws,rfl,rfl,c1.imp cP id,c2.imp cP id,λz=>hn ?_,by rw[<-rs1.length,<-rs2.length];exact hz,λz=> ?_,λz p n=> ?_⟩
  .have:=rs1.length;rw[z]at this;exact oP.mp this
  .have e2:=rs2.length;rw[z]at e2;have e3:m=[]:=oP.mp e2;subst e3;rw[lK]at g;refine k _ _ H g (.refl _) ?_;show Rep X.K A H (.tup l) (.ref a);simp only[Rep];exact⟨a,vs,rfl,c1,rs1⟩
  .exact k _ _ _ g (fL n _) (kY hA n<|rs1.append rs2)
 .exact g.elim
def gI2 (f:Int->Int->(B->Prop)->Prop)(d e:D)(Q:B->Prop):Prop:=match d,e with
 | .int i,.int j=>f i j Q
 | _,_=>False
theorem uJ {f:Int->Int->(B->Prop)->Prop}{d e:D}{Q:B->Prop}(h:gI2 f d e Q): ∃i j,d= .int i/\e= .int j/\f i j Q:=by
 unfold gI2 at h;split at h
 .exact⟨_,_,rfl,rfl,h⟩
 .exact h.elim
def gSub:D->D->(B->Prop)->Prop:=gI2 λi j Q=>Q (.pu<|.int<|i-j)
theorem cL:OpU X (binaryOp .Sub) gSub:=by
 intro A H d e v w Q0 Q hA r1 r2 g k;obtain⟨i,j,rfl,rfl,g⟩:=uJ g;exact⟨_,op_sub,i,j,bW r1,bW r2,k _ _ H g (.refl _) aK3⟩
theorem cQ1 {i:Int}(h:Sm i):Builtin.Int.intBits i<=2^20:=aN (PyProof.Rows.intBits_le h) ac
def iR (d e:D)(Q:B->Prop):Prop:=match d,e with
 | .int i,.int j=>(cH8 i j\/(Sm i/\Sm j))/\Q (.pu<|.int<|i*j)
 | .lst l,.int k=>(-(2^63)<=k/\k<2^63/\l.length*k.toNat<=sizeLine)/\Q (.ow (replicate k.toNat l).flatten)
 | _,_=>False
theorem dN1:OpR X (binaryOp .Mult) (rI (λi j=>cH8 i j\/(Sm i/\Sm j)) λi j=> .int (i*j)):=opI λ_ _ _ _ _ _ _ hc q=>mul_int q (hc.elim cH8.ok λh=> .of_bits (cQ1 h.1) (cQ1 h.2))
theorem dE:OpU X (binaryOp .Mult) iR:=by
 intro A H d e v w Q0 Q hA r1 r2 g k;unfold iR at g;split at g
 .rename_i i j
  exact⟨_,dN1,i,j,bW r1,bW r2,g.1,k _ _ H g.2 (.refl _) aK3⟩
 .rename_i l kk
  have:=bW r2;subst this;simp only[Rep]at r1;obtain⟨a,vs,rfl,n1,c1,rs1⟩:=r1;obtain⟨⟨h1,h2,h3⟩,g⟩:=g;exact⟨_,op_rep,a,kk,vs,rfl,rfl,c1,h1,h2,by rw[<-rs1.length];exact h3,λp n=>k _ _ _ g (fL n _) (gO (.refl _) n<|rs1.rep _)⟩
 .exact g.elim
def bO3:D->D->(B->Prop)->Prop:=gI2 λi j Q=>(j≠0/\Sm j)/\Q (.pu<|.int<|i.fdiv j)
def kX:D->D->(B->Prop)->Prop:=gI2 λi j Q=>j≠0/\Q (.pu<|.int<|i.fmod j)
theorem dN2:OpR X (binaryOp .FloorDiv) (rI (λ_ j=>j≠0/\Sm j) λi j=> .int (i.fdiv j)):=opI λ_ _ _ _ _ _ _ hc q=>floordiv_int hc.1 q (.inl<|PyProof.noPylong_of_log2 hc.2.log)
theorem aR8:OpU X (binaryOp .FloorDiv) bO3:=by
 intro A H d e v w Q0 Q hA r1 r2 g k;obtain⟨i,j,rfl,rfl,g⟩:=uJ g;exact⟨_,dN2,i,j,bW r1,bW r2,g.1,k _ _ H g.2 (.refl _) aK3⟩
theorem fJ:OpU X (binaryOp .Mod) kX:=by
 intro A H d e v w Q0 Q hA r1 r2 g k;obtain⟨i,j,rfl,rfl,g⟩:=uJ g;exact⟨_,dL5,i,j,bW r1,bW r2,g.1,k _ _ H g.2 (.refl _) aK3⟩
def dN3:D->D->(B->Prop)->Prop:=gI2 λi j Q=>dL4 i j/\Q (.pu<|.int<|i^j.toNat)
theorem d71:OpU X (binaryOp .Pow) dN3:=by
 intro A H d e v w Q0 Q hA r1 r2 g k;obtain⟨i,j,rfl,rfl,g⟩:=uJ g;exact⟨_,op_pow,i,j,bW r1,bW r2,g.1,k _ _ H g.2 (.refl _) aK3⟩
def sA (p:Int->Int->Bool):D->D->(B->Prop)->Prop:=gI2 λi j Q=>Q (.pu<|.bl<|p i j)
theorem bY9 {p:Int->Int->Bool}(ho:OpR X (compareOp op) (rI0 λi j=> .bl (p i j))):OpU X (compareOp op) (sA p):=by
 intro A H d e v w Q0 Q hA r1 r2 g k;obtain⟨i,j,rfl,rfl,g⟩:=uJ g;exact⟨_,ho,i,j,bW r1,bW r2,k _ _ H g (.refl _) nY⟩
theorem cQ2:OpU X (compareOp .Lt) (sA λi j=>decide (i<j)):=bY9 op_lt
theorem d72:OpU X (compareOp .LtE) (sA λi j=>decide (i<=j)):=bY9 op_le
theorem aA8:OpU X (compareOp .Gt) (sA λi j=>decide (j<i)):=bY9 op_gt
theorem dW8:OpU X (compareOp .GtE) (sA λi j=>decide (j<=i)):=bY9 op_ge
def hG (neg:Bool)(d e:D)(Q:B->Prop):Prop:=match d,e with
 | .int i,.int j=>Q (.pu<|.bl<|neg ^^ decide (i=j))
 | .bl i,.bl j=>Q (.pu<|.bl<|neg ^^ decide (i=j))
 | .str i,.str j=>Q (.pu<|.bl<|neg ^^ decide (i=j))
 | _,_=>False
theorem a41 {b:Bool}{v:V}(h:Rep K A H (.bl b) v):v= .bl b:=by simpa only[Rep]using h
theorem aV5 {b:Str}{v:V}(h:Rep K A H (.str b) v):v= .str b:=by simpa only[Rep]using h
theorem i7:OpU X (compareOp .Eq) (hG false):=by
 intro A H d e v w Q0 Q hA r1 r2 g k;unfold hG at g;split at g
 .rw[bW r1,bW r2];exact⟨_,d45,rfl,k _ _ H g (.refl _) (by rw[bA7,j9,rE];exact nY)⟩
 .rw[a41 r1,a41 r2];exact⟨_,d45,rfl,k _ _ H g (.refl _) (by rw[bX5,j9,rE];exact nY)⟩
 .rw[aV5 r1,aV5 r2];exact⟨_,d45,rfl,k _ _ H g (.refl _) (by rw[bA8,j9,rE];exact nY)⟩
 .exact g.elim
theorem aL1:OpU X (compareOp .NotEq) (hG true):=by
 intro A H d e v w Q0 Q hA r1 r2 g k;unfold hG at g;split at g
 .rw[bW r1,bW r2];exact⟨_,d46,rfl,k _ _ H g (.refl _) (by rw[bA7,mU,rE];exact nY)⟩
 .rw[a41 r1,a41 r2];exact⟨_,d46,rfl,k _ _ H g (.refl _) (by rw[bX5,mU,rE];exact nY)⟩
 .rw[aV5 r1,aV5 r2];exact⟨_,d46,rfl,k _ _ H g (.refl _) (by rw[bA8,mU,rE];exact nY)⟩
 .exact g.elim
end
section
variable {X:Cx}{a b e o:Expr}{es:List Expr}{pos:Pos}{ta tb te ti:UE}{K:Frag}{C:C0}{ρ ρ':Ev}{σ σ':L2.St}{H H':Hp}{A:AS}
def kD (t:UE):UE:=λρ Q=>t ρ λb ρ1=>match b.d with
 | .int i=>Q (.pu<|.int<|-i) ρ1
 | _=>False
theorem jG (h:PU X a ta):PU X (.UnaryOp .USub a pos) (kD ta):=
 jF (pe_un un_neg h) λσ H Q ⟨C,ρ,Q0,I,h,k⟩=>⟨C,ρ,_,I,h,λb ρ1 v H1 q f s r=>by
  have r':=r.rep λa z=>I.avF f z
  generalize b.d=d at q r';split at q
  .exact⟨_,bW r',k _ _ _ _ q f s aK3⟩
  .exact q.elim⟩
theorem cJ3:IpU X .Add (gI2 λi j Q=>Q (.pu<|.int<|i+j)):=by
 intro A H d e v w Q0 Q hA r1 r2 g k;obtain⟨i,j,rfl,rfl,g⟩:=uJ g;exact⟨_,ip_add,i,j,bW r1,bW r2,k _ _ H g (.refl _) aK3⟩
theorem iu_sub:IpU X .Sub (gI2 λi j Q=>Q (.pu<|.int<|i-j)):=by
 intro A H d e v w Q0 Q hA r1 r2 g k;obtain⟨i,j,rfl,rfl,g⟩:=uJ g;exact⟨_,d43,i,j,bW r1,bW r2,k _ _ H g (.refl _) aK3⟩
def g1 (f:D->(B->Prop)->Prop)(ds:List D)(Q:B->Prop):Prop:=match ds with
 | [d]=>f d Q
 | _=>False
def g2 (f:D->D->(B->Prop)->Prop)(ds:List D)(Q:B->Prop):Prop:=match ds with
 | [d,e]=>f d e Q
 | _=>False
theorem a42 {f:D->(B->Prop)->Prop}{ds:List D}{Q:B->Prop}{vs:List V}(h:g1 f ds Q)(r:cB K A H ds vs): ∃d v,ds=[d]/\vs=[v]/\Rep K A H d v/\f d Q:=by
 unfold g1 at h;split at h
 .obtain⟨v,vr,rfl,rv,rr⟩:=r.uncons;have:=rr.unnil;subst this;exact⟨_,v,rfl,rfl,rv,h⟩
 .exact h.elim
theorem d73 {f:D->D->(B->Prop)->Prop}{ds:List D}{Q:B->Prop}{vs:List V}(h:g2 f ds Q)(r:cB K A H ds vs): ∃d e v w,ds=[d,e]/\vs=[v,w]/\Rep K A H d v/\Rep K A H e w/\f d e Q:=by
 unfold g2 at h;split at h
 .obtain⟨v,vr,rfl,rv,rr⟩:=r.uncons;obtain⟨w,wr,rfl,rw',rr'⟩:=rr.uncons;have:=rr'.unnil;subst this;exact⟨_,_,v,w,rfl,rfl,rv,rw',h⟩
 .exact h.elim
def dN4 (f:Int->(B->Prop)->Prop)(d:D)(Q:B->Prop):Prop:=match d with
 | .int i=>f i Q
 | _=>False
theorem d74 {f:Int->(B->Prop)->Prop}{d:D}{Q:B->Prop}(h:dN4 f d Q): ∃i,d= .int i/\f i Q:=by
 unfold dN4 at h;split at h
 .exact⟨_,rfl,h⟩
 .exact h.elim
def cX9:List D->(B->Prop)->Prop:=g1 (dN4 λi Q=>Q (.pu<|.int<|if i<0 then -i else i))
theorem bZ0:xA X (.builtin "abs") cX9:=by
 intro A H ds vs Q0 Q hA r g k;obtain⟨d,v,rfl,rfl,rv,g⟩:=a42 g r;obtain⟨i,rfl,g⟩:=d74 g;exact⟨_,d47,i,by rw[bW rv],k _ _ H g (.refl _) aK3⟩
def gMax:List D->(B->Prop)->Prop:=g2 (gI2 λi j Q=>Q (.pu<|.int<|if j>i then j else i))
theorem cu_max (hc:X.calm=true):xA X (.builtin "max") gMax:=by
 intro A H ds vs Q0 Q hA r g k;obtain⟨d,e,v,w,rfl,rfl,rv,rw',g⟩:=d73 g r;obtain⟨i,j,rfl,rfl,g⟩:=uJ g;exact⟨_,cX1 hc,i,j,by rw[bW rv,bW rw'],k _ _ H g (.refl _) aK3⟩
def gMin:List D->(B->Prop)->Prop:=g2 (gI2 λi j Q=>Q (.pu<|.int<|if j<i then j else i))
theorem cu_min (hc:X.calm=true):xA X (.builtin "min") gMin:=by
 intro A H ds vs Q0 Q hA r g k;obtain⟨d,e,v,w,rfl,rfl,rv,rw',g⟩:=d73 g r;obtain⟨i,j,rfl,rfl,g⟩:=uJ g;exact⟨_,cX2 hc,i,j,by rw[bW rv,bW rw'],k _ _ H g (.refl _) aK3⟩
def cJ4:List D->(B->Prop)->Prop:=g1 λd Q=>match d with
 | .int i=>Q (.pu<|.int i)
 | .bl k=>Q (.pu<|.int<|if k then 1 else 0)
 | _=>False
theorem cu_int:xA X (.type "int") cJ4:=by
 intro A H ds vs Q0 Q hA r g k;obtain⟨d,v,rfl,rfl,rv,g⟩:=a42 g r;cases d with
 | int i=>exact⟨_,bR9,.inl ⟨i,by rw[bW rv],k _ _ H g (.refl _) aK3⟩⟩
 | bl c=>exact⟨_,bR9,.inr ⟨c,by rw[a41 rv],k _ _ H g (.refl _) aK3⟩⟩
 | _=>exact(show False from g).elim
nonrec def iV:List D->(B->Prop)->Prop:=g1 λd Q=>match oE d with
 | some l=>Q (.pu<|.tup l)
 | none=>False
theorem oF:xA X (.type "tuple") iV:=by
 intro A H ds vs Q0 Q hA r g k;obtain⟨d,v,rfl,rfl,rv,g⟩:=a42 g r;cases d with
 | tup l=>
  have rv':=rv;simp only[Rep]at rv;obtain⟨a,vs,rfl,c,rs⟩:=rv;exact⟨_,xX,a,vs,rfl,.inr ⟨c.imp cP id,k _ _ H g (.refl _) rv'⟩⟩
 | lst l=>
  simp only[Rep]at rv;obtain⟨a,vs,rfl,n,c,rs⟩:=rv;exact⟨_,xX,a,vs,rfl,.inl ⟨SqL.of c,λp n=>k _ _ _ g (fL n _) (kY hA n rs)⟩⟩
 | rol l=>
  simp only[Rep]at rv;obtain⟨a,vs,rfl,c,rs⟩:=rv;exact⟨_,xX,a,vs,rfl,.inl ⟨c.imp cP id,λp n=>k _ _ _ g (fL n _) (kY hA n rs)⟩⟩
 | _=>exact(show False from g).elim
nonrec def aI1:List D->(B->Prop)->Prop:=g1 λd Q=>match oE d with
 | some l=>Q (.ow l)
 | none=>False
theorem bB3:xA X (.type "list") aI1:=by
 intro A H ds vs Q0 Q hA r g k;obtain⟨d,v,rfl,rfl,rv,g⟩:=a42 g r;cases e:oE d with
 | none=>simp only[e]at g
 | some l=>
  simp only[e]at g;obtain⟨a,vs,rfl,c,rs⟩:=rv.one.seq e;exact⟨_,bY3,a,vs,rfl,c,λp n=>k _ _ _ g (fL n _) (gO (.refl _) n rs)⟩
def kE (t:UV):UE:=λρ Q=>t ρ λd ρ1=>match oE d with
 | some l=>Q (.pu<|.int l.length) ρ1
 | none=>False
theorem eO {t:UV}(ha:PUV X e t)(hg:Gl X "len")(hm:X.mg "len"=none)(hs:↥(starEach [e] X.env=(false,eval e X.env)::starEach [] X.env))
  (hpl:↥((backTo pos<|starEach [] X.env).any (·.1)=false)):PU X (.Call (.Name "len" p) [e] [] pos) (kE t):=
 jF (c71 bY2 hg hm PySem.boot_len (bX7 ha cI4 hs) ac ac hs hpl) λσ H Q ⟨C,ρ,Q0,I,h,k⟩=>⟨C,ρ,_,I,h,λd ρ1 v H1 q f s r=>by
  cases e:oE d with
  | none=>simp only[e]at q
  | some l=>
   simp only[e]at q;obtain⟨a,vs,rfl,c,rs⟩:=r.seq e;exact⟨a,vs,rfl,c,k _ _ _ _ q f s (by rw[rs.length];exact aK3)⟩⟩
nonrec def init (N:List Str)(ds:List D):Ev:=ds.map (λd=>some (.pu d))++replicate (N.length-ds.length) none
theorem aA9 {ds:List D}{z:B}(h:(init N ds)[i]? =some (some z)): ∃d,z= .pu d/\ds[i]? =some d:=by
 unfold init at h
 by_cases hi:i<ds.length
 .rw[a03<|by simpa using hi,bX]at h
  cases e:ds[i]? with
  | none=>rw[e]at h;cases h
  | some d=>rw[e]at h;cases h;exact⟨d,rfl,rfl⟩
 .rw[uQ<|by simpa using hi,List.getElem?_replicate]at h
  split at h<;>cases h
theorem bZ1 {ds:List D}{vs:List V}(hA: ∀a,A a->H a≠none)(r:cB K A H ds vs):EOk K ⟨H,A⟩ (init N ds) (L2.start N vs) H:=by
 have own: ∀a,¬Own (init N ds) (L2.start N vs) a:=λa ⟨i,l,h1,_⟩=>by
  obtain⟨d,e,_⟩:=aA9 h1;cases e
 refine⟨?_,λi d h=> ?_,λi l h=> ?_,λi j l l' a h=> ?_,λi l h=> ?_,.refl _,hA⟩
 .unfold init L2.start;simp[r.length]
 .obtain⟨d',e,e2⟩:=aA9 h;cases e;obtain⟨v,h1,h2⟩:=r.get e2;refine⟨v,?_,h2.mono<|.sub (.refl _) λa z=>z.elim id λz=>absurd z (own a)⟩
  unfold L2.start;have hv:i<vs.length:=(l8.mp h1).1;rw[a03<|by simpa using hv,bX,h1]
  rfl
 .obtain⟨d',e,_⟩:=aA9 h;cases e
 .obtain⟨d',e,_⟩:=aA9 h;cases e
 .obtain⟨d',e,_⟩:=aA9 h;cases e
theorem bZ2 {K:Frag}{ps:List Str}(F:Fun K x qual st f fd)(S:bC N ps (aJ st))
  (len: ∀ds Q,φ ds Q->ds.length=ps.length)
  (body: ∀(cdv:Value) (A:Around) (outer:List Env) (s:Shared) (H:Hp) (E:XK),iX k (A.deeper<|envOfC qual (aJ st) s.heap.objs.size f cdv)->
   ∃t,tL (vT CX0 P w K mg base N qual (aJ st) f cdv A outer s H E).nox (eZ st) t/\ ∀ds Q,φ ds Q->t {Q with} (init N ds)) :
  uI P w K mg base CX0 (k+1) f fd ps (spP K φ):=by
 refine F.ok S (λvs H Q E h=> ?_) (λcdv A outer s H vs Q E hr h=> ?_)
 .obtain⟨A,ds,Q0,_,r,h,_⟩:=h;rw[<-r.length];exact len ds Q0 h
 .obtain⟨A',ds,Q0,hA,r,h,q⟩:=h;obtain⟨t,ht,hq⟩:=body cdv A outer s H E hr;refine⟨_,ht,⟨H,A'⟩,init N ds,_,bZ1 hA r,hq ds Q0 h,⟨λρ σ H' z I=> ?_,λb v H' z s r=>q b v H' z s r,λ_ _ _ z=>z.elim,λ_ _ _ z=>z.elim⟩⟩
  exact q _ _ H' z I.ext (show Rep _ _ _ _ _ by simp only[Rep])
end
structure Fn (P:Program)(w:World)(K:Frag)(mg:Str->Option Value)(base:Heap)(x:Str)(ps:List Str)(k:Nat)(φ:Φ):Prop where
 ex: ∃f fd,uI P w K mg base CX0 k f fd ps (spP K φ)/\Binds K fd ps []/\keepIn K (.ref f)=true/\mg x=some (.ref f)
section
variable {X:Cx}{e:Expr}{es:List Expr}{pos:Pos}
theorem aV6 {ps:List Str}{t:UA}(F:Fn X.prog X.w X.K X.mg X.base x ps k φ)(hr:iX k' X.A)(hk:k<=k')(hg:Gl X x)(ha:PUA X (e::es) t)(hdb:⇑(x∪0))
  (he:↥(starEach (e::es) X.env=(false,eval e X.env)::starEach es X.env)) (hpl:↥((backTo pos<|starEach es X.env).any (·.1)=false)):PU X (.Call (.Name x p) (e::es) [] pos) (aU φ t):=by
 obtain⟨f,fd,G,b,kp,m⟩:=F.ex;exact dM7 (E:=E0) G (hr.mono hk) hg m kp b (λ_ _ _ _ _ _ _ h=>h.elim) ha hdb he hpl
theorem bZ3 {ps:List Str}(F:Fn X.prog X.w X.K X.mg X.base x ps k φ)(hr:iX k' X.A)(hk:k<=k')(hg:Gl X x)(hdb:⇑(x∪0)):PU X (.Call (.Name x p) [] [] pos) (aU φ aI):=by
 obtain⟨f,fd,G,b,kp,m⟩:=F.ex;exact d64 (E:=E0) G (hr.mono hk) hg m kp b (λ_ _ _ _ _ _ _ h=>h.elim) hdb
theorem il (hn:X.N.length=n)(h:i<n): ∀pins σ H s,Inv X pins σ H s->i<σ.length:=λ_ _ _ _ I=>by rw[I.len,hn];exact h
end
theorem Fn.mk' {ps:List Str}(F:Fun K x qual st f fd)(m:mg x=some (.ref f))(b:Binds K fd ps [])(S:bC N ps (aJ st))
  (len: ∀ds Q,φ ds Q->ds.length=ps.length) {t:US}
  (der: ∀(cdv:Value) (A:Around) (outer:List Env) (s:Shared) (H:Hp) (E:XK),iX k (A.deeper<|envOfC qual (aJ st) s.heap.objs.size f cdv)->tL (vT CX0 P w K mg base N qual (aJ st) f cdv A outer s H E).nox (eZ st) t)
  (rd: ∀ds Q,φ ds Q->t {Q with} (init N ds)):Fn<$>x ps (k+1) φ:=
 ⟨f,fd,bZ2 F S len λcdv A outer s H E hr=>⟨t,der cdv A outer s H E hr,rd⟩,b,F.kp,m⟩
def bT1:Φ:=λds Q=> ∃ns:List Int,ds=[.rol<|ns.map .int]/\ns.length<=63/\Q (.pu<|.bl true)
theorem bT2 {K:Frag}{A:AS}{H:Hp}: ∀ns:List Int,cB K A H (ns.map .int) (ns.map V.int)
 | []=> .nil
 | n::ns=> .cons (by simp only[Rep]) (bT2 ns)
theorem law_sp {H:Hp}{ns:List Int}(hl:ns.length<=63)(hS:SqL K H a (ns.map V.int)):spP K bT1 [.ref a] H (λv _=>v= .bl true) (λ_ _ _=>False):=by
 refine⟨λ_=>False,[.rol<|ns.map .int],λb=>b= .pu (.bl true),λ_ z=>z.elim,.cons ?_ .nil,⟨ns,rfl,hl,rfl⟩,λb v H' q s r=> ?_⟩
 .simp only[Rep];exact⟨a,_,rfl,hS.imp (λz=>⟨λz=>z,z⟩) id,bT2 ns⟩
 .subst q;have r':Rep K (λ_=>False) H' (.bl true) v:=r
  exact a41 r'
theorem walkM {l:PySem.W.OpenLaw}{XP:(Str->Option Value)->Heap->Prop}{d:DefRec}{K:Params->Frag}(hn:l.most=some 63)(hdf:d.params.defaults=[])(hr:iX k callerA)
  (hY: ∀(w:World) (h:Heap),YP w h->(K w.params).In h)
  (F: ∀(w:World) (mg:Str->Option Value) (fa:Addr) (h:Heap),(K w.params).In h->h.Ns mainGlobals mg->mg d.name=some (.ref fa)->
   ∃fd:FuncData,(∀(s:Shared) (u:Value),BindsTo s fd ⟨[u],[]⟩ [(x,u)])/\ ∀base:Heap,(K w.params).In base->base.Ns mainGlobals mg->uI l.prog w (K w.params) mg base CX0 k fa fd [x] (spP (K w.params) bT1)) :
  PySem.W.WalkO q loose XP YP l.row.toRowW d [] (λf vs=>PySem.call f vs):=
 L2.walk_of (n:=63) (k:=k) (x:=x) (CX:=λ_=>CX0) (sp:=λw=>spP (K w.params) bT1) hn ac hdf hr hY F (λ_ _ a ns hl _ hS=>law_sp hl hS) λ_ _ _ _ _ z=>z
end M
section
namespace L2
nonrec def cG (X:Cx)(N:List Str)(scope:Scope)(cl:List (Str×Addr))(C:Addr)(s:Shared)(H:Hp)(fp:List Addr)(pins:List (Addr×Obj)):Cx where
 prog:=X.prog
 w:=X.w
 K:=X.K
 mg:=X.mg
 base:=X.base
 A:=X.A
 N:=N
 s₀:=s
 H₀:=H
 env:=compEnvC scope cl C X.env
 outer:=X.stack
 stack:=X.stack
 ex:=fp
 fn:=λx=>scope.names.lookup x==some .cell
 calm:=X.calm
 pn:=X.pn++pins
 xe:=λ_ _=>False
theorem a43 {env:Env}: ∀(names:List (Str×NameKind)),(∀y∈names,y.2= .free-> ∃c,env.cells.lookup y.1=some c)-> ∀cs:List (Str×Addr),(∀x c,cs.lookup x=some c->env.cells.lookup x=some c)->
  ∃cl,(forIn names cs fun(x:Str×NameKind) r=>(do if(x.2==NameKind.free)=true then do let c<-cellOf env x.1;pure (ForInStep.yield ((x.1,c)::r))else pure (ForInStep.yield r)):Sem (List<|Str×Addr))=pure cl/\
   (∀x c,cl.lookup x=some c->env.cells.lookup x=some c)/\(∀x c,cs.lookup x=some c-> ∃c',cl.lookup x=some c')/\ ∀y∈names,y.2= .free-> ∃c,cl.lookup y.1=some c
 | [],_,cs,hcs=>⟨cs,rfl,hcs,λx c h=>⟨c,h⟩,λy hy=>by simp at hy⟩
 | (n,k)::r,h,cs,hcs=>by
  have hr: ∀y∈r,y.2= .free-> ∃c,env.cells.lookup y.1=some c:=λy hy=>h y (bM _ hy)
  by_cases hk:k= .free
  .subst hk;obtain⟨c,hc⟩:=h (n,.free) b7 rfl;have e1:cellOf env n=pure c:=by unfold cellOf;rw[hc]
   have hcs': ∀x c',List.lookup x ((n,c)::cs)=some c'->env.cells.lookup x=some c':=λx c' q=>by
    rw[dQ]at q;split at q
    .rename_i e
     have:x=n:=by exists e
     subst this;cases q;exact hc
    .exact hcs x c' q
   obtain⟨cl,h1,h2,h3,h4⟩:=a43 r hr ((n,c)::cs) hcs';have hn: ∃c',cl.lookup n=some c':=h3 n c (by rw[dQ];simp)
   refine⟨cl,?_,h2,λx c' q=> ?_,λy hy hf=> ?_⟩
   .rw[List.forIn_cons];show(do let c<-cellOf env n;pure (ForInStep.yield ((n,c)::cs))) >>= _=_;rw[e1];exact h1
   .by_cases z:x=n
    .subst z;exact hn
    .refine h3 x c' ?_
     rw[dQ];have:(x==n)=false:=by exists z
     rw[this];exact q
   .rcases aT.mp hy with rfl|hy
    .exact hn
    .exact h4 y hy hf
  .obtain⟨cl,h1,h2,h3,h4⟩:=a43 r hr cs hcs;refine⟨cl,?_,h2,h3,λy hy hf=> ?_⟩
   .rw[List.forIn_cons];have:(k==NameKind.free)=false:=by exists hk
    show(if(k==NameKind.free)=true then _ else _) >>= _=_
    rw[this];exact h1
   .rcases aT.mp hy with rfl|hy
    .exact absurd hf hk
    .exact h4 y hy hf
structure gB (env:Env)(XN N:List Str)(cap:List (Option Nat))(scope:Scope):Prop where
 kind:scope.kind= .function
 owns: ∀y∈scope.names,y.2= .cell->scope.names.lookup y.1=some .cell
 freeK: ∀y∈scope.names,y.2= .free->scope.names.lookup y.1=some .free
 names: ∀y∈scope.names,y.2= .local->scope.names.lookup y.1=some .local
 frees: ∀y∈scope.names,y.2= .free->env.kindOf y.1=some .cell\/env.kindOf y.1=some .free
 caps: ∀(i j:Nat) (x:Str),N[i]? =some x->cap[i]? =some (some j)->XN[j]? =some x/\(x,NameKind.free)∈scope.names/\scope.names.lookup x=some .free
 len:cap.length=N.length
nonrec def xB (σ:L2.St)(cap:List (Option Nat))(last:Nat)(D:Addr):L2.St:=(cap.map λc=>c.bind λj=>(σ[j]?).join).set last (some<|.ref D)
theorem aB0 {env:Env}{x:Str}{k:NameKind}: ∀{names:List (Str×NameKind)},names.lookup x=some k->
  (names.map fun(n,k)=>if(k==NameKind.free&&env.scope.kind== .function&&env.kindOf n==some .cell)then(n,NameKind.cell)else(n,k)).lookup x=
   some (if(k==NameKind.free&&env.scope.kind== .function&&env.kindOf x==some .cell)then NameKind.cell else k)
 | [],h=>by simp at h
 | (n,k')::r,h=>by
  rw[cS];rw[dQ]at h;right
  by_cases e:(x==n)=true
  .have e':x=n:=by exists e
   subst e';rw[e]at h;cases h;split<;>simp
  .have e2:(x==n)=false:=by exists e
   rw[e2]at h;have ih:=aB0 (env:=env) h;split
   .rw[dQ,e2];exact ih
   .rw[dQ,e2];exact ih
theorem qD {env:Env}{x:Str}{k:NameKind}: ∀{names:List (Str×NameKind)},(names.map fun(n,k)=>if(k==NameKind.free&&env.scope.kind== .function&&env.kindOf n==some .cell)then(n,NameKind.cell)else(n,k)).lookup x=some k->
  ∃k',names.lookup x=some k'/\(x,k')∈names/\(k=k'\/k'= .free)
 | [],h=>by simp at h
 | (n,k')::r,h=>by
  rw[cS]at h;dsimp only at h
  by_cases e:(x==n)=true
  .have e':x=n:=by exists e
   subst e';refine⟨k',by rw[dQ,e],b7,?_⟩
   split at h
   .rename_i c
    refine .inr ?_
    simp only[bP,gA]at c;exact c.1.1
   .rw[dQ,e]at h;cases h;exact .inl rfl
  .have e2:(x==n)=false:=by exists e
   have h':(r.map fun(n,k)=>if(k==NameKind.free&&env.scope.kind== .function&&env.kindOf n==some .cell)then(n,NameKind.cell)else(n,k)).lookup x=some k:=by
    split at h
    .rw[dQ,e2]at h;exact h
    .rw[dQ,e2]at h;exact h
   obtain⟨k2,h1,h2,h3⟩:=qD h';exact⟨k2,by rw[dQ,e2];exact h1,bM _ h2,h3⟩
theorem b25 {x:Str}{c:Addr}: ∀(names:List (Str×NameKind)) (h:Heap) (acc:List (Str×Addr)),(cellsFrom h.objs.size names acc).lookup x=some c->
  acc.lookup x=some c\/(h.objs.size<=c/\(x,NameKind.cell)∈names/\(pushCells h names).IsCell c none)
 | [],_,_,e=> .inl e
 | (y,k)::r,h,acc,e=>by
  unfold cellsFrom at e;unfold pushCells
  by_cases hk:(k==NameKind.cell)=true
  .rw[a8 hk]at e⊢;have hk':k= .cell:=by exists hk
   have sz:(h.push {cls:= .type "cell",data:= .cell none}).objs.size=h.objs.size+1:=rQ ..;rw[<-sz]at e;rcases b25 r _ _ e with q| ⟨q1,q2,q3⟩
   .rw[dQ]at q;split at q
    .rename_i e1
     have:x=y:=by exists e1
     subst this;cases q;exact .inr ⟨aG _,by rw[hk'];exact b7,⟨_,aR3 _ _ _ _<|cO _ rfl,rfl⟩⟩
    .exact .inl q
   .exact .inr ⟨ad,bM _ q2,q3⟩
  .rw[a7 hk]at e⊢;rcases b25 r h acc e with q| ⟨q1,q2,q3⟩
   .exact .inl q
   .exact .inr ⟨q1,bM _ q2,q3⟩
theorem b26: ∀(names:List (Str×NameKind)) (n:Nat) (acc:List (Str×Addr)),(∀x c,acc.lookup x=some c->c<n)->(∀x y c,acc.lookup x=some c->acc.lookup y=some c->x=y)->
  ∀x y c,(cellsFrom n names acc).lookup x=some c->(cellsFrom n names acc).lookup y=some c->x=y
 | [],_,_,_,hi=>hi
 | (z,k)::r,n,acc,hl,hi=>by
  unfold cellsFrom
  by_cases hk:(k==NameKind.cell)=true
  .rw[a8 hk];refine b26 r (n+1) _ (λx c e=> ?_) (λx y c e1 e2=> ?_)
   .rw[dQ]at e;split at e
    .cases e;exact rO n
    .exact iK (hl x c e)
   .rw[dQ]at e1 e2;split at e1
    .rename_i q1
     cases e1;split at e2
     .rename_i q2
      exact(by simpa using q1:x=z).trans (by simpa using q2:y=z).symm
     .exact absurd (hl y _ e2) (dU _)
    .split at e2
     .cases e2;exact absurd (hl x _ e1) (dU _)
     .exact hi x y c e1 e2
  .rw[a7 hk];exact b26 r n acc hl hi
theorem uP {x:Str}{c:Addr}: ∀(names:List (Str×NameKind)) (n:Nat) (acc:List (Str×Addr)),((x,NameKind.cell)∈names\/ ∀c,acc.lookup x=some c->n<=c)->(cellsFrom n names acc).lookup x=some c->n<=c
 | [],_,_,h,e=>by
  rcases h with h|h
  .simp at h
  .exact h c e
 | (z,k)::r,n,acc,h,e=>by
  unfold cellsFrom at e
  by_cases hk:(k==NameKind.cell)=true
  .rw[a8 hk]at e;have hk':k= .cell:=by exists hk
   rcases h with h|h
   .rcases aT.mp h with h|h
    .cases h;have:n<=c:=by
      by_cases q: ∃c',(cellsFrom (n+1) r ((x,n)::acc)).lookup x=some c'/\(x,NameKind.cell)∈r
      .obtain⟨c',e',m⟩:=q;have:=uP (c:=c) r (n+1) _ (.inl m) e
       lia
      .have nm:(x,NameKind.cell) ∉ r:=λm=>q ⟨c,e,m⟩
       have:=cells_keep r (n+1) ((x,n)::acc) nm;rw[this,dQ]at e;simp at e;exact le_of_eq e
     exact this
    .have:=uP (c:=c) r (n+1) _ (.inl h) e
     lia
   .by_cases q:(x,NameKind.cell)∈r
    .have:=uP (c:=c) r (n+1) _ (.inl q) e
     lia
    .have:=cells_keep r (n+1) ((z,n)::acc) q;rw[this,dQ]at e;split at e
     .cases e;exact aG _
     .exact h c e
  .rw[a7 hk]at e;refine uP (c:=c) r n acc (h.imp (λm=> ?_) id) e
   rcases aT.mp m with m|m
   .cases m;exact absurd ac hk
   .exact m
where
 cells_keep {x:Str}: ∀(names:List (Str×NameKind)) (n:Nat) (acc:List (Str×Addr)),(x,NameKind.cell) ∉ names->(cellsFrom n names acc).lookup x=acc.lookup x
 | [],_,_,_=>rfl
 | (z,k)::r,n,acc,h=>by
  unfold cellsFrom
  by_cases hk:(k==NameKind.cell)=true
  .rw[a8 hk];have hk':k= .cell:=by exists hk
   rw[cells_keep r (n+1) _ λm=>h (bM _ m),dQ]
   split
   .rename_i e
    have:x=z:=by exists e
    subst this;exact absurd (by rw[hk'];exact b7) h
   .rfl
  .rw[a7 hk];exact cells_keep r n acc λm=>h (bM _ m)
theorem cells_keep (names:List (Str×NameKind))(n:Nat)(acc:List (Str×Addr))(h:(x,NameKind.cell) ∉ names):(cellsFrom n names acc).lookup x=acc.lookup x:=uP.cells_keep names n acc h
theorem bZ4 {M:Model}{globals:Addr}{env0:Env}{Q:Env->Shared->Prop}
  (hQ:Q {scope:=scope,locals:=s.heap.objs.size,globals:=globals,cells:=cellsFrom (s.heap.objs.size+1) scope.names cl,qual:=qual,func:=none,code:=env0.code,frame:=env0.frame,builtins:=env0.builtins} {s with heap:=pushCells (s.heap.push {cls:= .type "dict",data:= .dict #[]}) scope.names}) :
  wpAny M A (newFunctionEnv scope globals cl [] qual none .none<|some env0) Q E s:=by
 simp only[newFunctionEnv,Option.isSome_some,iQ];refine a9 (wpAny_alloc ?_);refine a9 (wpAny_layCells _ (λname kind cells=>by cases hkc:kind==NameKind.cell<;>simp[hkc]) _ _ _ _ ?_)
 rw[show({s with heap:=s.heap.push {cls:= .type "dict",data:= .dict #[]}}:Shared).heap.objs.size=s.heap.objs.size+1 from rQ ..]
 rw[List.forIn_nil];exact a9 (aK<|aK hQ)
section
variable {X:Cx}{pins:List (Addr×Obj)}{σ:L2.St}{H:Hp}{s:Shared}{N:List Str}{cap:List (Option Nat)}{scope:Scope}
theorem c78 {D:Addr}{cl0:List (Str×Addr)}{h1:Heap}{m0:Str->Option Value}(S:gB X.env X.N N cap scope)(I:Inv X pins σ H s)(hf: ∀b∈fp,b19 X pins H b)(hfs: ∀b∈fp,b<s.heap.objs.size)
  (hcl: ∀x c,cl0.lookup x=some c->X.env.cells.lookup x=some c) (hcl2: ∀y∈scope.names,y.2= .free-> ∃c,cl0.lookup y.1=some c) (hN: ∀x,N[last]? =some x->scope.names.lookup x=none)
  (hns:h1.Ns s.heap.objs.size m0) (hk: ∀b o,s.heap.get? b=some o->h1.get? b=some o)
  (c1: ∀x c,cl.lookup x=some c->cl0.lookup x=some c\/(s.heap.objs.size<c/\h1.IsCell c none)) (c2: ∀x y c,cl.lookup x=some c->cl.lookup y=some c->x=y)
  (c3: ∀x,(x,NameKind.free)∈scope.names->cl.lookup x=cl0.lookup x) (c4: ∀x,scope.names.lookup x=some .cell-> ∃c,cl.lookup x=some c) (c5: ∀x c,scope.names.lookup x=some .cell->cl.lookup x=some c->s.heap.objs.size<=c) :
  Inv (cG X N scope cl s.heap.objs.size s H fp pins) [] (xB σ cap last D) H {s with heap:=h1,toks:=tk}:=by
 have sz:X.base.objs.size<=s.heap.objs.size:=aN I.ok.bsz I.sz;have kindF: ∀x,(cG X N scope cl s.heap.objs.size s H fp pins).env.kindOf x=some .cell\/(cG X N scope cl s.heap.objs.size s H fp pins).env.kindOf x=some .free->(x,NameKind.free)∈scope.names\/scope.names.lookup x=some .cell:=λx h=>by
  have: ∃k,(k= .cell\/k= .free)/\(relabel scope X.env).names.lookup x=some k:=by
   rcases h with h|h
   .exact⟨_,.inl rfl,h⟩
   .exact⟨_,.inr rfl,h⟩
  obtain⟨k,hk,h⟩:=this;obtain⟨k',h1,h2,h3⟩:=qD h;rcases h3 with rfl|rfl
  .rcases hk with rfl|rfl
   .exact .inr (S.owns _ h2 rfl)
   .exact .inl h2
  .exact .inl h2
 have cne: ∀x c,cl.lookup x=some c-> ∀b∈fp,c≠b:=λx c h b hb=>by
  rcases c1 x c h with q| ⟨q,_⟩
  .exact(hf b hb).2.2.2.2.1 x c (hcl x c q)
  .exact λz=>by subst z;exact absurd (Nat.lt_trans q<|hfs c hb) (dU _)
 refine⟨⟨I.ok.mod,S.kind,I.ok.glob,I.ok.blt,aG _,c2,λx h=> ?_,λx c h e=> ?_,I.ok.hd,I.ok.frames,.inl rfl,λb hb=> ?_,I.bs,sz,λb o e hb=> ?_,λb hb=> ?_,I.stack,I.stkFree⟩,
  rfl,I.bare,Un.kept hk,⟨m0,hns,λi x v e1 e2 e3=> ?_⟩,λx c h=> ?_,I.hok.fresh<|aG _,λx c h=> ?_,λp hp=> ?_,I.hok.kept hk,?_⟩
 .rcases kindF x h with q|q
  .obtain⟨c,e⟩:=hcl2 _ q rfl;exact⟨c,(c3 x q).trans e⟩
  .exact c4 x q
 .exact c5 x c (by simpa using(show(scope.names.lookup x==some NameKind.cell)=true from h)) e
 .exact⟨b9<|hfs b hb,λx c h=>cne x c h b hb⟩
 .rcases(hf b hb).2.2.2.1 with z|z
  .exact I.ok.noex b o e z
  .have:=aV e;exact absurd (bI this<|aN I.ok.bsz z) (dU _)
 .intro z;rcases aT.mp (I.stkSub b z)with z|z
  .exact(hf b hb).2.1 z
  .exact(hf b hb).2.2.1 z
 .have e1':N[i]? =some x:=e1;unfold xB at e2
  by_cases hl:last=i
  .subst hl;have z:=hN x e1';rcases e3 with e3|e3|e3
   .obtain⟨k',h1,_⟩:=qD (show(relabel scope X.env).names.lookup x=_ from e3)
    rw[z]at h1;cases h1
   .obtain⟨k',h1,_⟩:=qD (show(relabel scope X.env).names.lookup x=_ from e3)
    rw[z]at h1;cases h1
   .obtain⟨k',h1,_⟩:=qD (show(relabel scope X.env).names.lookup x=_ from e3)
    rw[z]at h1;cases h1
  .rw[M.get_set_ne hl,bX]at e2;cases e4:cap[i]? with
   | none=>rw[e4]at e2;cases e2
   | some c=>
    rw[e4]at e2;cases c with
    | none=>cases e2
    | some j=>
     have e2':(σ[j]?).join=some v:=by exists e2
     have e5:σ[j]? =some (some v):=by
      cases q:σ[j]? with
      | none=>rw[q]at e2';cases e2'
      | some w=>rw[q]at e2';cases w with
       | none=>cases e2'
       | some w'=>cases e2';rfl
     obtain⟨a1,a2,a3⟩:=S.caps i j x e1' e4;have kx:=S.frees _ a2 rfl;obtain⟨m,hn,hl'⟩:=I.loc;have vis:Vis X.env.scope x:=by
      rcases kx with kx|kx
      .exact .inr (.inl kx)
      .exact .inr (.inr kx)
     obtain⟨u,r,l⟩:=hl' j x v a1 e5 vis;refine⟨u,r,.inr ⟨?_,?_⟩⟩
     .have q:=aB0 (env:=X.env) a3;show(relabel scope X.env).names.lookup x=_\/(relabel scope X.env).names.lookup x=_;unfold relabel;right;rw[q];split
      .exact .inl rfl
      .exact .inr rfl
     .rcases l with⟨l,_⟩| ⟨_,c,hc,hcell⟩
      .rcases kx with kx|kx<;>·rw[kx]at l;cases l
      .obtain⟨c',hc'⟩:=hcl2 _ a2 rfl;have:=hcl x c' hc';rw[hc]at this;cases this;obtain⟨o,ho,hd⟩:=hcell;exact⟨c,(c3 x a2).trans hc',o,hk _ _ ho,hd⟩
 .rcases c1 x c h with q| ⟨_,q⟩
  .obtain⟨v,o,ho,hd⟩:=I.cell x c (hcl x c q);exact⟨v,o,hk _ _ ho,hd⟩
  .exact⟨_,q⟩
 .rcases c1 x c h with q| ⟨q,_⟩
  .exact I.freeC x c (hcl x c q)
  .exact I.hok.fresh (rV q)
 .have hp':p∈X.pn++pins:=by
   have:p∈(X.pn++pins)++[]:=hp
   exists this
  obtain⟨a1,a2,a3,a4,a5⟩:=I.pin p hp';refine⟨hk _ _ a1,a2,b9<|aV a1,λz=> ?_,a5⟩
  rcases aT.mp (I.stkSub p.1 z)with z|z
  .exact a3 z
  .exact a4 z
 .unfold xB;rw[gH,aF];exact S.len
theorem bT3 {σ':L2.St}{H':Hp}{h2:Heap}{pins':List (Addr×Obj)}(I:Inv X pins σ H s)(hf: ∀b∈fp,b19 X pins H b)(hC:s.heap.objs.size<=C)
  (I':Inv (cG X N scope cl C s H fp pins) pins' σ' H' s') (hs:SameBut C s'.heap h2):Inv X pins σ H' {s' with heap:=h2}:=by
 have nC: ∀b o,s.heap.get? b=some o->b≠C:=λb o e z=>by
  subst z;exact absurd (bI (aV e) hC) (dU _)
 have get: ∀b,b≠C->h2.get? b=s'.heap.get? b:=λb hb=>hs.2 b hb
 have U:=I'.base;have u:Un (frs X.stack) fp H H' s.heap h2:=by
  refine⟨λb o e n h1 hx=> ?_,λb o e n h1 hx=> ?_,U.free,λb o e hx=> ?_,U.tups,U.frzs,U.tbls⟩
  .rw[get b<|nC b o e];exact U.keep b o e n h1 hx
  .rw[get b<|nC b o e];exact U.slot b o e n h1 hx
  .rw[get b<|nC b o e];exact U.there b o e hx
 have fC:H' C=none:=I'.free;have hok:HOk X.prog X.w H' h2:=λa o e=>by
  have na:a≠C:=λz=>by subst z;rw[fC]at e;cases e
  refine(I'.hok a o e).stay (λb u hb q=> ?_) (λ_ q=>q) λ_ _ q=>q
  have nb:b≠C:=by
   rcases hb with rfl|hb
   .exact na
   .exact λz=>by subst z;rw[fC]at hb;cases hb
  rw[get b nb];exact q
 obtain⟨hh,gg,dd,tt,oo⟩:=s';have eo:oo=s.os:=I'.os;subst eo;have fin:=I.call (h':=h2) (g':=gg) (d':=dd) (t':=tt) (ch:=fp) u hok I'.bare λb hb=>⟨(hf b hb).2.2.2.1,(hf b hb).2.1,(hf b hb).2.2.2.2.1,(hf b hb).2.2.2.2.2⟩
 exact fin
end
def aR9 (e:Expr)(d:Nat)(target:Expr)(p0:Pos)(ifs:List Expr)(em:Sem Unit)(it acc:Value)(env:Env):Sem Fin:=do
 standAt p0
 match<-pyNext it with
 | none=>pure (.done .next)
 | some v=>
  letOwnedTupleGo target it v
  assign target env v
  let mut ok:=true
  for c in ifs do
   if ok then ok<-isTrue c env (eval c env)
  if ok then em
  again (.compLoop e d it acc env)
theorem aB1 {prog:Program}{w:World}{A:Around}{R:Result->Shared->Prop}{s:Shared}{elt target:Expr}{gens:List Comprehension}{ifs:List Expr}{scope:Scope}{pos p0:Pos}{d:Nat}{it acc:Value}{env:Env}{em:Sem Unit}(I:Nat->Shared->Prop)
  (hturn:compTurn (.ListComp elt gens scope pos) d it acc env=aR9 (.ListComp elt gens scope pos) d target p0 ifs em it acc env)
  (turn: ∀n s,I n s->wpAny (model prog w) A (pyNext it) (λr s₁=>match r with
   | none=>R (.ok .next) s₁
   | some v=>wpAny (model prog w) A (letOwnedTupleGo target it v) (λ_ s₂=>wpAny (model prog w) A (assign target env v) (λ_ s₂=>
     wpAny (model prog w) A (forIn ifs true λc r=>if r=true then do let ok<-isTrue c env (eval c env);pure (ForInStep.yield ok)else pure (ForInStep.yield r)) (λok s₃=>
      if ok=true then wpAny (model prog w) A em (λ_ s₅=> ∃m,m<n/\I m s₅) (notedBy (model prog w) A env λe s'=>R (.error e) s') s₃
      else ∃m,m<n/\I m s₃) (notedBy (model prog w) A env λe s'=>R (.error e) s') s₂) (notedBy (model prog w) A env λe s'=>R (.error e) s') s₂) (notedBy (model prog w) A env λe s'=>R (.error e) s') s₁) (notedBy (model prog w) A env λe s'=>R (.error e) s') s)
  (n:Nat) (h:I n s):codeAny (model prog w) A (.compLoop (.ListComp elt gens scope pos) d it acc env) R s:=by
 refine codeAny_loop rfl I (λn s hI=> ?_) n h
 show wpAny _ A ((compTurn (.ListComp elt gens scope pos) d it acc env).onRaise (λx=>do noteFrame x env;theTreesLotGoes x)) _ _ s
 refine wpAny_noted ?_
 rw[hturn];unfold aR9;refine a9 (rT<|a9<|bD (turn n s hI) (λr s₁ h₁=> ?_) λ_ _ h'=>h')
 cases r with
 | none=>exact aK h₁
 | some v=>
  refine a9 (bD h₁ (λ_ s₂ h₂=>a9 (bD h₂ (λ_ s₂ h₂=>a9 (bD h₂ (λok s₃ h₃=> ?_) λ_ _ h'=>h')) λ_ _ h'=>h')) λ_ _ h'=>h')
  cases ok with
  | false=>exact aK ⟨rfl,h₃⟩
  | true=>exact a9 (bD h₃ (λ_ s₅ h₅=>aK ⟨rfl,h₅⟩) λ_ _ h'=>h')
def PTs (X:Cx)(ifs:List Expr)(t:TT):Prop:=
 ∀(pins:List (Addr×Obj)) (s:Shared) (σ:L2.St) (H:Hp) (Q:Bool->Hp->Prop),Inv X pins σ H s->t σ H Q->
  X∩(forIn ifs true λc r=>if r=true then do let ok<-isTrue c X.env (eval c X.env);pure (ForInStep.yield ok)else pure (ForInStep.yield r)) (TP X pins σ Q) X.xe s
theorem dN5 {X:Cx}:PTs X [] (λ_ H Q=>Q true H):=λpins s σ H Q I h=>wpAny_tests_nil ⟨H,I,h⟩
theorem dN6 {X:Cx}{t:TT}(h:PT X c t):PTs X [c] t:=λpins s σ H Q I q=>wpAny_tests_one (h pins s σ H Q I q)
def bE3 (cap:List (Option Nat))(last:Nat)(wi:TI)(g:TG)(tt:TT)(tem:Addr->L2.St->Hp->(L2.St->Hp->Prop)->Prop):TE:=λσ H Q=>wi σ H λJ H1=> ∀D,H1 D=none-> ∃W:Nat->Nat->L2.St->Hp->Prop,(∃m,W 0 m (xB σ cap last D)<|upd H1 D<|.lst [])/\ ∀i m σ' H',W i m σ' H'->
 (J.stop i H'/\Q (.ref D) H')\/(J.go i H'/\ ∃Nx:L2.St->Hp->Prop,(∀σ2 H2,Nx σ2 H2-> ∃m',m'<m/\W (i+1) m' σ2 H2)/\ ∀x H2,J.yld i H' x H2->g x σ' H2 λσ3 H3=>tt σ3 H3 λc H4=>
  if c=true then tem D σ3 H4 Nx else Nx σ3 H4)
def tPut (te:TE)(D:Addr)(σ:L2.St)(H:Hp)(Nx:L2.St->Hp->Prop):Prop:=te σ H λy H5=> ∃ys,H5 D=some (.lst ys)/\ys.length<sizeLine/\Nx σ (upd H5 D<|.lst<|ys++[y])
def putOf (elt:Expr)(acc:Value)(env:Env):Sem Unit:=do let _<-call (.builtin "list.append") [acc,<-eval elt env]
def PEm (X:Cx)(em:Value->Env->Sem Unit)(tem:Addr->L2.St->Hp->(L2.St->Hp->Prop)->Prop):Prop:= ∀(D:Addr) (pins:List (Addr×Obj)) (s:Shared) (σ:L2.St) (H:Hp) (Nx:L2.St->Hp->Prop),Inv X pins σ H s->tem D σ H Nx->X∩(em (.ref D) X.env) (λ_ s'=> ∃σ' H',Inv X pins σ' H' s'/\Nx σ' H') X.xe s
theorem cQ3 {X:Cx}{te:TE}(he:PE X elt te):PEm X (putOf elt) (tPut te):=by
 intro D pins s σ H Nx I h;refine a9 (bD (he pins s σ H _ I h) (λv s1 h1=> ?_) λ_ _ z=>z)
 obtain⟨y,H1,I1,r1,ys,e1,z1,q1⟩:=h1;refine a9 (bD (bS5 (X:=X) _ s1 σ H1 (.ref D) [y] (.ref D) [v] (λv H=>v= .non/\Nx σ H) I1 rfl (.cons r1 .nil) ⟨_,ys,y,rfl,rfl,e1,z1,rfl,q1⟩) (λ_ s2 h2=> ?_) λ_ _ z=>z)
 obtain⟨_,H2,I2,_,_,q2⟩:=h2;exact aK ⟨σ,H2,I2,q2⟩
theorem bT4 {X:Cx}{RR:Value->Addr->Result->Shared->Prop}{iA:List Comprehension}{wi:TI}{g:TG}{tt:TT}{tem:Addr->L2.St->Hp->(L2.St->Hp->Prop)->Prop}(hem: ∀it acc env,compTurn (.ListComp elt (⟨tg,iter,ifs,0⟩::iA) scope pos) 0 it acc env=aR9 (.ListComp elt (⟨tg,iter,ifs,0⟩::iA) scope pos) 0 tg iter.pos ifs (em acc env) it acc env)(hc:X.calm=true)(hi:PI X tg iter wi)(S:gB X.env X.N N cap scope)
  (hN: ∀x,N[last]? =some x->scope.names.lookup x=none)
  (hg: ∀cl C s H fp pins,PG (cG X N scope cl C s H fp pins) tg g) (ht: ∀cl C s H fp pins,PTs (cG X N scope cl C s H fp pins) ifs tt) (he: ∀cl C s H fp pins,PEm (cG X N scope cl C s H fp pins) em tem)
  {pins:List (Addr×Obj)} {s:Shared} {σ:L2.St} {H:Hp} {Q:VK} {cl:List (Str×Addr)} (I:Inv X pins σ H s) (h:bE3 cap last wi g tt tem σ H Q) (hcl: ∀x c,cl.lookup x=some c->X.env.cells.lookup x=some c) (hcl2: ∀y∈scope.names,y.2= .free-> ∃c,cl.lookup y.1=some c)
  (fin: ∀(D:Addr) (fp:List Addr) (H3:Hp) (s3:Shared) (σ':L2.St) (H':Hp) (s':Shared),Inv X pins σ H3 s3->(∀b∈fp,b19 X pins H3 b)->Inv (cG X N scope (cellsFrom (s3.heap.objs.size+1) scope.names cl) s3.heap.objs.size s3 H3 fp pins) [] σ' H' s'->Q (.ref D) H'->RR (.ref D) s3.heap.objs.size (.ok .next) s') :
  X∩(eval iter X.env) (λx s₁=>X∩(pyIter x) (λit s₂=>X∩(newList []) (λacc s₃=>
   X∩(newFunctionEnv scope X.env.globals cl [] X.env.qual none .none<|some X.env) (λcenv s₄=>
    codeAny (model X.prog X.w) X.A (.compStart (.ListComp elt (⟨tg,iter,ifs,0⟩::iA) scope pos) 0 it acc {cenv with scope:=relabel scope X.env}) (RR acc cenv.locals) s₄) X.xe s₃) X.xe s₂) X.xe s₁) X.xe s:=by
 refine thn (hi pins s σ H _ I h) λxv s1 h1=>thn h1 λit s2 h2=> ?_
 obtain⟨ita,fp,tn,J,H2,rfl,I2,T,st2,f2,q⟩:=h2;refine lH ?_ (by show 0<=sizeLine;decide)
 have fD:H2 s2.heap.objs.size=none:=I2.hok.fresh (aG _);obtain⟨W,⟨m0,w0⟩,turn⟩:=q s2.heap.objs.size fD;have I3:Inv X pins σ (upd H2 s2.heap.objs.size<|.lst []) {s2 with heap:=s2.heap.push {cls:= .type "list",data:= .seq ([]:List Value).toArray}}:=I2.lnew (t':=s2.toks) .nil (dI _);have fpne: ∀b∈fp,b≠s2.heap.objs.size:=λb hb=>by
  obtain⟨o,ho,_⟩:=T.obj 0 _ st2 b hb;exact b9 (aV ho)
 have f3: ∀b∈fp,b19 X pins (upd H2 s2.heap.objs.size<|.lst []) b:=λb hb=>⟨by rw[cV<|fpne b hb];exact(f2 b hb).1,(f2 b hb).2⟩
 have k23: ∀b o,s2.heap.get? b=some o->(s2.heap.push {cls:= .type "list",data:= .seq ([]:List Value).toArray}).get? b=some o:=λb o e=>bE _ e
 have st3:tn 0 (s2.heap.push {cls:= .type "list",data:= .seq ([]:List Value).toArray}):=T.keep 0 _ _ st2 λb hb o e=>k23 b o e
 have fps: ∀b∈fp,b< (s2.heap.push {cls:= .type "list",data:= .seq ([]:List Value).toArray}).objs.size:=λb hb=>by
  obtain⟨o,ho,_⟩:=T.obj 0 _ st3 b hb;exact aV ho
 generalize hS3:({s2 with heap:=s2.heap.push {cls:= .type "list",data:= .seq ([]:List Value).toArray}}:Shared)=s3 at I3;have hh3:s3.heap=s2.heap.push {cls:= .type "list",data:= .seq ([]:List Value).toArray}:=by rw[<-hS3]
 rw[<-hh3]at st3 fps;refine bZ4 ?_;have sz3:(s3.heap.push {cls:= .type "dict",data:= .dict #[]}).objs.size=s3.heap.objs.size+1:=rQ ..;have hns₁:(pushCells (s3.heap.push {cls:= .type "dict",data:= .dict #[]}) scope.names).Ns s3.heap.objs.size (λ_=>none):=(Heap.Ns.new s3.heap<|.type "dict").keeps (aR3 _ _)
 have k34: ∀b o,s3.heap.get? b=some o->(pushCells (s3.heap.push {cls:= .type "dict",data:= .dict #[]}) scope.names).get? b=some o:=λb o e=>aR3 _ _ _ _ (bE _ e)
 have I4:=c78 (tk:=s3.toks) (last:=last) (D:=s2.heap.objs.size) (cl:=cellsFrom (s3.heap.objs.size+1) scope.names cl) S I3 f3 fps hcl hcl2 hN hns₁ k34
  (λx c e=>by
   rw[<-sz3]at e;rcases b25 _ _ _ e with q| ⟨q1,_,q3⟩
   .exact .inl q
   .exact .inr ⟨ad,q3⟩)
  (b26 _ _ _ (λx c e=>by
   obtain⟨v,q⟩:=I3.cell x c (hcl x c e);exact iK q.lt) λx y c e1 e2=>I3.ok.inj x y c (hcl x c e1) (hcl y c e2))
  (λx m=>cells_keep _ _ _ λm'=>by
   have h1:=S.owns _ m' rfl;have h2:=S.freeK _ m rfl;rw[h1]at h2;cases h2)
  (λx e=>aN1.mp (aO0 _ _ _<|.inl e))
  (λx c e1 e2=>by
   have:=uP scope.names (s3.heap.objs.size+1) cl (.inl<|rH e1) e2
   lia)
 have st4:tn 0 (pushCells (s3.heap.push {cls:= .type "dict",data:= .dict #[]}) scope.names):=T.keep 0 _ _ st3 λb hb o e=>k34 b o e
 generalize hcl':cellsFrom (s3.heap.objs.size+1) scope.names cl=cl' at I4;have loop:codeAny (model X.prog X.w) X.A (.compLoop (.ListComp elt (⟨tg,iter,ifs,0⟩::iA) scope pos) 0 (.ref ita) (.ref s2.heap.objs.size)<|compEnvC scope cl' s3.heap.objs.size X.env)
   (RR (.ref s2.heap.objs.size) s3.heap.objs.size) {s3 with heap:=pushCells (s3.heap.push {cls:= .type "dict",data:= .dict #[]}) scope.names,toks:=s3.toks}:=by
  have stat: ∀{H':Hp},(∀b∈fp,H' b=none)-> ∀b∈fp,b19 (cG X N scope cl' s3.heap.objs.size s3 (upd H2 s2.heap.objs.size<|.lst []) fp pins) [] H' b:=λ{H'} hn b hb=>by
   refine⟨hn b hb,b9<|fps b hb,λz=> ?_,.inl hb,λx c e=>(I4.ok.exf b hb).2 x c e,λp hp=> ?_⟩
   .rcases aT.mp (I3.stkSub b z)with z|z
    .exact(f3 b hb).2.1 z
    .exact(f3 b hb).2.2.1 z
   .have:p∈(X.pn++pins)++[]:=hp;exact(f3 b hb).2.2.2.2.2 p (by exists this)
  have hcb:(cG X N scope cl' s3.heap.objs.size s3 (upd H2 s2.heap.objs.size<|.lst []) fp pins).calm=true:=hc;refine aB1 (λn s'=> ∃i σ' H',Inv (cG X N scope cl' s3.heap.objs.size s3 (upd H2 s2.heap.objs.size<|.lst []) fp pins) [] σ' H' s'/\tn i s'.heap/\(∀b∈fp,H' b=none)/\W i n σ' H') (hem _ _ _) ?_ m0 ⟨0,_,_,I4,st4,λb hb=>(f3 b hb).1,w0⟩
  rintro n s5 ⟨i,σ5,H5,I5,st5,fr5,w5⟩;rcases turn i n σ5 H5 w5 with⟨stop,qn⟩| ⟨go,Nx,hNx,step⟩
  .refine bD (T.done (cG X N scope cl' s3.heap.objs.size s3 (upd H2 s2.heap.objs.size<|.lst []) fp pins) rfl rfl rfl hcb i [] s5 σ5 H5 (λ_ _=>False) I5 (stat fr5) st5 stop) (λr s6 hr=> ?_) (λ_ _ z=>z.elim)
   obtain⟨rfl,I6⟩:=hr;exact fin _ fp _ s3 σ5 H5 s6 I3 f3 (hcl'▸I6) qn
  .refine bD (T.item (cG X N scope cl' s3.heap.objs.size s3 (upd H2 s2.heap.objs.size<|.lst []) fp pins) rfl rfl rfl hcb i [] s5 σ5 H5 (λ_ _=>False) I5 (stat fr5) st5 go) (λr s6 hr=> ?_) (λ_ _ z=>z.elim)
   obtain⟨u,rfl,h6⟩:=hr;refine bD h6 (λ_ s7 h7=> ?_) (λ_ _ z=>z.elim)
   obtain⟨x,H7,I7,r7,y7,st7,fr7⟩:=h7;have I7':=I7.pinned (stat fr7) (T.obj _ _ st7);refine bD (hg _ _ _ _ _ _ _ s7 σ5 H7 x u _ I7' r7<|step x H7 y7) (λ_ s8 h8=> ?_) (λ_ _ z=>False.elim z)
   obtain⟨σ8,H8,I8,q8⟩:=h8;have again: ∀{σ9:L2.St} {H9:Hp} {s9:Shared},Inv (cG X N scope cl' s3.heap.objs.size s3 (upd H2 s2.heap.objs.size<|.lst []) fp pins) ([]++bC9 fp s7.heap) σ9 H9 s9->Nx σ9 H9-> ∃m,m<n/\ ∃i σ' H',Inv (cG X N scope cl' s3.heap.objs.size s3 (upd H2 s2.heap.objs.size<|.lst []) fp pins) [] σ' H' s9/\tn i s9.heap/\(∀b∈fp,H' b=none)/\W i m σ' H':=λ{σ9 H9 s9} I9 n9=>by
    obtain⟨m',hm,w9⟩:=hNx σ9 H9 n9;refine⟨m',hm,i+1,σ9,H9,I9.unpinned,T.keep _ _ _ st7 λb hb o e=>(I9.pin (b,o)<|cZ _<|cZ _<|a39 hb e).1,λb hb=> ?_,w9⟩
    obtain⟨o,e,d⟩:=T.obj _ _ st7 b hb;exact(I9.pin (b,o)<|cZ _<|cZ _<|a39 hb e).2.1
   refine bD (ht _ _ _ _ _ _ _ s8 σ8 H8 _ I8 q8) (λc s9 h9=> ?_) (λ_ _ z=>False.elim z)
   obtain⟨H9,I9,q9⟩:=h9;cases c with
   | false=>exact again I9 q9
   | true=>
    rw[a8 rfl]at q9⊢;refine bD (he _ _ _ _ _ _ _ _ s9 σ8 H9 _ I9 q9) (λ_ s10 h10=> ?_) (λ_ _ z=>False.elim z)
    obtain⟨σ10,H10,I10,q10⟩:=h10;exact again I10 q10
 exact codeAny_compStart_list loop (T.self _ 0 _ _ _ st4 loop)
theorem aL2 {X:Cx}{σ:L2.St}{H:Hp}(S:gB X.env X.N N cap scope)(I:Inv X pins σ H s) :
  ∃cl,closureFor scope X.env=pure cl/\(∀x c,cl.lookup x=some c->X.env.cells.lookup x=some c)/\ ∀y∈scope.names,y.2= .free-> ∃c,cl.lookup y.1=some c:=by
 obtain⟨cl,h1,h2,_,h4⟩:=a43 (env:=X.env) scope.names (λy hy hf=>I.ok.has y.1 (S.frees y hy hf)) [] (λx c q=>by simp at q)
 refine⟨cl,?_,h2,h4⟩
 have e:closureFor scope X.env=(forIn scope.names [] fun(x:Str×NameKind) r=>(do if(x.2==NameKind.free)=true then do let c<-cellOf X.env x.1;pure (ForInStep.yield ((x.1,c)::r))else pure (ForInStep.yield r)):Sem (List<|Str×Addr)) >>= λr=>pure r:=by
  rfl
 rw[e,h1];rfl
theorem dN7 {X:Cx}{iA:List Comprehension}{wi:TI}{g:TG}{tt:TT}{tem:Addr->L2.St->Hp->(L2.St->Hp->Prop)->Prop}(hem: ∀it acc env,compTurn (.ListComp elt (⟨tg,iter,ifs,0⟩::iA) scope pos) 0 it acc env=aR9 (.ListComp elt (⟨tg,iter,ifs,0⟩::iA) scope pos) 0 tg iter.pos ifs (em acc env) it acc env)(hc:X.calm=true)(hi:PI X tg iter wi)(S:gB X.env X.N N cap scope)
  (hN: ∀x,N[last]? =some x->scope.names.lookup x=none)
  (hg: ∀cl C s H fp pins,PG (cG X N scope cl C s H fp pins) tg g) (ht: ∀cl C s H fp pins,PTs (cG X N scope cl C s H fp pins) ifs tt) (he: ∀cl C s H fp pins,PEm (cG X N scope cl C s H fp pins) em tem)
  (hs: ∀x,foldedSetIterable iter X.env x=pure x:=by intro _;rfl):PE X (.ListComp elt (⟨tg,iter,ifs,0⟩::iA) scope pos) (bE3 cap last wi g tt tem):=by
 intro pins s σ H Q I h;rw[eval_ListComp];obtain⟨cl,hcl0,hcl,hcl2⟩:=aL2 S I;refine wpAny_comprehension_free (use:=none) rfl hs hcl0 S.kind S.names ?_;refine bT4 (RR:=λacc C=>compPost (model X.prog X.w) X.A X.xe none (EP X pins σ Q) acc C) hem hc hi S hN hg ht he I h hcl hcl2 λD fp H3 s3 σ' H' s' I3 f3 I' q=> ?_
 obtain⟨m6,hn6,_⟩:=I'.loc;exact⟨m6,hn6,λh' hs'=>⟨.ref D,H',bT3 I3 f3 (aG _) I' hs',rfl,q⟩⟩
theorem cJ5 {X:Cx}{iA:List Comprehension}{wi:TI}{g:TG}{tt:TT}{tem:Addr->L2.St->Hp->(L2.St->Hp->Prop)->Prop}(hem: ∀it acc env,compTurn (.ListComp elt (⟨tg,iter,ifs,0⟩::iA) scope pos) 0 it acc env=aR9 (.ListComp elt (⟨tg,iter,ifs,0⟩::iA) scope pos) 0 tg iter.pos ifs (em acc env) it acc env)(hc:X.calm=true)(hi:PI X tg iter wi)(S:gB X.env X.N N cap scope)
  (hN: ∀x,N[last]? =some x->scope.names.lookup x=none)
  (hg: ∀cl C s H fp pins,PG (cG X N scope cl C s H fp pins) tg g) (ht: ∀cl C s H fp pins,PTs (cG X N scope cl C s H fp pins) ifs tt) (he: ∀cl C s H fp pins,PEm (cG X N scope cl C s H fp pins) em tem)
  (hy:PG X (.Name y py) (aA5 i)) (hsw:↥(swapsWith (.ListComp elt (⟨tg,iter,ifs,0⟩::iA) scope pos) (some<|.Name y py) spos.line X.env=pure true))
  (hs: ∀x,foldedSetIterable iter X.env x=pure x:=by intro _;rfl):PS X (.Assign [.Name y py] (.ListComp elt (⟨tg,iter,ifs,0⟩::iA) scope pos) spos) (dL1 (bE3 cap last wi g tt tem)<|aA5 i):=by
 intro pins s σ H D I h;rw[exec_Assign_Name_used _ _ _ _ hsw];refine a9 (rT<|a9 ?_);obtain⟨cl,hcl0,hcl,hcl2⟩:=aL2 S I;show wpAny _ X.A (do let _<-comprehension (.ListComp elt (⟨tg,iter,ifs,0⟩::iA) scope pos) scope X.env _ (newList []) false (eval iter X.env) (some<|assign (.Name y py) X.env)) _ _ s
 refine a9 (bD (wpAny_comprehension_free (use:=some (assign (.Name y py) X.env)) (Q:=λ_ s'=>SP X pins D .next s') rfl hs hcl0 S.kind S.names ?_) (λ_ s' hq=>aK (aK hq)) λ_ _ e=>e)
 refine bT4 (RR:=λacc C=>compPost (model X.prog X.w) X.A X.xe (some<|assign (.Name y py) X.env) (λ_ s'=>SP X pins D .next s') acc C) hem hc hi S hN hg ht he I (show bE3 cap last wi g tt tem σ H (λx H1=>aA5 i x σ H1 D.nx)from h) hcl hcl2 λD' fp H3 s3 σ' H' s' I3 f3 I' q=> ?_
 obtain⟨m6,hn6,_⟩:=I'.loc;obtain⟨o6,es6,ep6,ho6,rest6⟩:=id hn6;have J:Inv X pins σ H' s':=bT3 (h2:=s'.heap) I3 f3 (aG _) I' (.refl ..);have fC:H' s3.heap.objs.size=none:=I'.free;have neL:s3.heap.objs.size≠X.env.locals:=ne_of_gt I3.lt;have neF:s3.heap.objs.size ∉ X.fs:=I3.nofs (aG _);have neC: ∀x c,X.env.cells.lookup x=some c->c≠s3.heap.objs.size:=λx c e z=>by
  obtain⟨v,qq⟩:=I3.cell x c e;exact absurd (bI qq.lt (by rw[z];exact aG _)) (dU _)
 have neP: ∀p∈X.pn++pins,p.1≠s3.heap.objs.size:=λp hp z=>by
  have:=aV (I3.pin p hp).1;rw[z]at this;exact dU _ this
 have nd: ∀v,o6.data≠ .cell v:=λv z=>by
  have:o6.data= .dict es6 ep6:=rest6.1;rw[this]at z;cases z
 have J':Inv X (pins++[(s3.heap.objs.size,o6)]) σ H' s':=J.pins_of λp hp=>(bG.mp hp).elim (λz=>J.pin p (cZ _ z)) λz=>by
  have e:p=(s3.heap.objs.size,o6):=by exists z
  subst e;exact⟨ho6,fC,neL,neF,nd⟩
 show wpAny _ X.A (assign (.Name y py) X.env<|.ref D') _ _ _
 refine thn (hy _ s' σ H' (.ref D') (.ref D') D.nx J' rfl q) λ_ s7 ⟨σ7,H7,I7,q7⟩=> ?_
 obtain⟨e7,n7,_⟩:=I7.pin (s3.heap.objs.size,o6) (cZ _<|cZ _ ae)
 refine⟨m6,⟨o6,es6,ep6,e7,rest6⟩,λh' hs'=> ?_⟩
 have I8:=I7.unpinned;exact⟨σ7,H7,I8.turned (t':=s7.toks) (λb o hb e=>(hs'.2 b hb).trans e) n7 neL (.inr<|aN I3.sz<|aG _) neC neP,q7⟩
end L2
namespace M
nonrec def dN8:B->B
 | .pu d=> .pu d
 | .ow l=> .bo l
 | .bo l=> .bo l
nonrec def qW (ρ:Ev)(cap:List (Option Nat))(last:Nat):Ev:=(cap.map λc=>c.bind λj=>((ρ[j]?).join).map dN8).set last (some<|.ow [])
nonrec def dN9 (ρ:Ev)(j:Nat):Ev:=match ρ[j]? with
 | some (some<|.ow l)=>ρ.set j (some<|.pu<|.lst l)
 | _=>ρ
nonrec def wW:Ev->List Nat->Ev
 | ρ,[]=>ρ
 | ρ,j::js=>wW (dN9 ρ j) js
theorem d75 (ρ:Ev)(j:Nat):Frz ρ (dN9 ρ j):=by
 unfold dN9;split
 .rename_i l e
  exact .set e
 .exact .refl _
theorem c79: ∀(js:List Nat) (ρ:Ev),Frz ρ (wW ρ js)
 | [],ρ=> .refl _
 | j::js,ρ=>(d75 ρ j).trans (c79 js _)
def gD (js:List Nat)(cap:List (Option Nat))(last:Nat)(ui:UI)(g:UG)(tt:UT)(te:UE):UE:=λρ Q=>ui ρ λn it ρ1=> ∃Pv:Nat->Ev->Prop,Pv 0 (qW (wW ρ1 js) cap last)/\
 (∀i ρ',i<n->Pv i ρ'->g (.pu<|it i) ρ' λρ2=>tt ρ2 λc ρ3=>if c=true then te ρ3 λb ρ4=>qC ρ4 last λl=>l.length<sizeLine/\Pv (i+1) (ρ4.set last<|some<|.ow<|l++[b.d])else Pv (i+1) ρ3)/\
 ∀ρ',Pv n ρ'->qC ρ' last λl=>Q (.ow l) (wW ρ1 js)
def cJ6 (js:List Nat)(cap:List (Option Nat))(last:Nat)(ui:UI)(g:UG)(tt:UT)(uem:(Ev->Prop)->Ev->Prop):UE:=λρ Q=>ui ρ λn it ρ1=> ∃Pv:Nat->Ev->Prop,Pv 0 (qW (wW ρ1 js) cap last)/\
 (∀i ρ',i<n->Pv i ρ'->g (.pu<|it i) ρ' λρ2=>tt ρ2 λc ρ3=>if c=true then uem (Pv<|i+1) ρ3 else Pv (i+1) ρ3)/\
 ∀ρ',Pv n ρ'->qC ρ' last λl=>Q (.ow l) (wW ρ1 js)
def uPut (last:Nat)(te:UE)(Nx:Ev->Prop)(ρ:Ev):Prop:=te ρ λb ρ4=>qC ρ4 last λl=>l.length<sizeLine/\Nx (ρ4.set last<|some<|.ow<|l++[b.d])
def dO0 (K:Frag)(last:Nat)(uem:(Ev->Prop)->Ev->Prop)(tem:Addr->L2.St->Hp->(L2.St->Hp->Prop)->Prop):Prop:= ∀(C:C0) (ρ:Ev) (σ:L2.St) (H:Hp) (Dn:Addr) (Nx:Ev->Prop) (NX:L2.St->Hp->Prop),EOk K C ρ σ H->σ[last]? =some (some<|.ref Dn)->uem Nx ρ->(∀ρ2 σ2 H2,EOk K C ρ2 σ2 H2->σ2[last]? =some (some<|.ref Dn)->Nx ρ2->NX σ2 H2)->tem Dn σ H NX
section
variable {X:Cx}{K:Frag}{C:C0}{ρ ρ':Ev}{σ σ':L2.St}{H H':Hp}
theorem cap_ok {Dn:Addr}(I:EOk K C ρ σ H)(hl:last<cap.length)(n:H Dn=none) :
  EOk K ⟨H,Av C ρ σ⟩ (qW ρ cap last) (xB σ cap last Dn) (upd H Dn<|.lst []):=by
 have pu: ∀(i:Nat) (z:B),last≠i->(qW ρ cap last)[i]? =some (some z)-> ∃(j:Nat) (z':B),cap[i]? =some (some j)/\z=dN8 z'/\ρ[j]? =some (some z'):=λi z ne h=>by
  unfold qW at h;rw[get_set_ne ne,bX]at h;cases e4:cap[i]? with
  | none=>rw[e4]at h;cases h
  | some c=>
   rw[e4]at h;cases c with
   | none=>cases h
   | some j=>
    have h':((ρ[j]?).join).map dN8=some z:=by exists h
    cases q:ρ[j]? with
    | none=>rw[q]at h';cases h'
    | some w=>
     rw[q]at h';cases w with
     | none=>cases h'
     | some w'=>cases h';exact⟨j,w',rfl,rfl,q⟩
 have sgm: ∀(i j:Nat) (v:V),last≠i->cap[i]? =some (some j)->σ[j]? =some (some v)->(xB σ cap last Dn)[i]? =some (some v):=λi j v e e1 h1=>by
  unfold xB;rw[get_set_ne e,bX,e1];show some ((σ[j]?).join)=_;rw[h1];rfl
 have atl:(qW ρ cap last)[last]? =some (some<|.ow []):=by
  unfold qW;exact kC (by rw[aF];exact hl)
 have sal:(xB σ cap last Dn)[last]? =some (some<|.ref Dn):=by
  unfold xB;exact kC (by rw[aF];exact hl)
 have noOw: ∀(i:Nat) (l:List D),last≠i->(qW ρ cap last)[i]? ≠some (some<|.ow l):=λi l e h=>by
  obtain⟨j,z',_,z,_⟩:=pu i _ e h;cases z'<;>cases z
 have own: ∀a,Own (qW ρ cap last) (xB σ cap last Dn) a->a=Dn:=λa ⟨i,l,h1,h2⟩=>by
  by_cases e:last=i
  .subst e;rw[sal]at h2;cases h2;rfl
  .exact absurd h1 (noOw i l e)
 have P:oC (Av C ρ σ) H (Av ⟨H,Av C ρ σ⟩ (qW ρ cap last)<|xB σ cap last Dn) (upd H Dn<|.lst []):=λb o nb e=>by
  have ne:b≠Dn:=λz=>by subst z;rw[n]at e;cases e
  refine⟨?_,by rw[cV ne];exact e⟩
  rintro(z|z)
  .exact nb z
  .exact ne (own b z)
 refine⟨by unfold qW xB;rw[gH,gH,aF,aF],λi d h=> ?_,λi l h=> ?_,λi j l l' a h1 h2 h3 h4=> ?_,λi l h=> ?_,fL n _,λa z=>I.avSome z⟩
 .by_cases e:last=i
  .subst e;rw[atl]at h;cases h
  .obtain⟨j,z',e1,z,e2⟩:=pu i _ e h;cases z' with
   | pu d'=>
    cases z;obtain⟨v,h1,h2⟩:=I.pu j d e2;exact⟨v,sgm i j v e e1 h1,h2.mono P⟩
   | ow l=>cases z
   | bo l=>cases z
 .by_cases e:last=i
  .subst e;rw[atl]at h;cases h;exact⟨Dn,[],sal,jM,n,.nil⟩
  .exact absurd h (noOw i l e)
 .have e1:last=i:=uS λe=>absurd h1 (noOw i l e)
  have e2:last=j:=uS λe=>absurd h2 (noOw j l' e)
  exact e1.symm.trans e2
 .by_cases e:last=i
  .subst e;rw[atl]at h;cases h
  .obtain⟨j,z',e1,z,e2⟩:=pu i _ e h;cases z' with
   | pu d'=>cases z
   | ow l'=>
    cases z;obtain⟨a,vs,h1,h2,h3,h4⟩:=I.ow j l e2;exact⟨a,vs,sgm i j _ e e1 h1,.inr ⟨j,l,e2,h1⟩,h2,h4.mono P⟩
   | bo l'=>
    cases z;obtain⟨a,vs,h1,h2,h3,h4⟩:=I.bo j l e2;exact⟨a,vs,sgm i j _ e e1 h1,.inl h2,I.ext _ _ h3,h4.mono P⟩
theorem d76 {te:UE}:dO0 K last (uPut last te) (tPut<|lE K te):=λC ρ σ H Dn Nx NX J l3 q nx=>⟨C,ρ,_,J,q,λb ρ5 v H5 q5 f5 s5 r5=>by
 have J5:=(J.frz f5).same s5;obtain⟨l,hl5,hz,q5⟩:=nM q5;obtain⟨a,vs,g1,g2,g3,g4⟩:=J5.ow last l hl5;rw[l3]at g1;cases g1;exact⟨vs,g2,by rw[<-g4.length];exact hz,nx _ _ _ (J5.write hl5 l3<|g4.append<|.cons (r5.rep λa z=>J.avF f5 z) .nil) l3 q5⟩⟩
theorem dW9 {ui:UI}{g:UG}{T:List Nat}{tt:UT}{uem:(Ev->Prop)->Ev->Prop}{tem:Addr->L2.St->Hp->(L2.St->Hp->Prop)->Prop}(em:dO0 K last uem tem)(hl:last<cap.length)(hT:last ∉ T)(σ:L2.St)(H:Hp)(Q:VK)(h:lE K (cJ6 js cap last ui g tt uem) σ H Q) :
  bE3 cap last (lI K ui) (lG K T g) (lT K tt) tem σ H Q:=by
 obtain⟨C,ρ,Q0,I,h,k⟩:=h;refine⟨C,ρ,_,I,h,λn it ρ1 J H1 q f s ok Dn nD=> ?_⟩
 obtain⟨Pv,p0,turn,fin⟩:=q;have fz:=c79 js ρ1;have I1:EOk K C (wW ρ1 js) σ H1:=((I.frz f).same s).frz fz;generalize wW ρ1 js=ρ2 at fz I1 p0 fin;have P12: ∀{A':AS} {H':Hp},oC (Av C ρ2 σ) H1 A' H'->oC (Av C ρ1 σ) H1 A' H':=λp b o nb e=>p b o (λz=>nb (fz.av z)) e
 have I2:=cap_ok I1 hl nD;have own0: ∀{ρ':Ev} {σ':L2.St} {H':Hp},EOk K ⟨H1,Av C ρ2 σ⟩ ρ' σ' H'->oC (Av C ρ2 σ) H1 (Av ⟨H1,Av C ρ2 σ⟩ ρ' σ') H':=λ{ρ' σ' H'} J' b o nb e=>by
  refine⟨?_,J'.ext b o e⟩
  rintro(z| ⟨i,l,h1,h2⟩)
  .exact nb z
  .obtain⟨a,vs,h3,h4,h5,_⟩:=J'.ow i l h1;rw[h2]at h3;cases h3;have e':(⟨H1,Av C ρ2 σ⟩:C0).H0 b=some o:=e;rw[h5]at e';cases e'
 have sal:(xB σ cap last Dn)[last]? =some (some<|.ref Dn):=by
  unfold xB;exact kC (by rw[aF];exact hl)
 refine⟨λi m σ' H'=>m=n-i/\i<=n/\σ'[last]? =some (some<|.ref Dn)/\ ∃ρ',EOk K ⟨H1,Av C ρ2 σ⟩ ρ' σ' H'/\Pv i ρ',⟨n,rfl,dI _,sal,_,I2,p0⟩,?_⟩
 rintro i m σ' H' ⟨rfl,hi,hlast,ρ',J',p'⟩;have P:=P12 (own0 J')
 by_cases hlt:i<n
 .refine .inr ⟨ok.go _ _ i P hlt,λσ2 H2=>σ2[last]? =some (some<|.ref Dn)/\ ∃ρ3,EOk K ⟨H1,Av C ρ2 σ⟩ ρ3 σ2 H2/\Pv (i+1) ρ3,λσ2 H2 z=>⟨n-(i+1),aa,rfl,hlt,z⟩,λx H2 y=> ?_⟩
  obtain⟨s2,r2⟩:=ok.yld _ _ i x H2 P (λa z=>J'.avSome z) hlt y
  refine⟨_,ρ',.pu<|it i,H',_,J',s2,r2,turn i ρ' hlt p',λρ3 σ3 H3 q3 J3 same3=> ?_⟩
  have l3:σ3[last]? =some (some<|.ref Dn):=(same3 last hT).trans hlast;refine⟨_,ρ3,_,J3,q3,λc ρ4 H4 q4 f4 s4=> ?_⟩
  have J4:=(J3.frz f4).same s4;cases c with
  | false=>
   dsimp only at q4⊢;rw[a7 bJ]at q4⊢;exact⟨l3,ρ4,J4,q4⟩
  | true=>
   dsimp only at q4⊢;rw[a8 rfl]at q4⊢;exact em _ ρ4 _ _ Dn _ _ J4 l3 q4 λρ5 σ5 H5 J5 l5 q5=>⟨l5,ρ5,J5,q5⟩
 .have e:i=n:=aa
  subst e;obtain⟨l,hl5,q5⟩:=nM (fin ρ' p');obtain⟨a,vs,g1,g2,g3,g4⟩:=J'.ow last l hl5;rw[hlast]at g1;cases g1;refine .inl ⟨ok.stop _ _ P,k _ _ _ _ q5 (f.trans fz) (s.trans J'.ext) ⟨Dn,vs,rfl,s.free nD,g2,?_⟩⟩;refine g4.mono λb o nb e=>⟨?_,e⟩
  rintro(z|z)
  .exact nb (.inl z)
  .subst z;exact nb (.inr ⟨last,l,hl5,hlast⟩)
theorem jE: ∀{X:Cx},PTs X [] (lT X.K λρ Q=>Q true ρ):=λ{X} pins s σ H Q I ⟨C,ρ,Q0,J,h,k⟩=>dN5 pins s σ H Q I (k _ ρ H h (.refl _)<|.refl _)
theorem aI2 {t:UT}(h:PUT X c t):PTs X [c] (lT X.K t):=dN6 h
theorem d77 {iA:List Comprehension}{ui:UI}{g:UG}{T:List Nat}{tt:UT}{uem:(Ev->Prop)->Ev->Prop}{tem:Addr->L2.St->Hp->(L2.St->Hp->Prop)->Prop}(ek:dO0 X.K last uem tem)(hem: ∀it acc env,compTurn (.ListComp elt (⟨tg,iter,ifs,0⟩::iA) scope pos) 0 it acc env=aR9 (.ListComp elt (⟨tg,iter,ifs,0⟩::iA) scope pos) 0 tg iter.pos ifs (em acc env) it acc env)(hc:X.calm=true)(hi:PUI X tg iter ui)(S:gB X.env X.N N cap scope)
  (hN: ∀x,N[last]? =some x->scope.names.lookup x=none) (hl:last<cap.length) (hT:last ∉ T)
  (hg: ∀cl C s H fp pins,PUG (cG X N scope cl C s H fp pins) tg T g) (ht: ∀cl C s H fp pins,PTs (cG X N scope cl C s H fp pins) ifs<|lT X.K tt) (he: ∀cl C s H fp pins,PEm (cG X N scope cl C s H fp pins) em tem)
  (hs: ∀x,foldedSetIterable iter X.env x=pure x:=by intro _;rfl):PU X (.ListComp elt (⟨tg,iter,ifs,0⟩::iA) scope pos) (cJ6 js cap last ui g tt uem):=
 jF (dN7 (g:=lG X.K T g) (tt:=lT X.K tt) hem hc hi S hN hg ht he hs) (dW9 ek hl hT)
theorem dO1 {ui:UI}{g:UG}{T:List Nat}{tt:UT}{te:UE}(hc:X.calm=true)(hi:PUI X tg iter ui)(S:gB X.env X.N N cap scope)
  (hN: ∀x,N[last]? =some x->scope.names.lookup x=none) (hl:last<cap.length) (hT:last ∉ T)
  (hg: ∀cl C s H fp pins,PUG (cG X N scope cl C s H fp pins) tg T g) (ht: ∀cl C s H fp pins,PTs (cG X N scope cl C s H fp pins) ifs<|lT X.K tt) (he: ∀cl C s H fp pins,PU (cG X N scope cl C s H fp pins) elt te)
  (hs: ∀x,foldedSetIterable iter X.env x=pure x:=by intro _;rfl):PU X (.ListComp elt [⟨tg,iter,ifs,0⟩] scope pos) (gD js cap last ui g tt te):=
 d77 (js:=js) (d76 (te:=te)) (λ_ _ _=>rfl) hc hi S hN hl hT hg ht (λcl C s H fp pins=>cQ3 (he cl C s H fp pins)) hs
theorem c80 {iA:List Comprehension}{ui:UI}{g:UG}{T:List Nat}{tt:UT}{uem:(Ev->Prop)->Ev->Prop}{tem:Addr->L2.St->Hp->(L2.St->Hp->Prop)->Prop}(i:Nat)(ek:dO0 X.K last uem tem)(hem: ∀it acc env,compTurn (.ListComp elt (⟨tg,iter,ifs,0⟩::iA) scope pos) 0 it acc env=aR9 (.ListComp elt (⟨tg,iter,ifs,0⟩::iA) scope pos) 0 tg iter.pos ifs (em acc env) it acc env)(hc:X.calm=true)(hi:PUI X tg iter ui)(S:gB X.env X.N N cap scope)
  (hN: ∀x,N[last]? =some x->scope.names.lookup x=none) (hl:last<cap.length) (hT:last ∉ T)
  (hg: ∀cl C s H fp pins,PUG (cG X N scope cl C s H fp pins) tg T g) (ht: ∀cl C s H fp pins,PTs (cG X N scope cl C s H fp pins) ifs<|lT X.K tt) (he: ∀cl C s H fp pins,PEm (cG X N scope cl C s H fp pins) em tem)
  (hy:PG X (.Name y py) (aA5 i)) (hi': ∀pins σ H s,Inv X pins σ H s->i<σ.length) (hsw:↥(swapsWith (.ListComp elt (⟨tg,iter,ifs,0⟩::iA) scope pos) (some<|.Name y py) spos.line X.env=pure true))
  (hs: ∀x,foldedSetIterable iter X.env x=pure x:=by intro _;rfl):PUS X (.Assign [.Name y py] (.ListComp elt (⟨tg,iter,ifs,0⟩::iA) scope pos) spos) (cE i<|cJ6 js cap last ui g tt uem):=by
 intro pins s σ H D I q;refine cJ5 (g:=lG X.K T g) (tt:=lT X.K tt) hem hc hi S hN hg ht he hy hsw hs pins s σ H D I ?_;obtain⟨C,ρ,D0,J,h,k⟩:=q;exact dW9 ek hl hT σ H _ ⟨C,ρ,_,J,h,λb ρ1 v H1 q f s1 r=>k.nx _ _ _ q ((J.frz f).store s1 r<|hi' pins σ H s I)⟩
theorem cJ7 {ui:UI}{g:UG}{T:List Nat}{tt:UT}{te:UE}(i:Nat)(hc:X.calm=true)(hi:PUI X tg iter ui)(S:gB X.env X.N N cap scope)
  (hN: ∀x,N[last]? =some x->scope.names.lookup x=none) (hl:last<cap.length) (hT:last ∉ T)
  (hg: ∀cl C s H fp pins,PUG (cG X N scope cl C s H fp pins) tg T g) (ht: ∀cl C s H fp pins,PTs (cG X N scope cl C s H fp pins) ifs<|lT X.K tt) (he: ∀cl C s H fp pins,PU (cG X N scope cl C s H fp pins) elt te)
  (hy:PG X (.Name y py) (aA5 i)) (hi': ∀pins σ H s,Inv X pins σ H s->i<σ.length) (hsw:↥(swapsWith (.ListComp elt [⟨tg,iter,ifs,0⟩] scope pos) (some<|.Name y py) spos.line X.env=pure true))
  (hs: ∀x,foldedSetIterable iter X.env x=pure x:=by intro _;rfl):PUS X (.Assign [.Name y py] (.ListComp elt [⟨tg,iter,ifs,0⟩] scope pos) spos) (cE i<|gD js cap last ui g tt te):=
 c80 (js:=js) i (d76 (te:=te)) (λ_ _ _=>rfl) hc hi S hN hl hT hg ht (λcl C s H fp pins=>cQ3 (he cl C s H fp pins)) hy hi' hsw hs
end
end M
end
section
namespace L2
section
variable {X:Cx}
theorem cQ4 {bs:List Bool}: ∀{its:List Value},Vals (bs.map V.bl) its->LSm.BoolsAre its bs:=by
 induction bs with
 | nil=>intro its r;cases r;exact .nil
 | cons b bs ih=>
  intro its r;cases r with
  | cons r1 r2=>
   cases r1;exact .cons b (ih r2)
theorem cJ8 (hc:X.calm=true):qV X (.builtin "all") (λxs H Q=> ∃(p:Addr) (bs:List Bool),xs=[.ref p]/\SqL X.K H p (bs.map V.bl)/\Q (.bl<|bs.all id) H):=by
 intro pins s σ H xs us Q I r h;obtain⟨p,bs,rfl,hq,q⟩:=h;obtain⟨u,rfl,rx⟩:=vals1 r;cases rx;obtain⟨its,rv,pl,hz⟩:=I.list hq;have ba:=cQ4 rv;refine call_all_walk (a12 pl.isList ?_);have hne:p≠s.heap.objs.size:=by
  obtain⟨o,n,e,_⟩:=pl;exact b9 (aV e)
 refine⟨s.heap.objs.size,_,_,_,_,_,λi=>(bs[i]?).getD true,rfl,Walks.list (A:=X.A.in1) (I.ok.hd hc) s.heap.objs.size p (λz=>hne z) its.toArray,⟨⟨_,cO _ rfl,rfl,rfl⟩,pl.isList.push _⟩,?_,λh' tk hk=> ?_⟩
 .intro i v s' Q' E' hP hQ;obtain⟨b,hb,rfl⟩:=ba.get i v (by exists hP)
  refine mT ?_
  have e:(λi=>(bs[i]?).getD true) i=b:=by simp[hb]
  dsimp only at hQ;rw[hb]at hQ;exact hQ
 .have e:=LSm.range_all bs;have hl:=ba.length;have e2:its.toArray.size=bs.length:=by rw[b6,hl]
  rw[e2,e];exact⟨.bl<|bs.all id,H,I.kept λb o e=>hk b o (by simpa using b9 (aV e)) (bE _ e),rfl,q⟩
theorem cJ9 (hc:X.calm=true):qV X (.builtin "sum") (λxs H Q=> ∃(p:Addr) (ns:List Int),xs=[.ref p]/\SqL X.K H p (ns.map V.int)/\Q (.int ns.sum) H):=by
 intro pins s σ H xs us Q I r h;obtain⟨p,ns,rfl,hq,q⟩:=h;obtain⟨u,rfl,rx⟩:=vals1 r;cases rx;obtain⟨its,rv,pl,hz⟩:=I.list hq;have hi:IntsAre its ns:=by simpa using intsAre_of rv
 obtain⟨xs,hx⟩:=hi.allInts.items;have hl':s.heap.IsList p (intItems xs):=hx▸pl.isList;refine sum_intListG (I.ok.hd hc) hl' λh' tk t' hk=> ?_
 have e1:ns=xs.toList.map (·.1):=by
  rw[<-nums_intItems,<-hx];exact(show numsOf its.toArray.toList=ns from hi.numsOf).symm
 have e2:preSum (numAt xs) xs.size=ns.sum:=by
  rw[preSum_eq,aO3 ae,e1]
 rw[e2];exact⟨.int ns.sum,H,I.kept hk,⟨_,rfl⟩,q⟩
nonrec def zF (esc:List (Str×NameKind))(XN N:List Str)(cap:List (Option Nat))(scope:Scope)(last:Nat):Bool:=
 (scope.kind== .function)&&scope.names.all (λy=>y.2 != .cell||scope.names.lookup y.1==some .cell)&&scope.names.all (λy=>y.2 != .free||scope.names.lookup y.1==some .free)&&scope.names.all (λy=>y.2 != .local||scope.names.lookup y.1==some .local)&&
 scope.names.all (λy=>y.2 != .free||esc.lookup y.1==some .cell||esc.lookup y.1==some .free)&&
 (N.zip cap).all (λz=>match z.2 with|none=>true|some j=>XN[j]? ==some z.1&&scope.names.contains (z.1,.free)&&scope.names.lookup z.1==some .free)&&
 (cap.length==N.length)&&(match N[last]? with|some x=>(scope.names.lookup x).isNone|none=>true)
theorem gB.of {env:Env}(he:env.scope.names=esc)(h:zF esc XN N cap scope last=true) :
  gB env XN N cap scope/\ ∀x,N[last]? =some x->scope.names.lookup x=none:=by
 unfold zF at h;simp only[bP,cC,gA]at h;obtain⟨⟨⟨⟨⟨⟨⟨h1,h2⟩,h2'⟩,h3⟩,h4⟩,h5⟩,h6⟩,h7⟩:=h;have hk: ∀x,env.kindOf x=esc.lookup x:=λx=>by unfold Env.kindOf;rw[he]
 refine⟨⟨h1,λy hy hl=>by have:=h2 y hy;rw[hl]at this;simpa using this,λy hy hl=>by have:=h2' y hy;rw[hl]at this;simpa using this,λy hy hl=> ?_,λy hy hf=> ?_,λi j x e1 e2=> ?_,h6⟩,λx e=> ?_⟩
 .have:=h3 y hy;rw[hl]at this
  exists this
 .have:=h4 y hy;rw[hf]at this;rw[hk]
  exists this
 .have hm:(x,some j)∈N.zip cap:=by
   refine aP1 (i:=i) ?_
   rw[List.getElem?_zip_eq_some];exact⟨e1,e2⟩
  have:=h5 _ hm;simp only[bP,gA]at this;obtain⟨⟨a,b⟩,c⟩:=this;exact⟨a,by simpa using b,c⟩
 .rw[e]at h7
  exists h7
end
end L2
namespace M
section
variable {X:Cx}{K:Frag}{A:AS}{H:Hp}
nonrec def xY:List D->Option (List Bool)
 | []=>some []
 | .bl b::r=>(xY r).map (b::·)
 | _=>none
nonrec def b67:List D->Option (List Int)
 | []=>some []
 | .int b::r=>(b67 r).map (b::·)
 | _=>none
theorem a44 (bs:List Bool):xY (bs.map .bl)=some bs:=by
 induction bs with
 | nil=>rfl
 | cons b bs ih=>rw[cS];show(xY<|bs.map .bl).map _=_;rw[ih];rfl
theorem cY0 (bs:List Int):b67 (bs.map .int)=some bs:=by
 induction bs with
 | nil=>rfl
 | cons b bs ih=>rw[cS];show(b67<|bs.map .int).map _=_;rw[ih];rfl
theorem aS0: ∀{l:List D} {bs:List Bool} {vs:List V},xY l=some bs->cB K A H l vs->vs=bs.map V.bl
 | [],bs,vs,h,r=>by cases h;exact r.unnil
 | d::r,bs,vs,h,q=>by
  obtain⟨v,vr,rfl,rv,rr⟩:=q.uncons;cases d with
  | bl b=>
   have h':(xY r).map (b::·)=some bs:=h;cases e:xY r with
   | none=>rw[e]at h';cases h'
   | some bs'=>
    rw[e]at h';cases h';rw[a41 rv,aS0 e rr];rfl
  | _=>cases h
theorem bT5: ∀{l:List D} {bs:List Int} {vs:List V},b67 l=some bs->cB K A H l vs->vs=bs.map V.int
 | [],bs,vs,h,r=>by cases h;exact r.unnil
 | d::r,bs,vs,h,q=>by
  obtain⟨v,vr,rfl,rv,rr⟩:=q.uncons;cases d with
  | int b=>
   have h':(b67 r).map (b::·)=some bs:=h;cases e:b67 r with
   | none=>rw[e]at h';cases h'
   | some bs'=>
    rw[e]at h';cases h';rw[bW rv,bT5 e rr];rfl
  | _=>cases h
nonrec def cY1:List D->(B->Prop)->Prop:=g1 λd Q=>match d with
 | .lst l=>(match xY l with
  | some bs=>Q (.pu<|.bl<|bs.all id)
  | none=>False)
 | _=>False
theorem cK0 (hc:X.calm=true):xA X (.builtin "all") cY1:=by
 intro A H ds vs Q0 Q hA r g k;obtain⟨d,v,rfl,rfl,rv,g⟩:=a42 g r;cases d with
 | lst l=>
  dsimp only at g;cases e:xY l with
  | none=>rw[e]at g;exact g.elim
  | some bs=>
   rw[e]at g;simp only[Rep]at rv;obtain⟨a,vs,rfl,n,c,rs⟩:=rv;rw[aS0 e rs]at c;exact⟨_,cJ8 hc,a,bs,rfl,SqL.of c,k _ _ H g (.refl _) nY⟩
 | _=>exact(show False from g).elim
nonrec def gSum:List D->(B->Prop)->Prop:=g1 λd Q=>match d with
 | .lst l=>(match b67 l with
  | some ns=>Q (.pu<|.int ns.sum)
  | none=>False)
 | _=>False
theorem cu_sum (hc:X.calm=true):xA X (.builtin "sum") gSum:=by
 intro A H ds vs Q0 Q hA r g k;obtain⟨d,v,rfl,rfl,rv,g⟩:=a42 g r;cases d with
 | lst l=>
  dsimp only at g;cases e:b67 l with
  | none=>rw[e]at g;exact g.elim
  | some bs=>
   rw[e]at g;simp only[Rep]at rv;obtain⟨a,vs,rfl,n,c,rs⟩:=rv;rw[bT5 e rs]at c;exact⟨_,cJ9 hc,a,bs,rfl,SqL.of c,k _ _ H g (.refl _) aK3⟩
 | _=>exact(show False from g).elim
theorem cQ5 {i:Int}{t:Tok}(hg:Gl X x)(hm:X.mg x=some (.int i t))(hd:⇑(x∪0)):PU X (.Name x p) (uC<|.int i):=
 cP9 (cP0 (v:= .int i) hg hm ⟨t,rfl⟩ hd) λA H=>by simp only[Rep]
theorem cK1:bootBuiltins "all"=some (.builtin "all"):=af
theorem bt_sum:bootBuiltins "sum"=some (.builtin "sum"):=af
theorem aV7 {ui:UI}{g:UG}{T:List Nat}{tt:UT}{te:UE}(he0:X.env.scope.names=esc)(hx0:X.N=XN)(lk:zF esc XN N cap scope last=true)(hl:last<cap.length)(hT:last ∉ T)(hc:X.calm=true)(hi:PUI X tg iter ui)
  (hg: ∀cl C s H fp pins,PUG (cG X N scope cl C s H fp pins) tg T g) (ht: ∀cl C s H fp pins,PTs (cG X N scope cl C s H fp pins) ifs<|lT X.K tt) (he: ∀cl C s H fp pins,PU (cG X N scope cl C s H fp pins) elt te)
  (hs: ∀x,foldedSetIterable iter X.env x=pure x:=by intro _;rfl):PU X (.ListComp elt [⟨tg,iter,ifs,0⟩] scope pos) (gD js cap last ui g tt te):=
 dO1 hc hi (gB.of he0<|hx0▸lk).1 (gB.of he0<|hx0▸lk).2 hl hT hg ht he hs
theorem mZ {ui:UI}{g:UG}{T:List Nat}{tt:UT}{te:UE}(i:Nat)(he0:X.env.scope.names=esc)(hx0:X.N=XN)(lk:zF esc XN N cap scope last=true)(hl:last<cap.length)(hT:last ∉ T)(hc:X.calm=true)(hi:PUI X tg iter ui)
  (hg: ∀cl C s H fp pins,PUG (cG X N scope cl C s H fp pins) tg T g) (ht: ∀cl C s H fp pins,PTs (cG X N scope cl C s H fp pins) ifs<|lT X.K tt) (he: ∀cl C s H fp pins,PU (cG X N scope cl C s H fp pins) elt te)
  (hy:PG X (.Name y py) (aA5 i)) (hi': ∀pins σ H s,Inv X pins σ H s->i<σ.length) (hsw:↥(swapsWith (.ListComp elt [⟨tg,iter,ifs,0⟩] scope pos) (some<|.Name y py) spos.line X.env=pure true))
  (hs: ∀x,foldedSetIterable iter X.env x=pure x:=by intro _;rfl):PUS X (.Assign [.Name y py] (.ListComp elt [⟨tg,iter,ifs,0⟩] scope pos) spos) (cE i<|gD js cap last ui g tt te):=
 cJ7 i hc hi (gB.of he0<|hx0▸lk).1 (gB.of he0<|hx0▸lk).2 hl hT hg ht he hy hi' hsw hs
def aV8 (te:UE):US:=λD ρ=>te ρ λ_ ρ1=>D.nx ρ1
theorem cQ6 {te:UE}(he:PU X e te)(hs:↥(swapsWith e none pos.line X.env=pure false)):PUS X (.Expr e pos) (aV8 te):=
 uB (bX4 he hs) λD σ H ⟨C,ρ,D0,I,h,k⟩=>⟨C,ρ,_,I,h,λb ρ1 v H1 q f s r=>k.nx _ _ _ q ((I.frz f).same s)⟩
theorem jO: ∀ds ρ Q,pO ds ρ Q->ds.length=0:=λds ρ Q h=>by rw[h.1];rfl
theorem cK {u:UGs}(h: ∀ds ρ Q,u ds ρ Q->ds.length=n): ∀ds ρ Q,eH i u ds ρ Q->ds.length=n+1:=λds ρ Q q=>by
 cases ds with
 | nil=>exact(show False from q).elim
 | cons d r=>rw[dP,h r _ Q q.2]
end
theorem Fn.void {ps:List Str}(F:Fun K x qual st f fd)(m:mg x=some (.ref f))(b:Binds K fd ps [])(h: ∀ds Q,¬φ ds Q):Fn<$>x ps 1 φ:=
 ⟨f,fd,⟨λvs H Q E ⟨_,ds,Q0,_,_,z,_⟩=>absurd z (h ds Q0),λA outer s H args us vs Q E _ _ _ _ ⟨_,ds,Q0,_,_,z,_⟩=>absurd z (h ds Q0)⟩,b,F.kp,m⟩
end M
end
section
namespace HT
open PySem PyProof.Rows
end HT
namespace L2
end L2
namespace M
section
variable {X:Cx}{K:Frag}{A:AS}{H:Hp}{e e3:Expr}{t3:UE}{pos p2:Pos}
def gIn (neg:Bool)(d e:D)(Q:B->Prop):Prop:= ∃(i:Int) (js:List Int),d= .int i/\(e= .tup (js.map D.int)\/e= .lst (js.map D.int)\/e= .rol (js.map D.int))/\Q (.pu<|.bl<|neg ^^ decide (i∈js))
theorem cB.unints: ∀{js:List Int} {vs:List V},cB K A H (js.map D.int) vs->vs=js.map V.int
 | [],_,h=>by simp only[mV,cB]at h;exact h
 | j::js,vs,h=>by
  simp only[cS,cB]at h;obtain⟨v,vr,rfl,r,rs⟩:=h;rw[bW r,cB.unints rs];rfl
theorem d78 (i:Int)(js:List Int):inV (.int i) (js.map V.int)=decide (i∈js):=by
 unfold inV
 induction js with
 | nil=>rfl
 | cons j js ih=>
  rw[cS,any_cons,ih];show((j==i)||decide (i∈js))=decide (i∈j::js)
  by_cases h:j=i
  .subst h;simp
  .have h': ¬i=j:=λz=>h z.symm
   simp[h,h']
theorem b27 (js:List Int):(js.map V.int).all aV2=true:=by
 induction js with
 | nil=>rfl
 | cons j js ih=>rw[cS,all_cons,ih];rfl
theorem ou_inG {neg:Bool}{op:Value->Value->Sem Value}(ho:OpR X op (rIn X.K neg)):OpU X op (gIn neg):=by
 intro A H d e v w Q0 Q hA r1 r2 g k;obtain⟨i,js,rfl,he,g⟩:=g;have e1:=bW r1;subst e1;have fin:Q (.bl<|if neg=true then !inV (.int i) (js.map V.int)else inV (.int i) (js.map V.int)) H:=by
  rw[d78];refine k _ _ H g (.refl _) ?_;cases neg
  .rw[a7 ac,j9];exact nY
  .rw[a8 rfl,mU];exact nY
 rcases he with rfl|rfl|rfl
 .simp only[Rep]at r2;obtain⟨a,vs,rfl,c,rs⟩:=r2;have:=rs.unints;subst this;exact⟨_,ho,a,_,rfl,.inr<|c.imp cP id,rfl,b27 js,fin⟩
 .simp only[Rep]at r2;obtain⟨a,vs,rfl,n,c,rs⟩:=r2;have:=rs.unints;subst this;exact⟨_,ho,a,_,rfl,.inl<|SqL.of c,rfl,b27 js,fin⟩
 .simp only[Rep]at r2;obtain⟨a,vs,rfl,c,rs⟩:=r2;have:=rs.unints;subst this;exact⟨_,ho,a,_,rfl,.inl<|c.imp cP id,rfl,b27 js,fin⟩
theorem d79:OpU X (compareOp .NotIn) (gIn true):=ou_inG bY1
end
end M
end
section
namespace L2
nonrec def Itd (lo:Int)(n:Nat):It:={go:=λi _=>i<n,yld:=λi H x H'=>H'=H/\x=V.int (lo-(i:Int)),stop:=λi _=>n<=i}
theorem bT6 (it:Addr)(lo:Int)(n:Nat):cH5 P w K tg (Itd lo n) [it] it (λi h=>IsRangeIter h it (lo+(i:Nat)*(-1)) ((n:Int)-(i:Nat)) (-1)) where
 mem:=ae
 obj:=λi h st b hb=>by
  have e:b=it:=by exists hb
  subst e;exact⟨_,st,λv z=>by
   have z':Data.fields _=Data.cell v:=z;cases z'⟩
 keep:=λi h h' st k=>k it ae _ st
 item:=by
  intro X hP hw hK hc i pins s σ H E I hf st hg;subst hP hw hK;obtain⟨f0,f1,f2,f3,f4,f5⟩:=hf it ae
  have W:=Walks.range (prog:=X.prog) (w:=X.w) (I.ok.hd hc) it lo (-1) n;refine W.item i s _ _ hg st λv h' tk hv st' kk=> ?_
  obtain⟨t,rfl⟩:=hv;have I1:Inv X pins σ H {s with heap:=h',toks:=tk}:=I.turned (λb o hb e=>kk b o (by exists hb) e) f0 f1 f3 f4 f5
  refine⟨_,rfl,c67 (s:={s with heap:=h',toks:=tk}) (n:="range_iterator") st' rfl rfl ac ⟨.int<|lo-i,H,I1,⟨t,?_⟩,⟨rfl,rfl⟩,st',λb hb=>(hf b hb).1⟩⟩
  rw[show lo+((i:Nat):Int)*(-1)=lo-(i:Int)by lia]
 done:=by
  intro X hP hw hK hc i pins s σ H E I hf st hg;subst hP hw hK;obtain⟨f0,f1,f2,f3,f4,f5⟩:=hf it ae
  exact wpAny_pyNext_range_end (I.ok.hd hc) st (by have:n<=i:=hg;lia) λh' eb=>⟨rfl,I.turned (t':=s.toks) (λb o hb e=>eb b o hb e) f0 f1 f3 f4 f5⟩
 self:=λ_ _ _ _ _ st h=>aN9 st h
section
variable {X:Cx}{tg:Expr}
theorem bT7 (a b:Int):Builtin.Range.rangeSize a b (-1)=(((a-b).toNat:Nat):Int):=by
 unfold Builtin.Range.rangeSize;rw[a7 ac]
 split<;>simp<;>lia
theorem small_down {a b:Int}(h1: -(2^31)<=a)(h2:a<2^31)(h3: -(2^31)<=b)(h4:b<2^31):Builtin.Range.small a b (-1)=true:=by
 unfold Builtin.Range.small;rw[bT7];simp[Builtin.Range.rangeFitsLong];omega
theorem cK2 {σ:St}{H:Hp}{R:It->Hp->Prop}{hi:Int}{t u v:Tok}(I:Inv X pins σ H s)(h1: -(2^31)<=lo)(h2:lo<2^31)(h3: -(2^31)<=hi)(h4:hi<2^31)
  (q:R (Itd lo (lo-hi).toNat) H):X∩(pyIter<|.ref s.heap.objs.size) (PIE X pins σ tg R) E {s with heap:=s.heap.push {cls:= .type "range",data:= .fields #[.int lo t,.int hi u,.int (-1) v]},toks:=tk}:=by
 refine wpAny_pyIter_range (IsRange.new ..) (small_down h1 h2 h3 h4) ?_
 have I1:Inv X pins σ H {s with heap:=s.heap.push {cls:= .type "range",data:= .fields #[.int lo t,.int hi u,.int (-1) v]},toks:=tk}:=I.kept λb o e=>bE _ e
 refine⟨(s.heap.push {cls:= .type "range",data:= .fields #[.int lo t,.int hi u,.int (-1) v]}).objs.size,[(s.heap.push {cls:= .type "range",data:= .fields #[.int lo t,.int hi u,.int (-1) v]}).objs.size],_,_,H,rfl,
  I1.kept (t':=tk) λb o e=>bE _ e,bT6 _ lo (lo-hi).toNat,?_,λb hb=> ?_,q⟩
 .have e1:lo+((0:Nat):Int)*(-1)=lo:=ae
  have e2:(((lo-hi).toNat:Nat):Int)-((0:Nat):Int)=Builtin.Range.rangeSize lo hi (-1):=by rw[bT7];simp
  show IsRangeIter _ _ (lo+((0:Nat):Int)*(-1)) ((((lo-hi).toNat:Nat):Int)-((0:Nat):Int)) (-1)
  rw[e1,e2];exact cO _ rfl
 .have e:b=(s.heap.push {cls:= .type "range",data:= .fields #[.int lo t,.int hi u,.int (-1) v]}).objs.size:=by exists hb
  subst e;exact I1.fpOk (aG _) (I1.hok.fresh<|aG _)
def iRngD (ta:TA):TI:=λσ H R=>ta σ H λvs H1=> ∃i j:Int,vs=[.int i,.int j,.int<|-1]/\(-(2^31)<=i/\i<2^31/\ -(2^31)<=j/\j<2^31)/\R (Itd i (i-j).toNat) H1
theorem cY2 {a b:Expr}{ta:TA}(hg:Gl X "range")(hm:X.mg "range"=none)(ha:PA X [a,b,c] ta)(hs:↥(starEach [a,b,c] X.env=[(false,eval a X.env),(false,eval b X.env),(false,eval c X.env)]))(hs2:↥(starEach [b,c] X.env=[(false,eval b X.env),(false,eval c X.env)])) :
  PI X tg (.Call (.Name "range" p) [a,b,c] [] pos) (iRngD ta):=by
 intro pins s σ H R I h;refine Call_ (a38 I hg hm boot_range<|mM (thn (ha pos pins s σ H _ I h) λus s1 ⟨vs,H1,I1,r1,q1⟩=> ?_) (by rw[hs,hs2]) (by rw[hs2];rfl))
 obtain⟨i,j,e,⟨q1,q2,q3,q4⟩,q⟩:=q1;subst e;cases r1 with
 | cons r rr=>
  cases rr with
  | cons r' rr=>
   cases rr with
   | cons r'' rr=>
    cases rr;obtain⟨t,rfl⟩:=r;obtain⟨t',rfl⟩:=r';obtain⟨t'',rfl⟩:=r'';exact call_range_3 ac (cK2 I1 q1 q2 q3 q4 q) (.inl (by
     unfold Builtin.divisionGoesByPylong;simp;intro hz;have:Nat.log2 1=0:=ac
     lia))
end
end L2
namespace M
section
variable {X:Cx}{K:Frag}{H:Hp}{pos:Pos}
theorem bT8 {A:AS}:cJ2 K A H (Itd lo n) n (λi=> .int (lo-i)):=
 ⟨λ_ _ _ _ h=>h,λ_ _ i x H'' _ _ _ ⟨e,y⟩=>by subst e;subst y;exact⟨.refl _,by simp only[Rep]⟩,λ_ _ _=>aG n⟩
def cQ7 (ta:UA):UI:=λρ Q=>ta ρ λds ρ1=>match ds with
 | [.int i,.int j,.int m]=>m= -1/\(-(2^31)<=i/\i<2^31/\ -(2^31)<=j/\j<2^31)/\Q (i-j).toNat (λk=> .int (i-k)) ρ1
 | _=>False
theorem cY3 {a b:Expr}{ta:UA}(hg:Gl X "range")(hm:X.mg "range"=none)(ha:PUA X [a,b,c] ta)(hs:↥(starEach [a,b,c] X.env=[(false,eval a X.env),(false,eval b X.env),(false,eval c X.env)]))(hs2:↥(starEach [b,c] X.env=[(false,eval b X.env),(false,eval c X.env)])) :
  PUI X tg (.Call (.Name "range" p) [a,b,c] [] pos) (cQ7 ta):=
 bD9 (cY2 hg hm ha hs hs2) λσ H R ⟨C,ρ,Q0,I,h,k⟩=>⟨C,ρ,_,I,h,λds ρ1 vs H1 q f s r=>by
  split at q
  .rename_i i j m
   obtain⟨v,vr,rfl,rv,rr⟩:=r.uncons;obtain⟨w,wr,rfl,rw',rr'⟩:=rr.uncons;obtain⟨z,zr,rfl,rz,rr''⟩:=rr'.uncons;have:=rr''.unnil;subst this;have:=bW rv;subst this;have:=bW rw';subst this;have:=bW rz;subst this;obtain⟨hm,hb,q⟩:=q;subst hm;exact⟨i,j,rfl,hb,k _ _ ρ1 _ H1 q f s bT8⟩
  .exact q.elim⟩
end
end M
end
section
namespace L2
section
variable {X:Cx}{pins:List (Addr×Obj)}{σ:St}{H:Hp}{s:Shared}{h':Heap}
theorem Inv.turnedNew {o:HO}(I:Inv X pins σ H s)(k: ∀b u,b ∉ ch->s.heap.get? b=some u->h'.get? b=some u)(hf: ∀b∈ch,b19 X pins H b)
  (hp:s.heap.objs.size<=a) (new:t9 X.prog X.w (upd H a o) h' a o):Inv X pins σ (upd H a o) {s with heap:=h',toks:=t'}:=by
 have hn:H a=none:=I.hok.fresh hp;have nch: ∀b u,H b=some u->b ∉ ch:=λb u e z=>by have:=(hf b z).1;rw[e]at this;cases this
 refine I.step (g':=s.gens) (d':=s.drawn) (ch:=ch) (λb hb=>⟨(hf b hb).2.2.2.1,(hf b hb).2.1,(hf b hb).2.2.2.2.1,(hf b hb).2.2.2.2.2⟩) (λb u _ _ hc e _=>k b u hc e) (λb u _ _ hc e _=>⟨u.slots,k b u hc e⟩)
  (λb u _ e n=>by rw[cV<|b9<|bI (aV e) hp];exact n) (λb u hc e=>⟨u,k b u hc e⟩)
  (λb xs e=>by rw[cV<|dX e hn];exact e) (λb ob u e=>by rw[cV<|dX e hn];exact e) (λb ps e=>⟨#[],by rw[cV<|dX e hn,e];simp⟩) (λm hm=> ?_) (λb u e=> ?_) I.bare
 .obtain⟨ob,es,ep,ho,r⟩:=hm;exact⟨ob,es,ep,k _ ob (λz=>(hf _ z).2.1 rfl) ho,r⟩
 .by_cases hb:b=a
  .subst hb;rw[jM]at e;cases e;exact new
  .rw[cV hb]at e;refine(I.hok b u e).stay (λc v hc q=>k c v ?_ q) (λc q=>by rw[cV<|dX q hn];exact q) λc xs q=>by rw[cV<|dX q hn];exact q
   rcases hc with z|z
   .rw[z];exact nch b u e
   .exact nch c _ z
theorem Inv.turnedL (I:Inv X pins σ H s)(k: ∀b u,b ∉ ch->s.heap.get? b=some u->h'.get? b=some u)(hf: ∀b∈ch,b19 X pins H b):Inv X pins σ H {s with heap:=h',toks:=t'}:=by
 have nch: ∀b u,H b=some u->b ∉ ch:=λb u e z=>by have:=(hf b z).1;rw[e]at this;cases this
 refine I.step (g':=s.gens) (d':=s.drawn) (ch:=ch) (λb hb=>⟨(hf b hb).2.2.2.1,(hf b hb).2.1,(hf b hb).2.2.2.2.1,(hf b hb).2.2.2.2.2⟩) (λb u _ _ hc e _=>k b u hc e) (λb u _ _ hc e _=>⟨u.slots,k b u hc e⟩)
  (λb u _ e n=>n) (λb u hc e=>⟨u,k b u hc e⟩) (λb xs e=>e) (λb ob u e=>e) (λb ps e=>⟨#[],by rw[e];simp⟩) (λm hm=> ?_) (λb u e=> ?_) I.bare
 .obtain⟨ob,es,ep,ho,r⟩:=hm;exact⟨ob,es,ep,k _ ob (λz=>(hf _ z).2.1 rfl) ho,r⟩
 .refine(I.hok b u e).stay (λc v hc q=>k c v ?_ q) (λc q=>q) λc xs q=>q
  rcases hc with z|z
  .rw[z];exact nch b u e
  .exact nch c _ z
end
def b87 (T:Bool)(h:Heap)(a:Addr)(xs:Array Value):Prop:=match T with
 | false=>h.IsList a xs
 | true=>h.IsTuple a xs
def aV9 (T:Bool)(h:Heap)(it a:Addr)(i:Nat):Prop:=match T with
 | false=>h.IsListIter it a i
 | true=>h.IsTupleIter it a i
nonrec def b68 (T:Bool)(a:Addr):Obj:=match T with
 | false=>{cls:= .type "list_iterator",data:= .fields #[.ref a,.int 0 0]}
 | true=>{cls:= .type "tuple_iterator",data:= .fields #[.ref a,.int 0 0]}
def SqV (K:Frag)(T:Bool)(H:Hp)(a:Addr)(xs:List V):Prop:=match T with
 | false=>SqL K H a xs
 | true=>SqT K H a xs
theorem b87.at (x:b87 T h a xs)(e: ∀o,h.get? a=some o->h'.get? a=some o):b87 T h' a xs:=by
 cases T<;>(obtain⟨o,ho,r⟩:=x;exact⟨o,e o ho,r⟩)
theorem aV9.at (x:aV9 T h it a i)(e: ∀o,h.get? it=some o->h'.get? it=some o):aV9 T h' it a i:=by
 cases T<;>(obtain⟨o,ho,r⟩:=x;exact⟨o,e o ho,r⟩)
theorem b87.lt (x:b87 T h a xs):a<h.objs.size:=by
 cases T<;>(obtain⟨o,ho,r⟩:=x;exact aV ho)
theorem aV9.rec' (x:aV9 T h it a i): ∃o,h.get? it=some o/\ ∀v,o.data≠ .cell v:=by
 cases T<;>(obtain⟨o,ho,hc,hd⟩:=x;exact⟨o,ho,λv z=>by rw[hd]at z;cases z⟩)
theorem aV9.new (h:Heap)(a:Addr):aV9 T (h.push<|b68 T a) h.objs.size a 0:=by
 cases T<;>exact⟨_,cO _ rfl,rfl,rfl⟩
section
variable {X:Cx}{pins:List (Addr×Obj)}{σ:St}{H:Hp}{s:Shared}
theorem Inv.sq {xs:List V}(I:Inv X pins σ H s)(h:SqV X.K T H a xs): ∃its:List Value,Vals xs its/\b87 T s.heap a its.toArray/\xs.length<=sizeLine:=by
 cases T with
 | false=>obtain⟨its,rv,p,hz⟩:=I.list h;exact⟨its,rv,p.isList,hz⟩
 | true=>obtain⟨its,rv,p,hz⟩:=I.tuple h;exact⟨its,rv,p,hz⟩
theorem Inv.sq_inj {xs ys:List V}(I:Inv X pins σ H s)(h:SqV X.K T H a xs)(h':SqV X.K T H a ys):xs=ys:=by
 cases T with
 | false=>exact I.list_inj h h'
 | true=>exact I.tuple_inj h h'
end
section
variable {prog:Program}{w:World}{A:Around}{E:Value->Shared->Prop}{s:Shared}
theorem bT9 (hl:b87 T s.heap a xs)(hQ:Q (.ref s.heap.objs.size) {s with heap:=s.heap.push (b68 T a)}) :
  wpAny (model prog w) A (pyIter<|.ref a) Q E s:=by
 cases T with
 | false=>exact a12 hl hQ
 | true=>exact wpAny_pyIter_tuple hl hQ
theorem d80 {x:Value}(hit:s.heap.IsTupleIter it t i)(ht:s.heap.IsTuple t items)(hx:items[i]? =some x)
  (hQ: ∀h',h'.IsTupleIter it t (i+1)->SameBut it s.heap h'->Q x {s with heap:=h'}):wpAny (model prog w) A (Builtin.SmallTypes.nextOf<|.ref it) Q E s:=by
 obtain⟨oi,hoi,hci,hdi⟩:=id hit;obtain⟨ot,hot,_,nt,hdt⟩:=ht;unfold Builtin.SmallTypes.nextOf;refine a9 (rC (name:=Str.ofString "__next__") hit.typeIs a01<|jW a01 hit.typeIs PySem.F.entry_tuple_iterator_next ?_<|PySem.F.args_tuple_iterator_next_1 _);show wpAny _ _ (field (.ref it) 0 >>= _) _ _ s;refine a9 (iP hoi hdi (x:= .ref t) rfl ?_)
 show wpAny _ _ (if(Value.ref t==Value.none)=true then _ else _) _ _ s;rw[a7<|show ¬((Value.ref t==Value.none)=true)from bJ]
 show wpAny _ _ (field (.ref it) 1 >>= _) _ _ s;refine a9 (iP hoi hdi (x:= .int i 0) rfl ?_)
 show wpAny _ _ (seqItems? (.ref t) >>= _) _ _ s;refine a9 (wpAny_seqItems hot hdt ?_)
 simp only[jU,hx];refine a9 (vE hoi hdi ae<|aK ⟨x,rfl,aK<|hQ _ ⟨_,rD _ hoi<|aO6<|rM hdi _,(Obj.cls_mapFields ..).trans hci,?_⟩<|v5 ..⟩)
 rw[rM hdi];simp[rawInt]
theorem cY4 (hh:A.handled=none)(hit:s.heap.IsTupleIter it t i)(ht:s.heap.IsTuple t items)(hx:items[i]? =none)
  (hE: ∀h' e,ExtBut it s.heap h'->(∃o,h'.get? e=some o/\o.cls= .type "StopIteration")->E (.ref e) {s with heap:=h'}):wpAny (model prog w) A (Builtin.SmallTypes.nextOf<|.ref it) Q E s:=by
 obtain⟨oi,hoi,hci,hdi⟩:=id hit;obtain⟨ot,hot,_,nt,hdt⟩:=ht;unfold Builtin.SmallTypes.nextOf;refine a9 (rC (name:=Str.ofString "__next__") hit.typeIs a01<|jW a01 hit.typeIs PySem.F.entry_tuple_iterator_next ?_<|PySem.F.args_tuple_iterator_next_1 _);show wpAny _ _ (field (.ref it) 0 >>= _) _ _ s;refine a9 (iP hoi hdi (x:= .ref t) rfl ?_)
 show wpAny _ _ (if(Value.ref t==Value.none)=true then _ else _) _ _ s;rw[a7<|show ¬((Value.ref t==Value.none)=true)from bJ]
 show wpAny _ _ (field (.ref it) 1 >>= _) _ _ s;refine a9 (iP hoi hdi (x:= .int i 0) rfl ?_)
 show wpAny _ _ (seqItems? (.ref t) >>= _) _ _ s;refine a9 (wpAny_seqItems hot hdt ?_)
 simp only[jU,hx];refine a9 (vR<|a9<|vE hoi hdi ae ?_)
 show wpAny _ _ (newExc (.type "StopIteration") [] >>= _) _ _ _;refine a9 ?_;simp only[newExc,newTuple];refine a9 (lH ?_<|by size_fits)
 refine a9 (m:=firstArgMember _ _) (lL (a:=Value.none) (by first|rfl| (simp only[firstArgMember];rfl)) ?_);refine lH ?_ (by size_fits)
 simp only[raiseNew];refine a9 (wpAny_handled ?_);first|rw[show A.in1.handled=none from hh]|rw[hh]
 exact a9 (aK<|wpAny_throw<|hE _ _ (((v5 ..).extBut.push _).push _) ⟨_,cO _ rfl,rfl⟩)
theorem dO2 {T:Bool}{it a:Addr}{i:Nat}{xs:Array Value}{x:Value}{Q:Value->Shared->Prop}(hit:aV9 T s.heap it a i)(hl:b87 T s.heap a xs)(hx:xs[i]? =some x)
  (hQ: ∀h',aV9 T h' it a (i+1)->SameBut it s.heap h'->Q x {s with heap:=h'}):wpAny (model prog w) A (Builtin.SmallTypes.nextOf<|.ref it) Q E s:=by
 cases T with
 | false=>exact wpAny_nextOf_list_item hit hl hx hQ
 | true=>exact d80 hit hl hx hQ
theorem d81 {T:Bool}{it a:Addr}{i:Nat}{xs:Array Value}{Q:Value->Shared->Prop}(hh:A.handled=none)(hit:aV9 T s.heap it a i)(hl:b87 T s.heap a xs)(hx:xs[i]? =none)
  (hE: ∀h' e,ExtBut it s.heap h'->(∃o,h'.get? e=some o/\o.cls= .type "StopIteration")->E (.ref e) {s with heap:=h'}):wpAny (model prog w) A (Builtin.SmallTypes.nextOf<|.ref it) Q E s:=by
 cases T with
 | false=>exact wpAny_nextOf_list_end hh hit hl hx hE
 | true=>exact cY4 hh hit hl hx hE
end
theorem d82:2<=sizeLine:=ac
theorem c81 {prog:Program}(hh:A.handled=none)(it a:Addr)(hne:a≠it)(xs:Array Value):Draws prog w A it [it,a] xs.size (λi v=>xs[i]? =some v) (λi h=>aV9 T h it a i/\b87 T h a xs) where
 live:=λ_ _ st=>let ⟨o,ho,_⟩:=st.1.rec';⟨o,ho⟩
 frame:=λ_ _ _ st k=>⟨st.1.at λo e=>k it ae o e,st.2.at λo e=>k a ae o e⟩
 item:=λi s Q E hi st hQ=>dO2 st.1 st.2 (x:=xs[i]) (by simp[hi]) λh' hit' m=>hQ _ h' s.toks (by simp[hi]) ⟨hit',st.2.at λo e=>m.extBut _ _ hne e⟩ m
 done:=λs Q E st hE=>d81 hh st.1 st.2 ae hE
nonrec def Ite (K:Frag)(T:Bool)(l:Addr):It where
 go:=λi H=> ∃xs x,SqV K T H l xs/\xs[i]? =some x
 yld:=λi H v H'=> ∃Tn x,v= .ref Tn/\H Tn=none/\H'=upd H Tn (.tup [.int (i:Int),x])/\ ∀xs,SqV K T H l xs->xs[i]? =some x
 stop:=λi H=> ∃xs,SqV K T H l xs/\xs.length=i
def ESt (T:Bool)(e it l:Addr)(i:Nat)(h:Heap):Prop:=(∃old,IsEnum h e it i old)/\aV9 T h it l i
theorem ESt.objs {e:Addr}(st:ESt T e it l i h): ∀b∈[e,it],∃o,h.get? b=some o/\ ∀v,o.data≠ .cell v:=λb hb=>by
 obtain⟨⟨old,he⟩,h1⟩:=st;simp only[aT,eR,eW]at hb;rcases hb with rfl|rfl
 .exact⟨_,he,λv q=>by cases q⟩
 .exact h1.rec'
theorem cY5 {e:Addr}(hei:e≠it)(nl:l ∉ [e,it]):cH5 P w K (.Tuple elts kt tp) (Ite K T l) [e,it] e (ESt T e it l) where
 mem:=ae
 obj:=λi h st b hb=>st.objs b hb
 keep:=λi h h' st k=>by
  obtain⟨⟨old,he⟩,h1⟩:=st;exact⟨⟨old,k e ae _ he⟩,h1.at λo q=>k it ae o q⟩
 item:=by
  intro X hP hw hK hc i pins s σ H E I hf st hg;subst hP hw hK;obtain⟨xs,x,q1,e1⟩:=hg;obtain⟨is1,r1,p1,_⟩:=I.sq q1;obtain⟨u1,hu1,ru1⟩:=r1.get e1;simp only[aT,eR,eW,not_or]at nl;obtain⟨⟨old,he⟩,h1⟩:=id st;have hi:i<is1.toArray.size:=by rw[b6];exact(l8.mp hu1).1
  have D:=c81 (prog:=X.prog) (w:=X.w) (A:=X.A.in1) (T:=T) (I.ok.hd hc) it l nl.2 is1.toArray;refine wpAny_pyNext_enum_itemD D he ⟨h1,p1⟩ hi hei (by simp[hei,Ne.symm nl.1]) λv h' tk hv ho hs' ht hsz k=>⟨_,rfl,wpAny_letOwnedTupleGo_enum ho λh2 he2 m=> ?_⟩
  have ev:v=u1:=by
   have:is1.toArray[i]? =some u1:=by exists hu1
   rw[this]at hv;cases hv;rfl
  subst ev;have hne:s.heap.objs.size≠e:=ne_of_gt (aV he);have kk: ∀b u,b ∉ [e,it]->s.heap.get? b=some u->h2.get? b=some u:=λb u nb q=>by
   simp only[aT,eR,eW,not_or]at nb;exact m.extBut _ _ nb.1 (k b u nb.1 nb.2 q)
  have ht2:h2.get? s.heap.objs.size=some {cls:= .type "tuple",data:= .seq #[.int i tk,v]}:=m.extBut _ _ hne ht;refine⟨.ref s.heap.objs.size,upd H s.heap.objs.size<|.tup [.int (i:Int),x],I.turnedNew (t':=tk+1) kk hf (aG _) ⟨d82,[.int i tk,v],.cons ⟨tk,rfl⟩<|.cons ru1 .nil,⟨_,ht2,rfl,_,rfl⟩⟩,rfl,
   ⟨_,x,rfl,I.hok.fresh<|aG _,rfl,λxs' q=>by rw[I.sq_inj q q1];exact e1⟩,⟨⟨_,by exists he2⟩,hs'.1.at λo q=>m.extBut _ _ (Ne.symm hei) q⟩,λb hb=> ?_⟩
  obtain⟨o,ho',_⟩:=st.objs b hb;rw[cV<|b9<|aV ho'];exact(hf b hb).1
 done:=by
  intro X hP hw hK hc i pins s σ H E I hf st hg;subst hP hw hK;obtain⟨xs,q1,hl⟩:=hg;obtain⟨is1,r1,p1,_⟩:=I.sq q1;have l1':=r1.length;simp only[aT,eR,eW,not_or]at nl;obtain⟨⟨old,he⟩,h1⟩:=id st;have D:=c81 (prog:=X.prog) (w:=X.w) (A:=X.A.in1) (T:=T) (I.ok.hd hc) it l nl.2 is1.toArray
  refine wpAny_pyNext_enum_endD D he ⟨by rw[b6,<-l1',hl];exact h1,p1⟩ λh' ex=>⟨rfl,I.turnedL (t':=s.toks) (λb u nb q=>ex b u (λz=>nb (by simp[z])) q) hf⟩
 self:=λ_ _ _ _ _ st h=>by
  obtain⟨⟨old,he⟩,_⟩:=st;exact wpAny_pyIter_enum he h
theorem cY6 (l:Addr)(xs:Array Value):Meets (Builtin.«enumerate.__new__» ⟨[.type "enumerate",.ref l],[]⟩) (λ_ R s=>s.heap.IsTuple l xs/\
  R (.ok<|.ret<|.ref (s.heap.push<|b68 true l).objs.size) {s with heap:=(s.heap.push<|b68 true l).push {cls:= .type "enumerate",data:= .fields #[.none,.bool false,.ref s.heap.objs.size,rawInt 0,.none,.none]}}):= .of_wp λprog w A R s h=>by
 obtain⟨hp,g,d,tk,os⟩:=s;obtain⟨hl,h⟩:=h;obtain⟨⟨c,dct,dt,sl⟩,hg,hc,n,hd⟩:=id hl
 replace hc:c= .type "tuple":=hc
 replace hd:dt= .seq xs n:=hd
 subst hc hd;have hsub:=sub_enumerate;have e1:b87 true (Shared.heap ⟨hp,g,d,tk,os⟩) l xs:=hl
 wp_walk using aN3 hg
 refine wpAny_stack_any λst=>aK ?_
 split
 .rename_i c _ _ _ _ _
  cases (c==Value.type "enumerate")<;>(wp_walk using aN3 hg,bT9 e1;exact⟨_,rfl,h⟩)
 .wp_walk using aN3 hg,bT9 e1
  exact⟨_,rfl,h⟩
section
variable {prog:Program}{w:World}{A:Around}{E:Value->Shared->Prop}{s:Shared}
theorem cY7 {T:Bool}{l:Addr}{xs:Array Value}{Q:Value->Shared->Prop}(hl:b87 T s.heap l xs)
  (h: ∀h' e it,e≠it->s.heap.objs.size<=e->s.heap.objs.size<=it->ESt T e it l 0 h'->(∀c o,s.heap.get? c=some o->h'.get? c=some o)->Q (.ref e) {s with heap:=h'}) :
  wpAny (model prog w) A (call (.type "enumerate") [.ref l]) Q E s:=by
 cases T with
 | false=>exact call_enumerate_list hl λh' he hit hsz k=>h h' _ _ aa aa aa ⟨⟨_,he⟩,hit⟩ k
 | true=>
  refine callType_new PySem.F.called_enumerate ac (PySem.F.typeCall_enumerate_1 _) (PySem.F.newCall_enumerate_1 _) (λobj=>PySem.F.args_object_init_2 obj _) PySem.F.entry_enumerate_new (cY6 l xs) ⟨hl,?_⟩
  have z1:(s.heap.push<|b68 true l).objs.size=s.heap.objs.size+1:=rQ ..;have he:IsEnum ((s.heap.push<|b68 true l).push {cls:= .type "enumerate",data:= .fields #[.none,.bool false,.ref s.heap.objs.size,rawInt 0,.none,.none]}) (s.heap.push<|b68 true l).objs.size s.heap.objs.size 0 .none:=cO _ rfl
  have hi:aV9 true ((s.heap.push<|b68 true l).push {cls:= .type "enumerate",data:= .fields #[.none,.bool false,.ref s.heap.objs.size,rawInt 0,.none,.none]}) s.heap.objs.size l 0:=(aV9.new (T:=true) s.heap l).at λo e=>bE _ e
  exact⟨⟨_,he,rfl⟩,h _ _ _ (by rw[z1];omega) (by rw[z1];omega) (aG _) ⟨⟨_,he⟩,hi⟩ λc o e=>bE _ (bE _ e)⟩
end
section
variable {X:Cx}
def iEnum (K:Frag)(ta:TA):TI:=λσ H R=>ta σ H λvs H1=> ∃l T xs,vs=[.ref l]/\SqV K T H1 l xs/\R (Ite K T l) H1
theorem dO3 {a:Expr}{ta:TA}(hg:Gl X "enumerate")(hm:X.mg "enumerate"=none)(ha:PA X [a] ta)(hs:↥(starEach [a] X.env=[(false,eval a X.env)])) :
  PI X (.Tuple elts kt tp) (.Call (.Name "enumerate" p) [a] [] pos) (iEnum X.K ta):=by
 intro pins s σ H R I h;refine Call_ (a38 I hg hm PyProof.Rows.boot_enumerate<|mM (thn (ha pos pins s σ H _ I h) λus s1 ⟨vs,H1,I1,r1,q1⟩=> ?_) hs rfl)
 obtain⟨l,T,xs,e,q1,q⟩:=q1;subst e;obtain⟨u,rfl,r⟩:=vals1 r1;cases r;obtain⟨is1,_,p1,_⟩:=I1.sq q1;refine cY7 p1 λh' e it ne f1 f2 st k=> ?_
 obtain⟨⟨old,he⟩,_⟩:=id st;refine wpAny_pyIter_enum he ?_;have lt:=p1.lt;have fr: ∀b∈[e,it],s1.heap.objs.size<=b:=λb hb=>by
  simp only[aT,eR,eW]at hb;rcases hb with rfl|rfl
  .exact f1
  .exact f2
 exact⟨e,[e,it],_,_,H1,rfl,I1.kept (t':=s1.toks) k,cY5 ne λhb=>absurd (bI lt<|fr l hb) (dU _),st,λb hb=>I1.fpOk (fr b hb) (I1.hok.fresh<|fr b hb),q⟩
end
theorem b88:isSubtype (.type "range_iterator") (.type "reversed")=pure false:=by rw[rR];kernel_rfl
theorem b28 {n:Int}(h1: -(2^31)<=n)(h2:n<2^31):Builtin.Range.rangeFitsLong n=true:=by
 simp[Builtin.Range.rangeFitsLong]
 lia
nonrec def aW0 (n:Int):Obj:={cls:= .type "range_iterator",data:= .fields #[rawInt<|(n.toNat:Int)-1,rawInt (n.toNat:Int),rawInt<|-1]}
theorem bO4 (r:Addr)(a b c:Int)(t u v:Tok)(hc0: ¬(!(Builtin.Range.rangeFitsLong a&&Builtin.Range.rangeFitsLong b&&Builtin.Range.rangeFitsLong c&&Builtin.Range.rangeFitsLong (-c)&&Builtin.Range.rangeFitsLong (a-c)&&Builtin.Range.rangeFitsLong (Builtin.Range.rangeSize a b c)))=true) :
  Meets (Builtin.«range.__reversed__» ⟨[.ref r],[]⟩) (λ_ R s=>s.heap.get? r=some {cls:= .type "range",dict:=none,data:= .fields #[.int a t,.int b u,.int c v],slots:= #[]}/\
  R (.ok<|.ret<|Value.ref s.heap.objs.size) {s with heap:=s.heap.push {cls:=Value.type (if(Builtin.Range.rangeFitsLong a&&Builtin.Range.rangeFitsLong b&&Builtin.Range.rangeFitsLong c&&Builtin.Range.rangeFitsLong (-c)&&Builtin.Range.rangeFitsLong (a-c)&&Builtin.Range.rangeFitsLong (Builtin.Range.rangeSize a b c))=true then "range_iterator" else "longrange_iterator"),data:=Data.fields #[rawInt<|a+(Builtin.Range.rangeSize a b c-1)*c,rawInt<|Builtin.Range.rangeSize a b c,rawInt<|-c]},toks:=s.toks}):= .of_wp λprog w A R s h=>by
 obtain⟨hp,g,d,tk,os⟩:=s;obtain⟨hl,h⟩:=h
 wp_walk
 exact⟨_,rfl,h⟩
theorem b89 (r:Addr)(n:Int)(t u v:Tok)(h1: -(2^31)<=n)(h2:n<2^31):Meets (Builtin.«range.__reversed__» ⟨[.ref r],[]⟩) (λ_ R s=>IsRange s.heap r 0 n 1 t u v/\
  R (.ok<|.ret<|.ref s.heap.objs.size) {s with heap:=s.heap.push (aW0 n)}):=by
 have e0:Builtin.Range.rangeSize 0 n 1=(n.toNat:Int):=by rw[rangeSize_one];split<;>lia
 have sm:(Builtin.Range.rangeFitsLong 0&&Builtin.Range.rangeFitsLong n&&Builtin.Range.rangeFitsLong 1&&Builtin.Range.rangeFitsLong (-1)&&Builtin.Range.rangeFitsLong (0-1)&&Builtin.Range.rangeFitsLong (Builtin.Range.rangeSize 0 n 1))=true:=by
  rw[e0,b28 h1 h2,b28 (n:=0) ac ac,b28 (n:=1) ac ac,b28 (n:= -1) ac ac,b28 (n:=0-1) ac ac,b28 (n:=(n.toNat:Int)) ad ad]
  rfl
 have G:=bO4 r 0 n 1 t u v (by rw[sm];decide)
 intro prog w A R s h;refine G prog w A R s ⟨h.1,?_⟩;rw[sm,a8 rfl,e0];have e1:(0:Int)+((n.toNat:Int)-1)*1=(n.toNat:Int)-1:=ad
 rw[e1];exact h.2
section
variable {prog:Program}{w:World}{A:Around}{E:Value->Shared->Prop}{s:Shared}
theorem c82 {r:Addr}{n:Int}{t u v:Tok}{Q₁:Value->Shared->Prop}(hr:IsRange s.heap r 0 n 1 t u v)(h1: -(2^31)<=n)(h2:n<2^31)
  (h:Q₁ (.ref s.heap.objs.size) {s with heap:=s.heap.push (aW0 n)}) :
  codeAny (model prog w) A (.call (.builtin "reversed.__new__") ⟨[.type "reversed",.ref r],[]⟩) (wants Q₁ E) s:=by
 have hT:s.TypeIs (.ref r) "range":=⟨_,hr,rfl⟩;refine codeAny_of_tree ?_;show wpAny _ A.in1 (do checkBuiltinCall "reversed.__new__" ⟨[.type "reversed",.ref r],[]⟩;again (.builtin "reversed.__new__" ⟨[.type "reversed",.ref r],[]⟩)) _ _ s;refine a9 (lL (PySem.F.newCall_reversed_1 _)<|aK ⟨plainId_quiet PySem.F.plain_reversed_new _,codeAny_builtin PySem.F.entry_reversed_new ?_⟩)
 rw[Around.under_plainId PySem.F.plain_reversed_new _];unfold Builtin.«reversed.__new__»;refine a9 (lL (newClass_reversed _) ?_);try right
 refine a9 (lL (a:=()) (by first|rfl|kernel_rfl) ?_);refine a9 (lL (a:=()) (by first|rfl|kernel_rfl) ?_);try right
 refine a9 (wpAny_specialOf hT PySem.F.slot_range_reversed.lookup ?_);try right
 refine a9 (lL (PySem.F.slot_range_reversed.bind _) ?_);try right
 first
 | rw[a7<|show ¬((Value.builtin "range.__reversed__"==Value.none)=true)from bJ]
 | (show wpAny _ _ (if(Value.builtin "range.__reversed__"==Value.none)=true then _ else _) _ _ _;rw[a7<|show ¬((Value.builtin "range.__reversed__"==Value.none)=true)from bJ])
 refine a9 (vR ?_)
 refine a9 (m:=runValue (.call (.builtin "range.__reversed__") ⟨[.ref r],[]⟩)) (show wpAny _ _ (call (.builtin "range.__reversed__") [.ref r]) _ _ _ from mY PySem.F.slot_range_reversed hT PySem.F.entry_range_reversed (PySem.F.args_range_reversed_1 _) (b89 r n t u v h1 h2) ⟨hr,?_⟩)
 first
 | exact aK h
 | exact a9 (aK<|aK h)
theorem dO4 {r:Addr}{n:Int}{t u v:Tok}(hr:IsRange s.heap r 0 n 1 t u v)(h1: -(2^31)<=n)(h2:n<2^31)(h:Q (.ref s.heap.objs.size) {s with heap:=s.heap.push (aW0 n)}) :
  wpAny (model prog w) A (call (.type "reversed") [.ref r]) Q E s:=by
 refine callType_other (U:="range_iterator") (Q₁:=λobj s₁=>obj= .ref s.heap.objs.size/\s₁={s with heap:=s.heap.push (aW0 n)}) af PySem.F.create_reversed ⟨_,_,PySem.F.mro_reversed⟩ PySem.F.made_reversed b88 (PySem.F.typeCall_reversed_1 _) (c82 hr h1 h2 ⟨rfl,rfl⟩) ?_
 rintro obj s₁ ⟨rfl,rfl⟩;exact⟨⟨_,cO _ rfl,rfl⟩,h⟩
end
section
variable {X:Cx}{tg:Expr}
def iRevR (ta:TA):TI:=λσ H R=>ta σ H λvs H1=> ∃j:Int,vs=[.int j]/\ -(2^31)<=j/\j<2^31/\R (Itd ((j.toNat:Int)-1) j.toNat) H1
theorem c83 {a:Expr}{ta:TA}{pos2:Pos}(hg:Gl X "reversed")(hm:X.mg "reversed"=none)(hg2:Gl X "range")(hm2:X.mg "range"=none)(ha:PA X [a] ta)(hs:↥(starEach [a] X.env=[(false,eval a X.env)]))
  (hs2:↥(starEach [.Call (.Name "range" p2) [a] [] pos2] X.env=[(false,eval (.Call (.Name "range" p2) [a] [] pos2) X.env)])) :
  PI X tg (.Call (.Name "reversed" p) [.Call (.Name "range" p2) [a] [] pos2] [] pos) (iRevR ta):=by
 intro pins s σ H R I h;refine Call_ (a38 I hg hm PyProof.Rows.boot_reversed<|mM ?_ hs2 rfl);rw[hs2];show wpAny _ _ (spliced ((false,eval (.Call (.Name "range" p2) [a] [] pos2) X.env)::[])) _ _ s;refine Calls.spliced_cons (Call_<|a38 I hg2 hm2 boot_range<|mM (thn (ha pos2 pins s σ H _ I h) λus s1 ⟨vs,H1,I1,r1,q1⟩=> ?_) hs rfl)
 obtain⟨j,e,q1,q2,q⟩:=q1;subst e;obtain⟨u,rfl,t,rfl⟩:=vals1 r1;refine call_range_1 (Calls.spliced_nil ?_);have I2:Inv X pins σ H1 {s1 with heap:=s1.heap.push {cls:= .type "range",data:= .fields #[.int 0 s1.toks,.int j t,.int 1<|s1.toks+1]},toks:=s1.toks+1+1}:=I1.kept λb o e=>bE _ e
 refine dO4 (IsRange.new ..) q1 q2 ?_
 have hi:IsRangeIter (((s1.heap.push {cls:= .type "range",data:= .fields #[.int 0 s1.toks,.int j t,.int 1<|s1.toks+1]})).push<|aW0 j) (s1.heap.push {cls:= .type "range",data:= .fields #[.int 0 s1.toks,.int j t,.int 1<|s1.toks+1]}).objs.size ((j.toNat:Int)-1) (j.toNat:Int) (-1):=cO _ rfl;refine aN9 hi ?_
 refine⟨_,[(s1.heap.push {cls:= .type "range",data:= .fields #[.int 0 s1.toks,.int j t,.int 1<|s1.toks+1]}).objs.size],_,_,H1,rfl,I2.kept (t':=s1.toks+1+1) λb o e=>bE _ e,bT6 _ ((j.toNat:Int)-1) j.toNat,?_,λb hb=> ?_,q⟩
 .show IsRangeIter _ _ (((j.toNat:Int)-1)+((0:Nat):Int)*(-1)) ((j.toNat:Int)-((0:Nat):Int)) (-1)
  have e1:((j.toNat:Int)-1)+((0:Nat):Int)*(-1)=(j.toNat:Int)-1:=ae
  have e2:(j.toNat:Int)-((0:Nat):Int)=(j.toNat:Int):=ae
  rw[e1,e2];exact hi
 .have e:b=(s1.heap.push {cls:= .type "range",data:= .fields #[.int 0 s1.toks,.int j t,.int 1<|s1.toks+1]}).objs.size:=by exists hb
  subst e;exact I2.fpOk (aG _) (I2.hok.fresh<|aG _)
theorem d83:PGet X (rIxL X.K):=by
 intro pins s σ H o i ov iv Q I ro ri h;obtain⟨p,xs,k,z,rfl,rfl,hq,he,q⟩:=h;cases ro;obtain⟨t,rfl⟩:=ri;obtain⟨its,r,pl,hz⟩:=I.list hq;obtain⟨j,h1,h2,h3,h4,h5⟩:=bA9 he;obtain⟨w,ew,rw'⟩:=r.get h2;have hl:=r.length;have hn:=b20;have fin:EP X pins σ Q w s:=⟨z,H,I,rw',q⟩
 by_cases h0:0<=k
 .have hj:k.toNat=j:=by
   rw[a35 h0 h5]at h1;exact iN h1
  exact wpAny_getItem_list pl.isList h0 ad (by rw[hj];exists ew) fin
 .have hj:(k+(its.toArray.size:Int)).toNat=j:=by
   rw[a32 ad h4]at h1
   rw[b6,<-hl];exact iN h1
  exact wpAny_getItem_list_neg pl.isList ad (by rw[b6]<;>lia) ad (by rw[hj];exists ew) fin
end
end L2
namespace HT
open PySem PyProof.Rows
section
variable {prog:Program}{w:World}{A:Around}{E:Value->Shared->Prop}{s:Shared}
theorem getItem_tuple_whole {vl:Value}{lo:Option Int}(ht:IsTup s.heap t items)(hs:s.heap.IsSliceOf sl vl vu .none)(pl:IsPart vl lo)(pu:IsPart vu hi)
  (hw:sIx items.size 0 lo=0/\sIx items.size items.size hi=items.size) (h:Q (.ref t) s):wpAny (model prog w) A (getItem (.ref t)<|.ref sl) Q E s:=by
 obtain⟨os,hos,hcs,hds⟩:=id hs;have hTs:s.TypeIs (.ref sl) "slice":=⟨os,hos,hcs⟩;unfold getItem;try with_reducible refine iO ?_
 first|refine a9 (aK ?_)|skip
 refine a9 (wpAny_sequenceKey ht.typeIs ac ?_)
 refine a9 (rC (name:=Str.ofString "__getitem__") ht.typeIs a02<|jW a02 ht.typeIs entry_tuple_getitem ?_<|args_tuple_getitem _ _)
 show wpAny _ _ (Builtin.Tuple.tupleItemsOf (.ref t) >>= _) _ _ s
 refine a9 (tupleItemsOf_ ht ?_)
 refine a9 (a31 hTs ?_)
 rw[a8 ac]
 refine a9 (zC hs pl pu ?_)
 have hyes:(((sIx items.size 0 lo:Nat):Int)==0&&(1:Int)==1&&(sIx items.size items.size hi-sIx items.size 0 lo)==items.size)=true:=by
  rw[hw.1,hw.2];simp
 show wpAny _ _ (if(((sIx items.size 0 lo:Nat):Int)==0&&(1:Int)==1&&(sIx items.size items.size hi-sIx items.size 0 lo)==items.size)=true then _ else _) _ _ s
 rw[a8 hyes];show wpAny _ _ (Builtin.Tuple.tupleIsExact (.ref t) >>= _) _ _ s;unfold Builtin.Tuple.tupleIsExact;refine a9 (a9<|a31 ht.typeIs<|aK ?_);show wpAny _ _ (if(Value.type "tuple"==Value.type "tuple")=true then _ else _) _ _ s;rw[a8 ac]
 refine a9 (vR ?_)
 first
  | exact aK ⟨_,rfl,aK h⟩
  | exact a9 (aK<|aK ⟨_,rfl,aK h⟩)
  | exact a9 (aK ⟨_,rfl,aK h⟩)
end
end HT
namespace L2
section
variable {X:Cx}
def rSlW (K:Frag):V->Option Int->Option Int->Hp->VK->Prop:=λx lo hi H Q=> ∃a xs,x= .ref a/\SqT K H a xs/\(HT.sIx xs.length 0 lo=0/\HT.sIx xs.length xs.length hi=xs.length)/\Q (.ref a) H
theorem d84:SlR X (rSlW X.K):=by
 intro pins s σ H x v vl vu lo hi sl Q I rx hs pl pu h;obtain⟨a,xs,rfl,hx,hw,q⟩:=h;cases rx;obtain⟨its,r,ht,hz⟩:=I.tuple hx;have hlen:its.toArray.size=xs.length:=by rw[b6];exact r.length.symm
 exact⟨"tuple",_,PyProof.Rows.slot_tuple_getitem.lookup,ht.typeIs,HT.getItem_tuple_whole ht hs pl pu (by rw[hlen];exact hw) ⟨.ref a,H,I,rfl,q⟩⟩
end
end L2
namespace M
section
variable {X:Cx}{K:Frag}{A:AS}{H:Hp}{e a b:Expr}{te ti:UE}{pos p2:Pos}{C:C0}{ρ ρ':Ev}{σ:L2.St}
def gSlT (d:D)(lo hi:Option Int)(Q:B->Prop):Prop:=match d with
 | .tup l=>Q (.pu<|.tup<|cutD l lo hi)
 | .lst l=>Q (.ow<|cutD l lo hi)
 | .rol l=>Q (.ow<|cutD l lo hi)
 | _=>False
def uSlT (t:UE)(tl th:UO):UE:=λρ Q=>t ρ λb0 ρ1=>tl ρ1 λlo ρ2=>th ρ2 λhi ρ3=>gSlT b0.d lo hi λb=>Q b ρ3
theorem cY8 (l:List D)(lo hi:Option Int)(h:HT.sIx l.length 0 lo=0/\HT.sIx l.length l.length hi=l.length):cutD l lo hi=l:=by
 unfold cutD;rw[h.1,h.2];simp
theorem cY9 {tl th:UO}{lo hi:Option Expr}(he:PU X e te)(hl:PUO X lo tl)(hu:PUO X hi th):PU X (.Subscript e (.Slice lo hi none p2) pos) (uSlT te tl th):=
 jF (c72 ((cP8.or d55).or d84) he hl hu) λσ H Q ⟨C,ρ,Q0,I,h,k⟩=>⟨C,ρ,_,I,h,λb0 ρ1 v H1 q f s r=>by
  have I1:=(I.frz f).same s;have rr:=r.rep λa z=>I.avF f z
  refine⟨C,ρ1,_,I1,q,λl2 ρ2 H2 q2 f2 s2=> ?_⟩
  have I2:=(I1.frz f2).same s2;refine⟨C,ρ2,_,I2,q2,λh3 ρ3 H3 q3 f3 s3=> ?_⟩
  have I3:=(I2.frz f3).same s3;have s13:=s2.trans s3;have sAll:=s.trans s13;have fAll:=f.trans (f2.trans f3);have r':Rep X.K (Av C ρ3 σ) H3 b0.d v:=rr.mono (.sub s13 λa z=>f2.av (f3.av z))
  generalize b0.d=d at r' q3;cases d with
  | tup l=>
   have r2:=r';simp only[Rep]at r';obtain⟨a,vs,rfl,c,rs⟩:=r';have hlen:=rs.length
   by_cases hw:HT.sIx l.length 0 l2=0/\HT.sIx l.length l.length h3=l.length
   .refine .inr ⟨a,vs,rfl,c.imp cP id,by rw[<-hlen];exact hw,k _ ρ3 _ _ q3 fAll sAll ?_⟩
    show Rep _ _ _ (.tup<|cutD l l2 h3) _
    rw[cY8 l l2 h3 hw];exact r2
   .exact .inl (.inr ⟨a,vs,rfl,c.imp cP id,by rw[<-hlen];exact hw,λp n=>k _ ρ3 _ _ q3 fAll (sAll.trans<|fL n _) (kY (λa z=>I3.avSome z) n<|rs.cut l2 h3)⟩)
  | lst l=>
   simp only[Rep]at r';obtain⟨a,vs,rfl,n0,c,rs⟩:=r';exact .inl (.inl ⟨a,vs,rfl,SqL.of c,λp n=>k _ ρ3 _ _ q3 fAll (sAll.trans<|fL n _) (gO sAll n<|rs.cut l2 h3)⟩)
  | rol l=>
   simp only[Rep]at r';obtain⟨a,vs,rfl,c,rs⟩:=r';exact .inl (.inl ⟨a,vs,rfl,c.imp cP id,λp n=>k _ ρ3 _ _ q3 fAll (sAll.trans<|fL n _) (gO sAll n<|rs.cut l2 h3)⟩)
  | _=>exact(show False from q3).elim⟩
def d85 (i:Nat)(f:Int->Int->Int)(ti te:UE):US:=λD ρ=>qC ρ i λ_=>ti ρ λj ρ1=>qC ρ1 i λl1=> ∃k n x,j.d= .int k/\ixN l1.length k=some n/\l1[n]? =some (.int x)/\
 te ρ1 λb ρ2=>qC ρ2 i λl=> ∃y,b.d= .int y/\D.nx (ρ2.set i<|some<|.ow<|l.set n<|.int<|f x y)
theorem dO5 {ix:Expr}{op:Operator}{f:Int->Int->Int}(i:Nat)(hx:PE X (.Name x p) (aR6 i))(hi:PU X ix ti)(he:PU X e te)(hp:PIp X op (ipI f))
  (ha: ∀ov iv new,augStore ix ov iv new=(do holding [new,ov,iv] (setItem ov iv new);release [new,ov,iv] [];pure .next):=by intros;rfl):PUS X (.AugAssign (.Subscript (.Name x p) ix tpos) op e pos) (d85 i f ti te):=
 uB (dL2 hx hi d83 he hp c74 ha) λD σ H ⟨C,ρ,D0,I,h,k⟩=>by
  obtain⟨l,hl,h⟩:=nM h;obtain⟨a,vs,h1,h2,h3,h4⟩:=I.ow i l hl;refine⟨.ref a,h1,C,ρ,_,I,h,λj ρ1 w H1 q f1 s1 r1=> ?_⟩
  obtain⟨l1,hl1,kk,n,x0,ej,en,ex,q⟩:=nM q;have e1:=f1.ow hl1;rw[hl]at e1;cases e1;have I1:=(I.frz f1).same s1;obtain⟨a1,vs1,g1,g2,g3,g4⟩:=I1.ow i l hl1;rw[h1]at g1;cases g1;have rj:=r1.rep λa z=>I.avF f1 z
  rw[ej]at rj;have:=bW rj;subst this;obtain⟨v0,ev0,rv0⟩:=g4.get ex;have:=bW rv0;subst this;have hat:L2.atI vs1 kk=some (.int x0):=by unfold L2.atI;rw[<-g4.length,en];exact ev0
  refine⟨a,vs1,kk,_,rfl,rfl,SqL.of g2,hat,C,ρ1,_,I1,q,λb ρ2 w2 H2 q2 f2 s2 r2=> ?_⟩
  obtain⟨l2,hl2,y,eb,q2⟩:=nM q2;have e2:=f2.ow hl2;rw[hl1]at e2;cases e2;have I2:=(I1.frz f2).same s2;obtain⟨a2,vs2,k1,k2,k3,k4⟩:=I2.ow i l hl2;rw[h1]at k1;cases k1;have rb:=r2.rep λa z=>I1.avF f2 z
  rw[eb]at rb;have:=bW rb;subst this;exact⟨x0,y,rfl,rfl,a,vs2,kk,n,rfl,rfl,k2,by rw[<-k4.length];exact en,k.nx _ _ _ q2<|I2.write hl2 h1<|k4.set n<|show Rep _ _ _ _ _ by simp only[Rep]⟩
mutual
noncomputable def pd:D->Option PyData
 | .non=>some .none
 | .bl b=>some (.bool b)
 | .int i=>some (.int i)
 | .tup l=>(pdL l).map .tuple
 | .lst l=>(pdL l).map .list
 | .rol l=>(pdL l).map .list
 | .str s=>if PyData.canLay0 (.str s)=true then some (.str s)else none
 | .ty _=>none
 | .obj _ _ _=>none
 | .adr _=>none
 | .xob _ _ _ _=>none
noncomputable def pdL:List D->Option (List PyData)
 | []=>some []
 | d::r=>(pd d).bind λx=>(pdL r).map (x::·)
end
theorem aW1 {d:D}{r:List D}{xs:List PyData}(h:pdL (d::r)=some xs): ∃x ys,xs=x::ys/\pd d=some x/\pdL r=some ys:=by
 simp only[pdL]at h;cases e:pd d with
 | none=>rw[e]at h;cases h
 | some x=>
  rw[e]at h;cases e2:pdL r with
  | none=>rw[e2]at h;cases h
  | some ys=>rw[e2]at h;cases h;exact⟨x,ys,rfl,rfl,rfl⟩
theorem pR {α β:Type}{o:Option α}{f:α->β}{y:β}(h:o.map f=some y): ∃x,o=some x/\y=f x:=by
 cases o with
 | none=>cases h
 | some x=>cases h;exact⟨x,rfl,rfl⟩
mutual
theorem bE4: ∀(d:D) {x:PyData},pd d=some x->x.canLay0=true
 | .non,x,h=>by simp only[pd]at h;cases h;rfl
 | .bl b,x,h=>by simp only[pd]at h;cases h;rfl
 | .int i,x,h=>by simp only[pd]at h;cases h;rfl
 | .tup l,x,h=>by simp only[pd]at h;obtain⟨xs,e,rfl⟩:=pR h;simp only[PyData.canLay0];exact aI3 l e
 | .lst l,x,h=>by simp only[pd]at h;obtain⟨xs,e,rfl⟩:=pR h;simp only[PyData.canLay0];exact aI3 l e
 | .rol l,x,h=>by simp only[pd]at h;obtain⟨xs,e,rfl⟩:=pR h;simp only[PyData.canLay0];exact aI3 l e
 | .str s,x,h=>by simp only[pd]at h;split at h;(rename_i c;cases h;exact c);cases h
 | .ty _,x,h=>by simp only[pd]at h;cases h
 | .obj _ _ _,x,h=>by simp only[pd]at h;cases h
 | .adr _,x,h=>by simp only[pd]at h;cases h
 | .xob _ _ _ _,x,h=>by simp only[pd]at h;cases h
theorem aI3: ∀(l:List D) {xs:List PyData},pdL l=some xs->PyData.canLayAll0 xs=true
 | [],xs,h=>by simp only[pdL]at h;cases h;rfl
 | d::r,xs,h=>by
  obtain⟨x,ys,rfl,e1,e2⟩:=aW1 h;simp only[PyData.canLayAll0,bP];exact⟨bE4 d e1,aI3 r e2⟩
end
section
variable {pins:List (Addr×Obj)}{s:Shared}
mutual
theorem zG (I:Inv X pins σ H s): ∀(d:D) {x:PyData} {v:V} {u:Value},pd d=some x->Rep X.K A H d v->RelV v u-> ∃as,Reads s.heap u x as
 | .non,x,v,u,h,r,q=>by simp only[pd]at h;cases h;simp only[Rep]at r;subst r;cases q;exact⟨_,.none⟩
 | .bl b,x,v,u,h,r,q=>by simp only[pd]at h;cases h;simp only[Rep]at r;subst r;cases q;exact⟨_,.bool b⟩
 | .int i,x,v,u,h,r,q=>by simp only[pd]at h;cases h;simp only[Rep]at r;subst r;obtain⟨t,rfl⟩:=q;exact⟨_,.int i t⟩
 | .tup l,x,v,u,h,r,q=>by
  simp only[pd]at h;obtain⟨xs,e,rfl⟩:=pR h;simp only[Rep]at r;obtain⟨a,vs,rfl,c,rs⟩:=r;cases q;obtain⟨its,rv,⟨o,ho,hc,n,hd⟩,hz⟩:=I.tuple (c.imp cP id);obtain⟨as,ra⟩:=vW I l e rs rv;exact⟨_,.tuple ho hc hd<|by exists ra⟩
 | .lst l,x,v,u,h,r,q=>by
  simp only[pd]at h;obtain⟨xs,e,rfl⟩:=pR h;simp only[Rep]at r;obtain⟨a,vs,rfl,n0,c,rs⟩:=r;cases q;obtain⟨its,rv,p,hz⟩:=I.list (SqL.of c);obtain⟨o,ho,hc,n,hd⟩:=p.isList;obtain⟨as,ra⟩:=vW I l e rs rv;exact⟨_,.list ho hc hd<|by exists ra⟩
 | .rol l,x,v,u,h,r,q=>by
  simp only[pd]at h;obtain⟨xs,e,rfl⟩:=pR h;simp only[Rep]at r;obtain⟨a,vs,rfl,c,rs⟩:=r;cases q;obtain⟨its,rv,p,hz⟩:=I.list (c.imp cP id);obtain⟨o,ho,hc,n,hd⟩:=p.isList;obtain⟨as,ra⟩:=vW I l e rs rv;exact⟨_,.list ho hc hd<|by exists ra⟩
 | .str i,x,v,u,h,r,q=>by simp only[pd]at h;split at h<;>cases h;simp only[Rep]at r;subst r;obtain⟨t,rfl⟩:=q;exact⟨_,.str i t⟩
 | .ty _,x,v,u,h,r,q=>by simp only[pd]at h;cases h
 | .obj _ _ _,x,v,u,h,r,q=>by simp only[pd]at h;cases h
 | .adr _,x,v,u,h,r,q=>by simp only[pd]at h;cases h
 | .xob _ _ _ _,x,v,u,h,r,q=>by simp only[pd]at h;cases h
theorem vW (I:Inv X pins σ H s): ∀(l:List D) {xs:List PyData} {vs:List V} {us:List Value},pdL l=some xs->cB X.K A H l vs->Vals vs us-> ∃as,ReadsAll s.heap us xs as
 | [],xs,vs,us,h,r,q=>by simp only[pdL]at h;cases h;have:=r.unnil;subst this;cases q;exact⟨_,.nil⟩
 | d::l,xs,vs,us,h,r,q=>by
  obtain⟨x,ys,rfl,e1,e2⟩:=aW1 h;obtain⟨v,vr,rfl,r1,rs⟩:=r.uncons;cases q with
  | cons q1 q2=>
   obtain⟨as,h1⟩:=zG I d e1 r1 q1;obtain⟨bs,h2⟩:=vW I l e2 rs q2;exact⟨_,.cons h1 h2⟩
end
end
def cK3 (neg:Bool)(d e:D)(Q:B->Prop):Prop:= ∃p q,pd d=some p/\pd e=some q/\p.depth<=60/\Q (.pu<|.bl<|neg ^^ p.eqv q)
theorem d86 (hu:X.A.units+64<cLine):OpU X (compareOp .Eq) (cK3 false):=by
 intro A H d e v w Q0 Q hA r1 r2 g k;obtain⟨p,q,e1,e2,hd,g⟩:=g;refine⟨λx y H Q=> ∃(A:AS) (d e:D) (p q:PyData),Rep X.K A H d x/\Rep X.K A H e y/\pd d=some p/\pd e=some q/\p.depth<=60/\Q (.bl<|p.eqv q) H,?_,A,d,e,p,q,r1,r2,e1,e2,hd,k _ _ H g (.refl _) (by rw[j9];exact nY)⟩
 rintro pins s σ H x y v u Q I rx ry ⟨A,d,e,p,q,r1,r2,e1,e2,hd,h⟩;obtain⟨as,ra⟩:=zG I d e1 r1 rx;obtain⟨bs,rb⟩:=zG I e e2 r2 ry;exact SeqAt.compareEq_reads ra rb (bE4 d e1) (bE4 e e2) ad ⟨.bl _,H,I,rfl,h⟩
theorem ou_neD (hu:X.A.units+64<cLine):OpU X (compareOp .NotEq) (cK3 true):=by
 intro A H d e v w Q0 Q hA r1 r2 g k;obtain⟨p,q,e1,e2,hd,g⟩:=g;refine⟨λx y H Q=> ∃(A:AS) (d e:D) (p q:PyData),Rep X.K A H d x/\Rep X.K A H e y/\pd d=some p/\pd e=some q/\p.depth<=60/\Q (.bl<|!(p.eqv q)) H,?_,A,d,e,p,q,r1,r2,e1,e2,hd,k _ _ H g (.refl _) (by rw[mU];exact nY)⟩
 rintro pins s σ H x y v u Q I rx ry ⟨A,d,e,p,q,r1,r2,e1,e2,hd,h⟩;obtain⟨as,ra⟩:=zG I d e1 r1 rx;obtain⟨bs,rb⟩:=zG I e e2 r2 ry;exact SeqAt.compareNe_reads ra rb (bE4 d e1) (bE4 e e2) ad ⟨.bl _,H,I,rfl,h⟩
def SqA (K:Frag)(A:AS)(H:Hp)(T:Bool)(a:Addr)(vs:List V):Prop:=match T with
 | false=>(¬A a/\Rd H a (.lst vs))\/KL K a vs
 | true=>(¬A a/\Rd H a (.tup vs))\/KT K a vs
theorem SqA.sqv {a':Addr}{vs:List V}{A':AS}{H':Hp}(c:SqA K A H T a' vs)(P:oC A H A' H'):SqV K T H' a' vs:=by
 cases T<;>(rcases c with⟨n,c⟩|c;exact .inl (Rd.pres P n c).2;exact .inr c)
theorem oC.self:oC A H A H:=λ_ _ n e=>⟨n,e⟩
theorem Rep.sq {d:D}{v:V}{l:List D}(r:Rep K A H d v)(h:oE d=some l): ∃T a vs,v= .ref a/\SqA K A H T a vs/\cB K A H l vs:=by
 cases d with
 | tup l'=>cases h;simp only[Rep]at r;obtain⟨a,vs,e,c,r⟩:=r;exact⟨true,a,vs,e,c,r⟩
 | lst l'=>cases h;simp only[Rep]at r;obtain⟨a,vs,e,n,c,r⟩:=r;exact⟨false,a,vs,e,.inl ⟨n,.inl c⟩,r⟩
 | rol l'=>cases h;simp only[Rep]at r;obtain⟨a,vs,e,c,r⟩:=r;exact⟨false,a,vs,e,c,r⟩
 | _=>cases h
theorem cB.at {l:List D}{vs:List V}(r:cB K A H l vs)(hi:i<l.length): ∃x,vs[i]? =some x/\Rep K A H (l.getD i .non) x:=r.get (by rw[aL,aO hi];rfl)
theorem cZ0 {l1:Addr}{vs:List V}{l:List D}(c1:SqA K A H T l1 vs)(r1:cB K A H l vs):cJ2 K A H (Ite K T l1) l.length (λi=> .tup [.int (i:Int),l.getD i .non]):=by
 have k1:=r1.length;refine⟨λA' H' i P hi=> ?_,λA' H' i x H'' P hA hi y=> ?_,λA' H' P=>⟨vs,c1.sqv P,k1.symm⟩⟩
 .obtain⟨x,e1,_⟩:=r1.at hi;exact⟨vs,x,c1.sqv P,e1⟩
 .obtain⟨x1,e1,q1⟩:=r1.at hi;obtain⟨T,a,rfl,hT,rfl,ha⟩:=y;have ea:=ha vs (c1.sqv P);rw[e1]at ea;cases ea;exact⟨fL hT _,kY hA hT<|.cons (show Rep _ _ _ _ _ by simp only[Rep])<|.cons (q1.mono P) .nil⟩
def d87 (ta:UA):UI:=λρ Q=>ta ρ λds ρ1=>match ds with
 | [d]=>(match oE d with
  | some l=>Q l.length (λi=> .tup [.int (i:Int),l.getD i .non]) ρ1
  | none=>False)
 | _=>False
theorem dO6 {ta:UA}(hg:Gl X "enumerate")(hm:X.mg "enumerate"=none)(ha:PUA X [a] ta)(hs:↥(starEach [a] X.env=[(false,eval a X.env)])) :
  PUI X (.Tuple elts kt tp) (.Call (.Name "enumerate" p) [a] [] pos) (d87 ta):=
 bD9 (dO3 hg hm ha hs) λσ H R ⟨C,ρ,Q0,I,h,k⟩=>⟨C,ρ,_,I,h,λds ρ1 vs H1 q f s r=>by
  split at q
  .rename_i d
   obtain⟨v,vr,rfl,rv,rr⟩:=r.uncons;have:=rr.unnil;subst this;split at q
   .rename_i l e1
    obtain⟨T1,a1,us,rfl,c1,s1⟩:=rv.sq e1;exact⟨a1,T1,us,rfl,c1.sqv .self,k _ _ ρ1 _ H1 q f s<|cZ0 c1 s1⟩
   .exact q.elim
  .exact q.elim⟩
def d88 (ta:UA):UI:=λρ Q=>ta ρ λds ρ1=>match ds with
 | [.int j]=>(-(2^31)<=j/\j<2^31)/\Q j.toNat (λk=> .int ((j.toNat:Int)-1-k)) ρ1
 | _=>False
theorem dO7 {ta:UA}{q2 pos2:Pos}(hg:Gl X "reversed")(hm:X.mg "reversed"=none)(hg2:Gl X "range")(hm2:X.mg "range"=none)(ha:PUA X [a] ta)(hs:↥(starEach [a] X.env=[(false,eval a X.env)]))
  (hs2:↥(starEach [.Call (.Name "range" q2) [a] [] pos2] X.env=[(false,eval (.Call (.Name "range" q2) [a] [] pos2) X.env)])) :
  PUI X tg (.Call (.Name "reversed" p) [.Call (.Name "range" q2) [a] [] pos2] [] pos) (d88 ta):=
 bD9 (c83 hg hm hg2 hm2 ha hs hs2) λσ H R ⟨C,ρ,Q0,I,h,k⟩=>⟨C,ρ,_,I,h,λds ρ1 vs H1 q f s r=>by
  split at q
  .rename_i j
   obtain⟨v,vr,rfl,rv,rr⟩:=r.uncons;have:=rr.unnil;subst this;have:=bW rv;subst this;obtain⟨⟨h1,h2⟩,q⟩:=q;exact⟨j,rfl,h1,h2,k _ _ ρ1 _ H1 q f s bT8⟩
  .exact q.elim⟩
end
end M
end
section
namespace L2
theorem b29:fillsNumberSlot (.type "tuple") "mul"=pure false:=
 PySem.fillsNumberSlot_seq (id:="tuple.__mul__") (r:=some (.builtin "tuple.__rmul__")) PySem.F.slot_tuple_mul.lookup af PySem.F.slot_tuple_rmul.lookup af
theorem bZ5:seqRepeat? (.type "tuple")=pure (some<|.builtin "tuple.__mul__"):=by
 unfold seqRepeat?;rw[PySem.seqSlot_of (T:="tuple") (name:="__mul__") (id:="tuple.__mul__") PySem.F.slot_tuple_mul.lookup af,PySem.seqSlot_of (T:="tuple") (name:="__rmul__") (id:="tuple.__rmul__") PySem.F.slot_tuple_rmul.lookup af]
 rfl
theorem bE5 (a:Int)(t:Tok)(l:Addr)(items:Array Value)(n:Nat)(dd:Option Addr)(sl:Array (Option Value)) :
  Meets (Builtin.«int.__rmul__» ⟨[.int a t,.ref l],[]⟩) (λ_ R s=>s.heap.get? l=some {cls:= .type "tuple",dict:=dd,data:= .seq items n,slots:=sl}/\R (.ok<|.ret Value.notImplemented) s):=
 .of_wp λprog w A R s h=>by obtain⟨hp,g,d,tk,os⟩:=s;obtain⟨hl,h⟩:=h;wp_walk using lJ hl;exact⟨_,rfl,h⟩
theorem d89 (l:Addr)(items:Array Value)(n:Nat)(dd:Option Addr)(sl:Array (Option Value))(u:Tok) :
  Meets (Builtin.«tuple.__mul__» ⟨[.ref l,.int 1 u],[]⟩) (λ_ R s=>s.heap.get? l=some {cls:= .type "tuple",dict:=dd,data:= .seq items n,slots:=sl}/\R (.ok<|.ret<|.ref l) s):=
 .of_wp λprog w A R s h=>by
  obtain⟨hp,g,d,tk,os⟩:=s;obtain⟨hl,h⟩:=h;have f1:=aQ7
  wp_walk using lJ hl
  exact⟨_,rfl,h⟩
theorem d90 (l:Addr)(items:Array Value)(n:Nat)(dd:Option Addr)(sl:Array (Option Value))(k:Int)(u:Tok)(h1: ¬(k< -(2^63)||k≥2^63)=true)(hne: ¬(items.isEmpty||k==1)=true)(h0:(k<=0||items.isEmpty)=true) :
  Meets (Builtin.«tuple.__mul__» ⟨[.ref l,.int k u],[]⟩) (λ_ R s=>s.heap.get? l=some {cls:= .type "tuple",dict:=dd,data:= .seq items n,slots:=sl}/\R (.ok<|.ret<|.ref s.heap.objs.size) {s with heap:=s.heap.push {cls:= .type "tuple",data:= .seq #[]}}):=
 .of_wp λprog w A R s h=>by
  obtain⟨hp,g,d,tk,os⟩:=s;obtain⟨hl,h⟩:=h;have f1:=aQ7
  wp_walk using lJ hl
  rw[a7 h1]
  wp_walk using lJ hl
  exact⟨_,rfl,h⟩
theorem d91 (l:Addr)(items:Array Value)(n:Nat)(dd:Option Addr)(sl:Array (Option Value))(k:Int)(u:Tok)(h1: ¬(k< -(2^63)||k≥2^63)=true)(hne: ¬(items.isEmpty||k==1)=true)(h0: ¬(k<=0||items.isEmpty)=true)
  (h2: ¬items.size*k>(2^63-1)/8) (h3: ¬Builtin.Tuple.tupleTooMany (items.size*k)=true) (hz:(foldl (λx1 x2=>x1++x2) #[] (replicate k.toNat items)).size<=sizeLine) :
  Meets (Builtin.«tuple.__mul__» ⟨[.ref l,.int k u],[]⟩) (λ_ R s=>s.heap.get? l=some {cls:= .type "tuple",dict:=dd,data:= .seq items n,slots:=sl}/\R (.ok<|.ret<|.ref s.heap.objs.size) {s with heap:=s.heap.push {cls:= .type "tuple",data:= .seq (foldl (λx1 x2=>x1++x2) #[] (replicate k.toNat items))}}):=
 .of_wp λprog w A R s h=>by
  obtain⟨hp,g,d,tk,os⟩:=s;obtain⟨hl,h⟩:=h;have f1:=aQ7
  wp_walk using lJ hl
  rw[a7 h1]
  wp_walk using lJ hl
  rw[a7 h2]
  wp_walk using lJ hl
  all_goals first
   | exact⟨_,rfl,h⟩
   | (refine wpAny_ite_false (bZ<|Nat.not_lt.mpr hz) ?_
      wp_walk using lJ hl
      exact⟨_,rfl,h⟩)
section
variable {X:Cx}
theorem dO8:OpR X (binaryOp .Mult) (λx y H Q=> ∃a k xs,x= .ref a/\y= .int k/\SqT X.K H a xs/\xs≠[]/\ -(2^63)<=k/\k<2^63/\xs.length*k.toNat<=sizeLine/\(k=1->Q (.ref a) H)/\(k≠1-> ∀p,H p=none->Q (.ref p) (upd H p<|.tup (replicate k.toNat xs).flatten))):=by
 intro pins s σ H x y v u Q I rx ry h;obtain⟨a,k,xs,rfl,rfl,ha,hn,h1,h2,hz,q1,q2⟩:=h;cases rx;obtain⟨t,rfl⟩:=ry;obtain⟨its,r,p1,_⟩:=I.tuple ha;have hl:=r.length;obtain⟨⟨cls,dd,data,sl⟩,ho,hc,n,hd⟩:=id p1;simp only at hc hd;subst hc hd;have ne:its≠[]:=λz=>hn (oP.mp (by rw[hl,z];rfl))
 have ne2:its.toArray.isEmpty=false:=by cases its with
  | nil=>exact absurd rfl ne
  | cons b r'=>rfl
 have hb: ¬(decide (k< -(2^63))||decide (k≥2^63))=true:=by simp;omega
 have f0: ∀m:Nat,foldl (λx1 x2=>x1++x2) #[] (replicate m its.toArray)=(replicate m its).flatten.toArray:=λm=>by
  have:=foldl_rep its m [];rw[a22]at this;exact this
 refine wpAny_binaryOp_repeat_ref (T:="tuple") (U:="int") ac ⟨_,ho,rfl⟩ (λs'=>vQ s' k t) b29 PySem.F.fills_int_mul PySem.F.slot_int_rmul bZ5 PySem.F.slot_int_index.lookup
  (mY PySem.F.slot_int_rmul (vQ s k t) PySem.F.entry_int_rmul (PySem.F.args_int_rmul_2 _ _) (bE5 k t a its.toArray n dd sl) ⟨ho,rfl,⟨_,ho,rfl⟩,?_⟩)
 by_cases k1:k=1
 .subst k1;exact mY aO4 ⟨_,ho,rfl⟩ aN7 (aN4 _ _) (d89 a its.toArray n dd sl t) ⟨ho,.ref a,H,I,rfl,q1 rfl⟩
 have hne: ¬(its.toArray.isEmpty||k==1)=true:=by rw[ne2];exists k1
 by_cases k0:k<=0
 .have e0:k.toNat=0:=aa
  refine mY aO4 ⟨_,ho,rfl⟩ aN7 (aN4 _ _) (d90 a its.toArray n dd sl k t hb hne<|by simp[k0]) ⟨ho,?_⟩
  have q:=q2 k1;rw[e0]at q;exact⟨.ref _,_,I.laid (t':=s.toks) (o:= .tup []) (λb ob q=>bE _ q) (aG _) ⟨dI _,_,.nil,vS _ _⟩,rfl,q _ I.fresh⟩
 .have ek:k=(k.toNat:Int):=aa
  have em:(its.toArray.size:Int)*k=((its.toArray.size*k.toNat:Nat):Int):=by rw[a23,<-ek]
  have hs:its.toArray.size*k.toNat<=sizeLine:=by rw[b6,<-hl];exact hz
  have hcap:(sizeLine:Nat)<=(2^63-1)/8:=ac
  refine mY aO4 ⟨_,ho,rfl⟩ aN7 (aN4 _ _) (d91 a its.toArray n dd sl k t hb hne (by rw[ne2];simp;omega) (by rw[em];omega) (by rw[em];unfold Builtin.Tuple.tupleTooMany;rw[cR];omega) (by rw[f0,b6,bY4,mul_comm];exists hs)) ⟨ho,?_⟩
  rw[f0];exact⟨.ref _,_,I.laid (t':=s.toks) (o:= .tup (replicate k.toNat xs).flatten) (λb ob q=>bE _ q) (aG _) ⟨by rw[bY4,mul_comm];exact hz,_,r.rep k.toNat,vS _ _⟩,rfl,q2 k1 _ I.fresh⟩
end
theorem d92:typeLookup (.type "tuple") "__reversed__"=pure none:=by rw[a24,a06];kernel_rfl
theorem sub_tuple_dict:isSubtype (.type "tuple") (.type "dict")=pure false:=by rw[rR];kernel_rfl
theorem bU0:Manifest.owners.lookup (String.ofList ['d','e','s','r','e','v','e','r'].reverse)=some Manifest.sig_reversed:=by kernel_rfl
theorem oG:Slot "reversed" "__next__" "reversed.__next__":=
 .of (owner:="reversed") (n:="__next__") (by rw[a24,a06];kernel_rfl) af af af
  (by first|exact .inl af|exact .inr af) (by rw[rR];kernel_rfl)
theorem aB2:entryFor table "reversed.__next__"=some Builtin.«reversed.__next__» :=entryFor_of_tree (by kernel_rfl)
theorem a84 (a:Value):argsOk "reversed.__next__" ⟨[a],[]⟩:=by
 unfold argsOk;rw[signature?_of (id:="reversed.__next__") (n:=['_','_','t','x','e','n','_','_']) (o:=['d','e','s','r','e','v','e','r']) (by kernel_rfl) bU0];kernel_rfl
theorem aL3:Slot "reversed" "__iter__" "reversed.__iter__":=
 .of (owner:="reversed") (n:="__iter__") (by rw[a24,a06];kernel_rfl) af af af
  (by first|exact .inl af|exact .inr af) (by rw[rR];kernel_rfl)
theorem b90 (a:Value):argsOk "reversed.__iter__" ⟨[a],[]⟩:=by
 unfold argsOk;rw[signature?_of (id:="reversed.__iter__") (n:=['_','_','r','e','t','i','_','_']) (o:=['d','e','s','r','e','v','e','r']) (by kernel_rfl) bU0];kernel_rfl
theorem bE6:entryFor table "reversed.__iter__"=some Builtin.«dict_keyiterator.__iter__» :=
 entryFor_alias (id':="dict_keyiterator.__iter__") (by kernel_rfl) (by first|rfl|decide +kernel| (unfold String.splitOn;simp +decide [String.splitOnAux])) af (by kernel_rfl)
theorem bO5:Slot "reversed" "__init__" "object.__init__":=
 .of (owner:="object") (n:="__init__") (by rw[a24,a06];kernel_rfl) af af af
  (by first|exact .inl af|exact .inr af) (by rw[rR];kernel_rfl)
theorem cK4:TypeCalled "reversed" "reversed.__new__" "object.__init__":=
 ⟨af,af,⟨_,_,PySem.F.mro_reversed⟩,PySem.F.made_reversed,af,by rw[rR];kernel_rfl,bO5⟩
theorem dO9 (l:Addr)(items:Array Value)(hfit:(items.size:Int)<2^63) :
  Meets (Builtin.«reversed.__new__» ⟨[.type "reversed",.ref l],[]⟩) (λ_ R s=>s.heap.IsTuple l items/\R (.ok<|.ret<|.ref s.heap.objs.size) {s with heap:=s.heap.push {cls:= .type "reversed",data:= .fields #[.ref l,rawInt<|(items.size:Int)-1]},toks:=s.toks+1+1}):=
 .of_wp λprog w A R s h=>by
  obtain⟨hp,g,d,tk,os⟩:=s;obtain⟨ht,h⟩:=h;obtain⟨⟨c,dct,dt,sl⟩,hl,hc,n,hd⟩:=id ht
  replace hc:c= .type "tuple":=hc
  replace hd:dt= .seq items n:=hd
  subst hc hd;have f1:=PySem.F.sub_reversed_self;have f2:=d92;have f4:=PySem.F.slot_tuple_getitem.lookup;have f5:=sub_tuple_dict;have e1:IsTup (Shared.heap ⟨hp,g,d,tk,os⟩) l items:=ht
  wp_walk using lJ hl,PyProof.Rows.len_tuple e1 hfit
  exact⟨_,rfl,h⟩
def vX (h:Heap)(a l:Addr)(i:Int):Prop:= ∃o,h.get? a=some o/\o.cls= .type "reversed"/\o.data= .fields #[.ref l,rawInt i]
theorem vX.at {i:Int}(x:vX h a l i)(e: ∀o,h.get? a=some o->h'.get? a=some o):vX h' a l i:=let ⟨o,ho,r⟩:=x;⟨o,e _ ho,r⟩
section
variable {prog:Program}{w:World}{A:Around}{E:Value->Shared->Prop}{s:Shared}
theorem vX.typeIs {i:Int}(x:vX s.heap a l i):s.TypeIs (.ref a) "reversed":=let ⟨o,ho,hc,_⟩:=x;⟨o,ho,hc⟩
theorem d93 (hl:s.heap.IsTuple l items)(hfit:(items.size:Int)<2^63)
  (h:Q (.ref s.heap.objs.size) {s with heap:=s.heap.push {cls:= .type "reversed",data:= .fields #[.ref l,rawInt<|(items.size:Int)-1]},toks:=s.toks+1+1}) :
  wpAny (model prog w) A (call (.type "reversed") [.ref l]) Q E s:=
 callType_new cK4 ac (PySem.F.typeCall_reversed_1 _) (PySem.F.newCall_reversed_1 _) (λobj=>PySem.F.args_object_init_2 obj _) PySem.F.entry_reversed_new (dO9 l items hfit) ⟨hl,⟨_,cO _ rfl,rfl⟩,h⟩
theorem bE7 {i:Int}(hit:vX s.heap it l i)(h:Q (.ref it) s):wpAny (model prog w) A (pyIter<|.ref it) Q E s:=by
 refine wpAny_pyIter_slot hit.typeIs aL3 (jW aL3 hit.typeIs bE6 ?_<|b90 _)
 show wpAny _ _ (ret<|.ref it) _ _ s
 exact aK ⟨_,rfl,"reversed",_,hit.typeIs,oG.lookup,h⟩
theorem d94 {x:Value}{Q:Option Value->Shared->Prop}(hit:vX s.heap it l (i:Int))(hl:s.heap.IsTuple l items)(hx:items[i]? =some x)(hfit:(i:Int)<2^63)
  (hQ: ∀h' tk,vX h' it l ((i:Int)-1)->SameBut it s.heap h'->Q (some x) {s with heap:=h',toks:=tk}):wpAny (model prog w) A (pyNext<|.ref it) Q E s:=by
 obtain⟨o,ho,hc,hd⟩:=id hit;have hlt:i<items.size:=(Array.getElem?_eq_some_iff.mp hx).1;have hi:seqIndex? (i:Int) items.size=some i:=by
  unfold seqIndex?;simp
  lia
 have tl:s.TypeIs (.ref l) "tuple":=hl.typeIs;unfold pyNext;refine a9 (wpAny_attempt (rC (name:=Str.ofString "__next__") hit.typeIs oG
  (jW oG hit.typeIs aB2 ?_<|a84 _)))
 unfold Builtin.«reversed.__next__»;refine a9 (lL (a:=(Value.ref it,[])) rfl ?_);try right
 refine a9 (iP ho hd (x:= .ref l) rfl ?_)
 refine a9 (iP ho hd (x:=rawInt (i:Int)) rfl ?_)
 show wpAny _ _ (if(i:Int)<0 then _ else _) _ _ s
 rw[a7 ad]
 try right
 refine a9 (wpAny_specialOf tl PySem.F.slot_tuple_getitem.lookup ?_)
 try right
 rw[a7 ae]
 refine a9 (wpAny_mkInt ?_)
 have ht:IsTup s.heap l items:=hl;refine a9 (wpAny_attempt<|PyProof.Rows.getItem_tuple (s:={s with toks:=s.toks+1}) ht ad hfit hi hx ?_)
 try right
 refine a9 (iP ho hd (x:=rawInt (i:Int)) rfl ?_)
 show wpAny _ _ (setField (.ref it) 1 (rawInt<|(i:Int)-1) >>= _) _ _ _
 refine a9 (vE ho hd ae ?_)
 refine aK ⟨x,rfl,aK<|hQ _ _ ?_<|v5 ..⟩
 exact⟨_,rD _ ho<|aO6<|rM hd _,(Obj.cls_mapFields ..).trans hc,by
  rw[rM hd];simp⟩
theorem dP0 {it l:Addr}{Q:Option Value->Shared->Prop}(hh:A.handled=none)(hit:vX s.heap it l (-1))
  (hQ: ∀h',ExtBut it s.heap h'->Q none {s with heap:=h'}):wpAny (model prog w) A (pyNext<|.ref it) Q E s:=by
 obtain⟨o,ho,hc,hd⟩:=id hit;unfold pyNext;refine a9 (wpAny_attempt (rC (name:=Str.ofString "__next__") hit.typeIs oG
  (jW oG hit.typeIs aB2 ?_<|a84 _)))
 unfold Builtin.«reversed.__next__»;refine a9 (lL (a:=(Value.ref it,[])) rfl ?_);try right
 refine a9 (iP ho hd (x:= .ref l) rfl ?_)
 refine a9 (iP ho hd (x:=rawInt (-1)) rfl ?_)
 show wpAny _ _ (if(-1:Int)<0 then _ else _) _ _ s
 rw[a8 ac]
 refine a9 (vR ?_)
 refine a9 ?_
 show wpAny _ _ (setField (.ref it) 1 (rawInt<|-1) >>= λ_=>setField (.ref it) 0 .none) _ _ s
 refine a9 (vE ho hd ae ?_)
 refine vE (rD _ ho<|aO6<|rM hd _) (rM hd _) ae ?_
 first
 | show wpAny _ _ (newExc (.type "StopIteration") [] >>= _) _ _ _
 | (refine a9 ?_;show wpAny _ _ (newExc (.type "StopIteration") [] >>= _) _ _ _)
 refine a9 ?_
 simp only[newExc,newTuple];refine a9 (lH ?_<|by size_fits)
 refine a9 (m:=firstArgMember _ _) (lL (a:=Value.none) (by first|rfl| (simp only[firstArgMember];rfl)) ?_)
 refine lH ?_ (by size_fits)
 simp only[raiseNew];refine a9 (wpAny_handled ?_)
 first|rw[show A.in1.handled=none from hh]|rw[hh]
 refine a9 (aK<|wpAny_throw ?_)
 refine a9 (wpAny_isInstance (T:="StopIteration") (b:=true) ⟨_,cO _ rfl,rfl⟩ isSubtype_stop ?_)
 refine aK (hQ _ ?_)
 exact((((v5 ..).trans<|v5 ..).extBut.push _).push _)
end
nonrec def Itv (K:Frag)(l:Addr)(n:Nat):It where
 go:=λi H=>i<n/\ ∃xs,SqT K H l xs/\xs.length=n
 yld:=λi H v H'=>H'=H/\ ∀xs,SqT K H l xs->xs[n-1-i]? =some v
 stop:=λi H=>i=n
theorem d95 (n:Nat)(hz:n<=sizeLine):cH5 P w K tg (Itv K l n) [it] it (λi h=>vX h it l ((n:Int)-1-(i:Int))) where
 mem:=ae
 obj:=λi h st b hb=>by
  have e:b=it:=by exists hb
  subst e;obtain⟨o,ho,_,hd⟩:=st;exact⟨o,ho,λv z=>by rw[hd]at z;cases z⟩
 keep:=λi h h' st k=>st.at λo e=>k it ae _ e
 item:=by
  intro X hP hw hK hc i pins s σ H E I hf st hg;subst hP hw hK;obtain⟨f0,f1,f2,f3,f4,f5⟩:=hf it ae
  obtain⟨hi,xs,hq,hl⟩:=hg;obtain⟨its,r,p,_⟩:=I.tuple hq;have hlen:=r.length;have hx:xs[n-1-i]? =some (xs[n-1-i]'ad):=aO ad
  obtain⟨u1,hu1,ru1⟩:=r.get hx;have e1:(n:Int)-1-(i:Int)=((n-1-i:Nat):Int):=ad
  have st':=st;rw[e1]at st';have big:(sizeLine:Int)<2^63:=ac
  refine d94 (items:=its.toArray) (x:=u1) st' p (by exists hu1) ad λh' tk hr m=> ?_
  have I1:Inv X pins σ H {s with heap:=h',toks:=tk}:=I.turned (λb o hb e=>m.extBut _ _ (by exists hb) e) f0 f1 f3 f4 f5
  have e2:((n-1-i:Nat):Int)-1=(n:Int)-1-((i+1:Nat):Int):=ad
  rw[e2]at hr;obtain⟨o,ho,hoc,hod⟩:=id hr;exact⟨_,rfl,c67 (s:={s with heap:=h',toks:=tk}) (n:="reversed") ho hoc hod ac ⟨xs[n-1-i]'ad,H,I1,ru1,⟨rfl,λys hy=>by rw[I.tuple_inj hy hq];exact hx⟩,hr,λb hb=>(hf b hb).1⟩⟩
 done:=by
  intro X hP hw hK hc i pins s σ H E I hf st hg;subst hP hw hK;obtain⟨f0,f1,f2,f3,f4,f5⟩:=hf it ae
  have hg':i=n:=hg;have st':=st;rw[hg',show(n:Int)-1-(n:Int)= -1 by lia]at st'
  exact dP0 (I.ok.hd hc) st' λh' eb=>⟨rfl,I.turned (t':=s.toks) (λb o hb e=>eb b o hb e) f0 f1 f3 f4 f5⟩
 self:=λ_ _ _ _ _ st h=>bE7 st h
section
variable {X:Cx}{tg:Expr}
def iRevT (K:Frag)(ta:TA):TI:=λσ H R=>ta σ H λvs H1=> ∃l xs,vs=[.ref l]/\SqT K H1 l xs/\R (Itv K l xs.length) H1
theorem dP1 {a:Expr}{ta:TA}(hg:Gl X "reversed")(hm:X.mg "reversed"=none)(ha:PA X [a] ta)(hs:↥(starEach [a] X.env=[(false,eval a X.env)])) :
  PI X tg (.Call (.Name "reversed" p) [a] [] pos) (iRevT X.K ta):=by
 intro pins s σ H R I h;refine Call_ (a38 I hg hm PyProof.Rows.boot_reversed<|mM (thn (ha pos pins s σ H _ I h) λus s1 ⟨vs,H1,I1,r1,q1⟩=> ?_) hs rfl)
 obtain⟨l,xs,e,q1,q⟩:=q1;subst e;obtain⟨u,rfl,r⟩:=vals1 r1;cases r;obtain⟨its,rv,p1,hz⟩:=I1.tuple q1;have hl:=rv.length;have big:(sizeLine:Int)<2^63:=ac
 refine d93 p1 (by rw[b6];lia) ?_
 have hi:vX (s1.heap.push {cls:= .type "reversed",data:= .fields #[.ref l,rawInt<|(its.toArray.size:Int)-1]}) s1.heap.objs.size l ((xs.length:Int)-1-((0:Nat):Int)):=⟨_,cO _ rfl,rfl,by
  rw[b6,hl];simp⟩
 refine bE7 (s:={s1 with heap:=s1.heap.push {cls:= .type "reversed",data:= .fields #[.ref l,rawInt<|(its.toArray.size:Int)-1]},toks:=s1.toks+1+1}) hi ?_
 refine⟨_,[s1.heap.objs.size],_,_,H1,rfl,I1.kept (t':=s1.toks+1+1) λb o e=>bE _ e,d95 xs.length hz,hi,λb hb=> ?_,q⟩
 have e:b=s1.heap.objs.size:=by exists hb
 subst e;exact I1.fpOk (aG _) (I1.hok.fresh<|aG _)
end
end L2
namespace M
section
variable {X:Cx}{A:AS}{H:Hp}{K:Frag}{pos:Pos}{a:Expr}
theorem cZ1 {l1:Addr}{vs:List V}{l:List D}(c1:SqA K A H true l1 vs)(r1:cB K A H l vs):cJ2 K A H (Itv K l1 vs.length) l.length (λi=>l.getD (l.length-1-i) .non):=by
 have k1:=r1.length;refine⟨λA' H' i P hi=>⟨aa,vs,c1.sqv P,rfl⟩,λA' H' i x H'' P hA hi y=> ?_,λA' H' P=>k1⟩
 obtain⟨x1,e1,q1⟩:=r1.at (i:=l.length-1-i) aa
 obtain⟨e,ha⟩:=y;subst e;have ea:=ha vs (c1.sqv P);rw[<-k1,e1]at ea;cases ea;exact⟨.refl _,q1.mono P⟩
def cQ8 (ta:UA):UI:=λρ Q=>ta ρ λds ρ1=>match ds with
 | [.tup l]=>Q l.length (λi=>l.getD (l.length-1-i) .non) ρ1
 | _=>False
theorem cQ9 {ta:UA}(hg:Gl X "reversed")(hm:X.mg "reversed"=none)(ha:PUA X [a] ta)(hs:↥(starEach [a] X.env=[(false,eval a X.env)])) :
  PUI X tg (.Call (.Name "reversed" p) [a] [] pos) (cQ8 ta):=
 bD9 (dP1 hg hm ha hs) λσ H R ⟨C,ρ,Q0,I,h,k⟩=>⟨C,ρ,_,I,h,λds ρ1 vs H1 q f s r=>by
  split at q
  .rename_i l
   obtain⟨v,vr,rfl,rv,rr⟩:=r.uncons;have:=rr.unnil;subst this;simp only[Rep]at rv;obtain⟨a1,us,rfl,c1,s1⟩:=rv;have c2:SqA _ _ _ true a1 us:=c1;exact⟨a1,us,rfl,c2.sqv .self,k _ _ ρ1 _ H1 q f s<|cZ1 c2 s1⟩
  .exact q.elim⟩
def cR0 (d e:D)(Q:B->Prop):Prop:=match d,e with
 | .tup l,.int k=>(l≠[]/\ -(2^63)<=k/\k<2^63/\l.length*k.toNat<=sizeLine)/\Q (.pu<|.tup (replicate k.toNat l).flatten)
 | _,_=>False
theorem dP2:OpU X (binaryOp .Mult) cR0:=by
 intro A H d e v w Q0 Q hA r1 r2 g k;unfold cR0 at g;split at g
 .rename_i l kk
  have:=bW r2;subst this;simp only[Rep]at r1;obtain⟨a,vs,rfl,c1,rs1⟩:=r1;obtain⟨⟨h0,h1,h2,h3⟩,g⟩:=g;refine⟨_,dO8,a,kk,vs,rfl,rfl,c1.imp cP id,λz=>h0 ?_,h1,h2,by rw[<-rs1.length];exact h3,λz=> ?_,λz p n=>k _ _ _ g (fL n _) (kY hA n<|rs1.rep _)⟩
  .have:=rs1.length;rw[z]at this;exact oP.mp this
  .subst z;refine k _ _ H g (.refl _) ?_;show Rep X.K A H (.tup _) (.ref a);simp only[Rep];exact⟨a,vs,rfl,c1,by exists rs1⟩
 .exact g.elim
end
section
variable {X:Cx}
theorem bE8 {K:Frag}{A:AS}{H:Hp}: ∀r:List Int,cB K A H (r.map D.int) (r.map V.int)
 | []=> .nil
 | a::r=> .cons (by simp only[Rep]) (bE8 r)
theorem dP3 {r:List Int}(hg:Gl X x)(hm:X.mg x=some (.ref a))(hk:KT X.K a (r.map V.int))(hd:⇑(x∪0)):PU X (.Name x p) (uC<|.tup<|r.map .int):=
 cP9 (cP0 (v:= .ref a) hg hm rfl hd) λA H=>by
  simp only[Rep];exact⟨a,r.map V.int,rfl,.inr hk,bE8 r⟩
theorem kt_of {its:Array Value}{sl:Array (Option Value)}{vs:List V}(hl:K.lookup a=some ⟨.type "tuple",od,.seq its n,sl⟩)(hz:its.size<=sizeLine)(hv:Vals vs its.toList):KT K a vs:=
 ⟨_,its,n,hl,rfl,rfl,hz,hv⟩
end
end M
end
section
namespace L2
section
variable {X:Cx}
theorem cK5 (hc:X.calm=true):qV X (.builtin "any") (λxs H Q=> ∃(p:Addr) (bs:List Bool),xs=[.ref p]/\SqL X.K H p (bs.map V.bl)/\Q (.bl<|bs.any id) H):=by
 intro pins s σ H xs us Q I r h;obtain⟨p,bs,rfl,hq,q⟩:=h;obtain⟨u,rfl,rx⟩:=vals1 r;cases rx;obtain⟨its,rv,pl,hz⟩:=I.list hq;have ba:=cQ4 rv;refine call_any_walk (a12 pl.isList ?_);have hne:p≠s.heap.objs.size:=by
  obtain⟨o,n,e,_⟩:=pl;exact b9 (aV e)
 refine⟨s.heap.objs.size,_,_,_,_,_,λi=>(bs[i]?).getD false,rfl,Walks.list (A:=X.A.in1) (I.ok.hd hc) s.heap.objs.size p (λz=>hne z) its.toArray,⟨⟨_,cO _ rfl,rfl,rfl⟩,pl.isList.push _⟩,?_,λh' tk hk=> ?_⟩
 .intro i v s' Q' E' hP hQ;obtain⟨b,hb,rfl⟩:=ba.get i v (by exists hP)
  refine mT ?_
  dsimp only at hQ;rw[hb]at hQ;exact hQ
 .have e:=LSm.range_any bs;have hl:=ba.length;have e2:its.toArray.size=bs.length:=by rw[b6,hl]
  rw[e2,e];exact⟨.bl<|bs.any id,H,I.kept λb o e=>hk b o (by simpa using b9 (aV e)) (bE _ e),rfl,q⟩
end
end L2
namespace M
section
variable {X:Cx}
nonrec def gAny:List D->(B->Prop)->Prop:=g1 λd Q=>match d with
 | .lst l=>(match xY l with
  | some bs=>Q (.pu<|.bl<|bs.any id)
  | none=>False)
 | _=>False
theorem cu_any (hc:X.calm=true):xA X (.builtin "any") gAny:=by
 intro A H ds vs Q0 Q hA r g k;obtain⟨d,v,rfl,rfl,rv,g⟩:=a42 g r;cases d with
 | lst l=>
  dsimp only at g;cases e:xY l with
  | none=>rw[e]at g;exact g.elim
  | some bs=>
   rw[e]at g;simp only[Rep]at rv;obtain⟨a,vs,rfl,n,c,rs⟩:=rv;rw[aS0 e rs]at c;exact⟨_,cK5 hc,a,bs,rfl,SqL.of c,k _ _ H g (.refl _) nY⟩
 | _=>exact(show False from g).elim
theorem bt_any:bootBuiltins "any"=some (.builtin "any"):=af
end
end M
end
section
namespace L2
end L2
namespace M
section
variable {X:Cx}{a:Expr}{pos:Pos}{ta:UE}
nonrec def D.isN:D->Bool
 | .non=>true
 | _=>false
theorem cR1 {K:Frag}{A:AS}{H:Hp}: ∀{d:D} {v:V},Rep K A H d v->decide (v= .non)=d.isN
 | .non,v,h=>by simp only[Rep]at h;subst h;rfl
 | .bl _,v,h=>by simp only[Rep]at h;subst h;rfl
 | .int _,v,h=>by simp only[Rep]at h;subst h;rfl
 | .str _,v,h=>by simp only[Rep]at h;subst h;rfl
 | .ty _,v,h=>by simp only[Rep]at h;subst h;rfl
 | .tup _,v,h=>by simp only[Rep]at h;obtain⟨a,vs,rfl,_⟩:=h;rfl
 | .lst _,v,h=>by simp only[Rep]at h;obtain⟨a,vs,rfl,_⟩:=h;rfl
 | .rol _,v,h=>by simp only[Rep]at h;obtain⟨a,vs,rfl,_⟩:=h;rfl
 | .obj _ _ _,v,h=>by simp only[Rep]at h;obtain⟨a,dx,vs,rfl,_⟩:=h;rfl
 | .adr _,v,h=>by simp only[Rep]at h;subst h;rfl
 | .xob _ _ _ _,v,h=>by simp only[Rep]at h;obtain⟨vs,rfl,_⟩:=h;rfl
def bO6 (neg:Bool)(t:UE):UE:=λρ Q=>t ρ λb ρ1=>Q (.pu<|.bl<|neg ^^ b.d.isN) ρ1
theorem lIsN (σ:L2.St)(H:Hp)(Q:VK)(h:lE X.K (bO6 false ta) σ H Q):tIsN (lE X.K ta) σ H Q:=by
 obtain⟨C,ρ,Q0,I,h,k⟩:=h;refine⟨C,ρ,_,I,h,λb ρ' v H' q f s r=> ?_⟩
 have e:=cR1 (r.rep λa z=>I.avF f z)
 refine k _ ρ' _ H' q f s ?_
 show Rep _ _ _ _ _
 simp only[Rep,j9];rw[e]
theorem lNotN (σ:L2.St)(H:Hp)(Q:VK)(h:lE X.K (bO6 true ta) σ H Q):dW2 (lE X.K ta) σ H Q:=by
 obtain⟨C,ρ,Q0,I,h,k⟩:=h;refine⟨C,ρ,_,I,h,λb ρ' v H' q f s r=> ?_⟩
 have e:=cR1 (r.rep λa z=>I.avF f z)
 refine k _ ρ' _ H' q f s ?_
 show Rep _ _ _ _ _
 simp only[Rep,mU];rw[e]
theorem bZ6 {j pos'}(ha:PU X a ta):PUT X (.Compare a [.Is] [.Constant .none j pos'] pos) (dF<|bO6 false ta):=bS7 (cH4<|pc_isN ha) λσ H Q h=>lIsN σ H _ (d62 σ H Q h)
theorem c84 {j pos'}(ha:PU X a ta):PUT X (.Compare a [.IsNot] [.Constant .none j pos'] pos) (dF<|bO6 true ta):=bS7 (cH4<|dK7 ha) λσ H Q h=>lNotN σ H _ (d62 σ H Q h)
end
nonrec def ltL:List Int->List Int->Bool
 | [],[]=>false
 | [],_::_=>true
 | _::_,[]=>false
 | a::x,b::y=>if a=b then ltL x y else decide (a<b)
section
variable {prog:Program}{w:World}{A:Around}{E:Value->Shared->Prop}{s:Shared}
theorem d96 {lt:Bool}{P:PySem.Fin->Shared->Prop}(ho:s.heap.get? a=some (seqObj "list" [u,v].toArray n))
  (hy: ∀h':Heap,(∀b o,b≠a->s.heap.get? b=some o->h'.get? b=some o)-> ∃κ:SortKind,
   (∀Q:SortKind->Shared->Prop,Q κ {s with heap:=h'}->wpAny (model prog w) A (keyKind' [u,v].toArray) Q (λ_ _=>False) {s with heap:=h'})/\
   (∀Q:Bool->Shared->Prop,Q lt {s with heap:=h'}->wpAny (model prog w) A (keyLt' κ v u) Q (λ_ _=>False) {s with heap:=h'}))
  (fi:P (.done<|.ret .none) {s with heap:=sortedHeap s.heap a [u,v] (if lt=true then [v,u].toArray else [u,v].toArray)}) :
  wpAny (model prog w) A (Builtin.«list.sort» ⟨[.ref a],[]⟩) P E s:=by
 rw[list_sort_plain];have la:a<s.heap.objs.size:=aV ho;refine a9 (listItems_at ho rfl ?_);refine a9 (vF ho rfl ?_ (show 2<=sizeLine by decide) (dI _))
 obtain⟨c1,h1⟩: ∃c1,(s.heap.update a<|Obj.mapSeq λ_=> #[]).get? a=some (seqObj "list" #[] c1):=⟨_,get?_update_seq ho λ_=> #[]⟩
 refine a9 (vK h1 rfl ?_)
 refine a9 (wpAny_newTuple ?_<|show 2<=sizeLine by decide)
 refine a9 (a28 ?_<|dI _)
 refine iO ?_
 have h6:(((s.heap.update a<|Obj.mapSeq λ_=> #[]).push<|seqObj "tuple" [u,v].toArray 0).push<|seqObj "list" #[] 0).get? a=some (seqObj "list" #[] c1):=by
  rw[iL _ _ _ (by rw[rZ,jX];exact b9 (iK la))]
  rw[iL _ _ _ (by rw[jX];exact b9 la)]
  exact h1
 have kp: ∀b o,b≠a->s.heap.get? b=some o->(((s.heap.update a<|Obj.mapSeq λ_=> #[]).push<|seqObj "tuple" [u,v].toArray 0).push<|seqObj "list" #[] 0).get? b=some o:=λb o ne q=>by
  have lb:b<s.heap.objs.size:=aV q;rw[iL _ _ _ (by rw[rZ,jX];exact b9 (iK lb))]
  rw[iL _ _ _ (by rw[jX];exact b9 lb),rJ _ _ _ _ ne]
  exact q
 obtain⟨κ,y1,y2⟩:=hy _ kp;show wpAny (model prog w) A _ P E {s with heap:=((s.heap.update a<|Obj.mapSeq λ_=> #[]).push<|seqObj "tuple" [u,v].toArray 0).push (seqObj "list" #[] 0)}
 right;have n2: ¬[u,v].toArray.size<2:=show ¬2<2 by decide
 rw[a7 n2,a7 n2];refine a9 (bD (y1 (λk s'=>k=κ/\s'={s with heap:=((s.heap.update a<|Obj.mapSeq λ_=> #[]).push<|seqObj "tuple" [u,v].toArray 0).push (seqObj "list" #[] 0)}) ⟨rfl,rfl⟩) ?_ λ_ _ z=>z.elim)
 rintro k s' ⟨rfl,rfl⟩;refine a9 (bD (PySem.W.kat_run (ks:=[u,v]) (vs:=[u,v]) (Q:=λst' s'=>s'={s with heap:=((s.heap.update a<|Obj.mapSeq λ_=> #[]).push<|seqObj "tuple" [u,v].toArray 0).push (seqObj "list" #[] 0)}/\failedOf st'=none/\(arrOf st').map (·.2)=(if lt=true then [v,u].toArray else [u,v].toArray))
  (G:=λp s'=>s'={s with heap:=((s.heap.update a<|Obj.mapSeq λ_=> #[]).push<|seqObj "tuple" [u,v].toArray 0).push (seqObj "list" #[] 0)}/\p=(if lt=true then #[1,0]else #[0,1]))
  rfl (show 2<=2 by decide) (show 2<64 by decide) (λp st' s' _ e2 e3 ⟨e4,e5⟩=>⟨e4,e3,?_⟩) ?_) ?_ λ_ _ z=>z)
 .rw[PySem.W.kat_snds rfl e2,e5];cases lt<;>rfl
 .show wpAny (model prog w) A (keyLt' k v u) _ (λ_ _=>False) _
  refine y2 _ ?_
  cases lt
  .exact⟨rfl,rfl⟩
  .refine⟨rfl,?_⟩
   rw[a8 rfl];dsimp only[List.length_cons,List.length_nil]
   decide +kernel
 .rintro⟨⟨⟩,st'⟩ s' ⟨rfl,e3,e4⟩;right;rw[e4];refine a9 (vK h6 rfl ?_);refine a9 (vF h6 rfl ?_ (dI _) (by cases lt<;>exact(show 2<=sizeLine+1 by decide)))
  rw[e3];simp only[aQ0,oU,gW];exact aK fi
theorem cK6 {lt:Bool}(hl:s.heap.IsList l [u,v].toArray)
  (hy: ∀(h':Heap) (A:Around),(∀b o,s.heap.get? b=some o->h'.get? b=some o)-> ∃κ:SortKind,
   (∀Q:SortKind->Shared->Prop,Q κ {s with heap:=h'}->wpAny (model prog w) A (keyKind' [u,v].toArray) Q (λ_ _=>False) {s with heap:=h'})/\
   (∀Q:Bool->Shared->Prop,Q lt {s with heap:=h'}->wpAny (model prog w) A (keyLt' κ v u) Q (λ_ _=>False) {s with heap:=h'}))
  (fi:Q (.ref<|s.heap.objs.size+1) {s with heap:=sortedAll s.heap [u,v] (if lt=true then [v,u].toArray else [u,v].toArray)}) :
  wpAny (model prog w) A (call (.builtin "sorted") [.ref l]) Q E s:=by
 refine Calls.call_function_entry kind_sorted plain_sorted entry_sorted (args_sorted1 _) ?_
 unfold Builtin.«sorted»;refine a9 (m:=checkCount "sorted" 1 1 _) (aK ?_);refine a9 (collect_list hl ?_<|show 2<=sizeLine by decide)
 refine a9 (a28 ?_<|show 2<=sizeLine by decide)
 have hz:((s.heap.push<|seqObj "list" #[] 0).update s.heap.objs.size (Obj.mapSeq (· ++[u,v].toArray))).objs.size=s.heap.objs.size+1:=by rw[jX,rZ]
 have hL:(((s.heap.push<|seqObj "list" #[] 0).update s.heap.objs.size (Obj.mapSeq (· ++[u,v].toArray))).push<|seqObj "list" [u,v].toArray 0).get? (s.heap.objs.size+1)=some (seqObj "list" [u,v].toArray 0):=by
  rw[<-hz];exact cO _ rfl
 have kp: ∀b o,s.heap.get? b=some o->(((s.heap.push<|seqObj "list" #[] 0).update s.heap.objs.size (Obj.mapSeq (· ++[u,v].toArray))).push<|seqObj "list" [u,v].toArray 0).get? b=some o:=λb o q=>by
  have lb:b<s.heap.objs.size:=aV q;rw[iL _ _ _ (by rw[hz];exact b9 (iK lb))]
  rw[rJ _ _ _ _<|b9 lb,iL _ _ _<|b9 lb];exact q
 show wpAny _ _ _ _ _ {s with heap:=((s.heap.push<|seqObj "list" #[] 0).update s.heap.objs.size (Obj.mapSeq (· ++[u,v].toArray))).push (seqObj "list" [u,v].toArray 0)}
 rw[hz];refine a9 (iO<|jW slot_list_sort ⟨_,hL,rfl⟩ entry_list_sort (d96 (lt:=lt) hL (λh' k=> ?_) ⟨_,rfl,?_⟩)<|args_list_sort _)
 .exact hy h' _ λb o q=>k b o (b9<|iK<|aV q) (kp b o q)
 .exact aK ⟨_,rfl,fi⟩
theorem c85 {Q:Bool->Shared->Prop}{fin:Bool}: ∀(us ws:List Int) (x y:List Value) (i:Nat),Vals (us.map V.int) x->Vals (ws.map V.int) y->fin=decide (us.length<ws.length)->Q (ltL us ws) s->KatLex prog w A true fin Q (x.zip y) i s
 | [],[],x,y,i,hx,hy,hf,q=>by
  cases hx;cases hy;rw[hf];exact q
 | [],b::ws,x,y,i,hx,hy,hf,q=>by
  cases hx;rw[hf];exact q
 | a::us,[],x,y,i,hx,hy,hf,q=>by
  cases hx;cases hy;rw[hf];exact q
 | a::us,b::ws,x,y,i,hx,hy,hf,q=>by
  rw[cS]at hx hy;cases hx with
  | cons r1 hx=>
   cases hy with
   | cons r2 hy=>
    obtain⟨t1,rfl⟩:=r1;obtain⟨t2,rfl⟩:=r2;rw[rN];refine a18 (wpAny_eqBool_int ?_)
    by_cases c:a=b
    .subst c;rw[aQ8];refine a25 (c85 us ws _ _ (i+1) hx hy (by rw[hf];simp) ?_)
     unfold ltL at q;rw[a8 rfl]at q;exact q
    .rw[show(a==b)=false by simpa using c]
     refine a26 ?_
     unfold ltL at q;rw[a7 c]at q;cases e:(true&&i==0)
     .exact PySem.W.kat_one _ _ (lt_int q)
     .exact oneLt_int q
end
section
variable {X:Cx}
theorem cK7:qV X (.builtin "sorted") (λxs H Q=> ∃(p a1 a2:Addr) (i j:Int) (us ws:List Int),xs=[.ref p]/\SqL X.K H p [.ref a1,.ref a2]/\SqT X.K H a1 ((i::us).map V.int)/\SqT X.K H a2 ((j::ws).map V.int)/\
  ∀l,H l=none->Q (.ref l) (upd H l<|.lst<|if ltL (j::ws) (i::us)=true then [.ref a2,.ref a1]else [.ref a1,.ref a2])):=by
 intro pins s σ H xs us' Q I r h;obtain⟨p,a1,a2,i,j,us,ws,rfl,hq,t1,t2,q⟩:=h;obtain⟨u,rfl,rx⟩:=vals1 r;cases rx;obtain⟨its,rv,pl,hz⟩:=I.list hq;obtain⟨x1,r1,k1,z1⟩:=I.tuple t1;obtain⟨x2,r2,k2,z2⟩:=I.tuple t2;cases rv with
 | cons g1 rv=>
 cases rv with
 | cons g2 rv=>
 cases rv;cases g1;cases g2;refine cK6 (lt:=ltL (j::ws) (i::us)) pl.isList (λh' A kp=> ?_) ?_
 .obtain⟨o1,ho1,hc1,n1,hd1⟩:=k1;obtain⟨o2,ho2,hc2,n2,hd2⟩:=k2;rw[cS]at r1 r2;cases r1 with
  | cons f1 r1=>
  cases r2 with
  | cons f2 r2=>
  have v1:Vals ((i::us).map V.int) _:= .cons f1 r1;have v2:Vals ((j::ws).map V.int) _:= .cons f2 r2;obtain⟨t1,rfl⟩:=f1;obtain⟨t2,rfl⟩:=f2;refine⟨tuples'<|Value.type "int" != Value.type "tuple",λQ' q'=> ?_,λQ' q'=> ?_⟩
  .refine aQ9 (fs:=[.int i t1,.int j t2]) (T:= .type "int") (.cons (kp _ _ ho1) hc1 hd1 rfl (.cons (kp _ _ ho2) hc2 hd2 rfl .nil)) (dR _) (λv hv=> ?_) ac q'
   rcases aT.mp hv with rfl|hv
   .exact .now
   .rw[eQ.mp hv];exact .now
  .have e:(Value.type "int" != Value.type "tuple")=true:=ac
   rw[e];refine PySem.W.kat_lt (kp _ _ ho2) hd2 (kp _ _ ho1) hd1 (c85 _ _ _ _ 0 (by exists v2) (by exists v1) ?_ q')
   have l1:=v1.length;have l2:=v2.length;simp only[aF]at l1 l2;simp only[b6];rw[<-l1,<-l2]
 .refine⟨.ref<|s.heap.objs.size+1,_,?_,rfl,q (s.heap.objs.size+1)<|I.hok.fresh<|pC _⟩
  obtain⟨c,hc⟩:=sortedAll_at s.heap [Value.ref a1,Value.ref a2] (if ltL (j::ws) (i::us)=true then [Value.ref a2,Value.ref a1].toArray else [Value.ref a1,Value.ref a2].toArray);refine I.laid (t':=s.toks) (λb o e=>sortedAll_old e) (pC _) ?_
  by_cases e:ltL (j::ws) (i::us)=true
  .rw[a8 e]at hc⊢;exact⟨show 2<=sizeLine by decide,[.ref a2,.ref a1],c,.cons rfl (.cons rfl .nil),by rw[a8 e];exact hc⟩
  .rw[a7 e]at hc⊢;exact⟨show 2<=sizeLine by decide,[.ref a1,.ref a2],c,.cons rfl (.cons rfl .nil),by rw[a7 e];exact hc⟩
nonrec def cK8:List D->(B->Prop)->Prop:=g1 λd Q=> ∃(i j:Int) (us ws:List Int),d= .lst [.tup<|(i::us).map D.int,.tup<|(j::ws).map D.int]/\
 Q (.ow<|if ltL (j::ws) (i::us)=true then [.tup<|(j::ws).map D.int,.tup<|(i::us).map D.int]else [.tup<|(i::us).map D.int,.tup<|(j::ws).map D.int])
theorem d97:xA X (.builtin "sorted") cK8:=by
 intro A H ds vs Q0 Q hA r g k;obtain⟨d,v,rfl,rfl,rv,i,j,us,ws,rfl,g'⟩:=a42 g r;simp only[Rep]at rv;obtain⟨p,xs,rfl,np,hp,rl⟩:=rv;obtain⟨y1,yr,rfl,s1,rl⟩:=rl.uncons;obtain⟨y2,yr,rfl,s2,rl⟩:=rl.uncons;have:=rl.unnil;subst this;have s1':=s1;have s2':=s2;simp only[Rep]at s1 s2;obtain⟨a1,w1,rfl,c1,q1⟩:=s1;obtain⟨a2,w2,rfl,c2,q2⟩:=s2;have e1:=cB.unints q1;have e2:=cB.unints q2;subst e1 e2
 refine⟨_,cK7,p,a1,a2,i,j,us,ws,rfl,.inl<|.inl hp,c1.imp cP id,c2.imp cP id,λl hl=>k _ _ _ g' (fL hl _) ?_⟩
 cases ltL (j::ws) (i::us)
 .exact gO (.refl _) hl (.cons s1'<|.cons s2' .nil)
 .exact gO (.refl _) hl (.cons s2'<|.cons s1' .nil)
end
end M
end
section
namespace L2
section
variable {X:Cx}{a:Expr}{ta:TE}
def tIsB (n c:Bool)(ta:TE):TE:=λσ H Q=>ta σ H λx H1=> ∃k,x= .bl k/\Q (.bl<|n ^^ (k==c)) H1
theorem pc_isB {c j pos'}(ha:PE X a ta):PC X .Is a (.Constant (.bool c) j pos') (tIsB false c ta):=by
 intro pins s σ H Q I h;refine thn (ha pins s σ H _ I h) λv s1 ⟨x,H1,I1,r1,k,e,q1⟩=> ?_
 subst e;cases r1;exact Constant_bool (is_bool ⟨.bl _,H1,I1,by rw[j9];rfl,q1⟩)
theorem dP4 {c j pos'}(ha:PE X a ta):PC X .IsNot a (.Constant (.bool c) j pos') (tIsB true c ta):=by
 intro pins s σ H Q I h;refine thn (ha pins s σ H _ I h) λv s1 ⟨x,H1,I1,r1,k,e,q1⟩=> ?_
 subst e;cases r1;exact Constant_bool (isnot_bool ⟨.bl _,H1,I1,by rw[mU];rfl,q1⟩)
end
end L2
namespace M
section
variable {X:Cx}{a:Expr}{pos:Pos}{ta:UE}
def b30 (n c:Bool)(t:UE):UE:=λρ Q=>t ρ λb ρ1=>match b.d with
 | .bl k=>Q (.pu<|.bl<|n ^^ (k==c)) ρ1
 | _=>False
theorem lIsB {n c:Bool}(σ:L2.St)(H:Hp)(Q:VK)(h:lE X.K (b30 n c ta) σ H Q):tIsB n c (lE X.K ta) σ H Q:=by
 obtain⟨C,ρ,Q0,I,h,k⟩:=h;refine⟨C,ρ,_,I,h,λb ρ' v H' q f s r=> ?_⟩
 have e:=r.rep λa z=>I.avF f z
 cases hd:b.d with
 | bl i=>
  rw[hd]at q e;simp only[Rep]at e;refine⟨i,e,k _ ρ' _ H' q f s ?_⟩;show Rep _ _ _ _ _;simp only[Rep]
 | _=>rw[hd]at q;exact(show False from q).elim
theorem pu_isB {c j pos'}(ha:PU X a ta):PU X (.Compare a [.Is] [.Constant (.bool c) j pos'] pos) (b30 false c ta):=jF (pe_cmp<|pc_isB ha) lIsB
theorem vY {c j pos'}(ha:PU X a ta):PUT X (.Compare a [.IsNot] [.Constant (.bool c) j pos'] pos) (dF<|b30 true c ta):=bS7 (cH4<|dP4 ha) λσ H Q h=>lIsB σ H _ (d62 σ H Q h)
end
end M
end
section
namespace L2
end L2
namespace M
end M
end
section
namespace L2
section
variable {X:Cx}{e e3:Expr}{te:TE}{t3:TO}{pos p2:Pos}
theorem bO7 (its:List Value):slicePick its.toArray none none (some<|-1)=its.reverse.toArray:=by
 unfold slicePick
 congr 1
 have hb:sliceBounds none none (some<|-1) its.toArray.size=((its.length:Int)-1,-1,-1):=by
  simp[sliceBounds]
 rw[hb];have hr:sliceRange ((its.length:Int)-1) (-1) (-1)=(List.range its.length).map λk=>its.length-1-k:=by
  unfold sliceRange;simp only[show ¬((-1:Int)>0)by decide,gW]
  by_cases c:(its.length:Int)-1> -1
  .rw[a8 c,show -(-1:Int)=1 by decide,Int.ediv_one,show((its.length:Int)-1- -1- -1-1).toNat=its.length by omega]
   apply iI
   intro k hk;have:=cJ.mp hk;omega
  .rw[a7 c,show its.length=0 by omega]
   rfl
 right;rw[hr,List.filterMap_map];apply aQ1;intro i
 by_cases c:i<its.length
 .rw[List.getElem?_reverse c];have e:(List.range its.length).filterMap ((λx=>its.toArray[x]?)∘λk=>its.length-1-k)=(List.range its.length).map λk=>its.getD (its.length-1-k) .none:=by
   rw[<-List.filterMap_eq_map];have fc: ∀(l:List Nat) (f g:Nat->Option Value),(∀m∈l,f m=g m)->l.filterMap f=l.filterMap g:=by
    intro l f g h
    induction l with
    | nil=>rfl
    | cons a l ih=>rw[j8,j8,h a<|b7 ..,ih λm hm=>h m (bM _ hm)]
   apply fc
   intro k hk;have:=cJ.mp hk;simp only[Function.comp,List.getElem?_toArray,aL];rw[aO aa]
   rfl
  rw[e,bX,List.getElem?_range c,aO<|show its.length-1-i<its.length by omega]
  simp only[map_some,aL];rw[aO<|show its.length-1-i<its.length by omega]
  rfl
 .have h1:((List.range its.length).filterMap<|(λx=>its.toArray[x]?)∘λk=>its.length-1-k).length<=its.length:=by
   have:=List.length_filterMap_le ((λx=>its.toArray[x]?)∘λk=>its.length-1-k) (List.range its.length)
   exists this
  rw[mO aa,mO (by rw[a08];omega)]
def tRevL (K:Frag)(te:TE)(t3:TO):TE:=λσ H Q=>te σ H λx H1=>t3 σ H1 λl H3=>l=some (-1)/\ ∃a xs,x= .ref a/\SqL K H3 a xs/\ ∀p,H3 p=none->Q (.ref p) (upd H3 p<|.lst xs.reverse)
theorem dP5 (he:PE X e te)(h3:PO X (some e3) t3):PE X (.Subscript e (.Slice none none (some e3) p2) pos) (tRevL X.K te t3):=by
 intro pins s σ H Q I h;refine Subscript_ (thn (he pins s σ H _ I h) λv s1 ⟨x,H1,I1,r1,q1⟩=> ?_)
 refine wpAny_Slice ?_
 rw[evalPart_none];refine aK ?_;refine aK ?_;refine thn (h3 pins s1 σ H1 _ I1 q1) λv3 s3 ⟨l,H3,I3,p3,q3⟩=> ?_
 obtain⟨rfl,a,xs,rfl,hx,q⟩:=q3;cases r1;have I4:Inv X pins σ H3 {s3 with heap:=s3.heap.push {cls:= .type "slice",data:= .fields #[.none,.none,v3]}}:=I3.kept (t':=s3.toks) λb ob q=>bE _ q
 obtain⟨its,r,ht,hz⟩:=I4.list hx;have hlen:its.toArray.size=xs.length:=by rw[b6];exact r.length.symm
 have hg:X∩(getItem (.ref a)<|.ref s3.heap.objs.size) (EP X pins σ Q) X.xe {s3 with heap:=s3.heap.push {cls:= .type "slice",data:= .fields #[.none,.none,v3]}}:=by
  refine wpAny_getItem_list_slice ht.isList (Heap.IsSliceOf.new ..) .none .none p3 ac ?_ (by rw[hlen];exact hz)
  rw[bO7];refine⟨.ref _,_,I4.laid (t':=s3.toks) (o:= .lst xs.reverse) (λb ob q=>bE _ q) (aG _) ?_,rfl,q _<|I4.hok.fresh<|aG _⟩
  exact⟨by rw[a08];exact hz,_,0,r.reverse,cO _ rfl⟩
 exact tail_any (ops:=[.ref a,.ref s3.heap.objs.size]) ht.isList.typeIs slot_list_getitem.lookup hg (by with_unfolding_all rfl)
end
end L2
namespace M
section
variable {X:Cx}{K:Frag}{A:AS}{H:Hp}{e e3:Expr}{t3:UE}{pos p2:Pos}
def c86 (t:UV)(t3:UE):UE:=λρ Q=>t ρ λd ρ1=>t3 ρ1 λb ρ2=>b.d= .int (-1)/\match d with
 | .lst l=>Q (.ow l.reverse) ρ2
 | _=>False
theorem bZ7 {t:UV}(he:PUV X e t)(h3:PU X e3 t3):PU X (.Subscript e (.Slice none none (some e3) p2) pos) (c86 t t3):=
 jF (dP5 he<|cP6 h3) λσ H Q ⟨C,ρ,Q0,I,h,k⟩=>⟨C,ρ,_,I,h,λd ρ1 v H1 q f s r=>by
  have I1:=(I.frz f).same s;refine⟨C,ρ1,_,I1,q,λb ρ2 v3 H2 q2 f2 s2 r2=> ?_⟩
  obtain⟨eb,q2⟩:=q2;have ri:=r2.rep λa z=>I1.avF f2 z
  rw[eb]at ri;have:=bW ri;subst this;refine⟨-1,rfl,rfl,?_⟩;have r':=r.mono (A':=Av C ρ2 σ) s2 λa z=>f2.av z
  cases d with
  | lst l=>
   obtain⟨a,vs,rfl,c,rs⟩:=r';exact⟨a,vs,rfl,SqL.of c,λp n=>k _ ρ2 _ _ q2 (f.trans f2) ((s.trans s2).trans<|fL n _) (gO (s.trans s2) n rs.reverse)⟩
  | _=>exact q2.elim⟩
end
section
variable {X:Cx}{e:Expr}{es:List Expr}{pos:Pos}{te:UE}
theorem ilB (h:Nat.ble (i+1) X.N.length=true): ∀pins σ H s,Inv X pins σ H s->i<σ.length:=il rfl (Nat.le_of_ble_eq_true h)
theorem aS (i:Nat){pos:Pos}(h:PE X (.Name x pos) (aR6 i):=by exact pv _):PU X (.Name x pos) (aB i):=gX i h
theorem bH (i:Nat){pos:Pos}(h:PE X (.Name x pos) (aR6 i):=by exact pv _):PUV X (.Name x pos) (aQ i):=a40 i h
theorem aB3 (i:Nat)(hN:X.N.Nodup)(he:PU X e te)(hi:↥(X.N[i]? =some x))(hx:Loc X.env.scope x:=by walk_at "z")(hs:↥(swapsWith e (some<|.Name x pos') pos.line X.env=pure false))(hf:X.fn x=true\/X.env.scope.names.lookup x=some .local:=by walk_at "z")
  (hl: ∀pins σ H s,Inv X pins σ H s->i<σ.length:=by exact ilB rfl):PUS X (.Assign [.Name x pos'] e pos) (cE i te):=aA7 i hN hi hx he hs hf hl
theorem us_g {op:Operator}{g:D->D->(B->Prop)->Prop}(i:Nat)(hN:X.N.Nodup)(he:PU X e te)(ho:IpU X op g)(hi:↥(X.N[i]? =some x))(hx:Loc X.env.scope x:=by walk_at "z")(hf:X.fn x=true\/X.env.scope.names.lookup x=some .local:=by walk_at "z")
  (hl: ∀pins σ H s,Inv X pins σ H s->i<σ.length:=by exact ilB rfl):PUS X (.AugAssign (.Name x pos') op e pos) (c77 i g te):=d68 i hN hi hx he ho hf hl
theorem cW {a b:Expr}{ti:UE}{t:UV}(ha:PUV X a t)(hb:PU X b ti)(hs:bX8 b:=by exact λ_ _=>rfl):PU X (.Subscript a b pos) (uIx t ti):=bE2 ha hb hs
theorem eI {ps:List Str}{t:UA}(F:Fn X.prog X.w X.K X.mg X.base x ps k φ)(hr:iX k' X.A)(ha:PUA X (e::es) t)(hk:⇑(k<=k'))(hg:↥(Gl X x))(hdb:⇑(x∪0))
  (he:↥(starEach (e::es) X.env=(false,eval e X.env)::starEach es X.env)) (hpl:↥((backTo pos<|starEach es X.env).any (·.1)=false)):PU X (.Call (.Name x p) (e::es) [] pos) (aU φ t):=aV6 F hr hk hg ha hdb he hpl
end
section
variable {X:Cx}{es:List Expr}{t:UA}
theorem aZ {i:Int}{j}(h:PUA X es t):PUA X (.Constant (.int i) j p::es) (a6 (uC<|.int i) t):=aC aE h rfl
theorem iH {fs:List Expr}{j}{ta:UE}(a:PU X (.Tuple fs j p) ta)(h:PUA X es t):PUA X (.Tuple fs j p::es) (a6 ta t):=aC a h rfl
theorem xC {o:UnaryOp}{ta:UE}(a:PU X (.UnaryOp o e p) ta)(h:PUA X es t):PUA X (.UnaryOp o e p::es) (a6 ta t):=aC a h rfl
theorem aR (i:Nat)(h:PUA X es t)(a:PE X (.Name x p) (aR6 i):=by exact pv _):PUA X (.Name x p::es) (a6 (aB i) t):=aC (gX i a) h rfl
structure WA (X:Cx)(es:List Expr)(t:UA):Prop where
 out:PUA X es t
theorem cQ:WA X [] aI:=⟨aA⟩
theorem eY {i:Int}{j}(h:WA X es t):WA X (.Constant (.int i) j p::es) (a6 (uC<|.int i) t):=⟨aZ h.out⟩
theorem bE9 {i:Int}{j}{q:Pos}(h:WA X es t):WA X (.UnaryOp .USub (.Constant (.int i) j p) q::es) (a6 (kD<|uC<|.int i) t):=⟨xC (jG aE) h.out⟩
theorem nN {fs:List Expr}{j}{tf:UA}(a:WA X fs tf)(h:WA X es t):WA X (.Tuple fs j p::es) (a6 (bL tf) t):=⟨iH (bK a.out) h.out⟩
structure WS (X:Cx)(sts:List Stmt)(t:US):Prop where
 out:tL X sts t
theorem cR2 {u:US}(h:tL X sts u):WS X sts u:=⟨h⟩
theorem dX0 {u:US}(h:WA X es t)(r:WS X sts u)(hN:X.N.Nodup)(hi:↥(X.N[i]? =some x))(hx:Loc X.env.scope x:=by walk_at "z")(hf:X.fn x=true\/X.env.scope.names.lookup x=some .local:=by walk_at "z")
  (hl: ∀pins σ H s,Inv X pins σ H s->i<σ.length:=by exact ilB rfl):WS X (.Assign [.Name x pos'] (.List es p) pos::sts) (aW (cE i<|dY t) u):=⟨bV (aA7 i hN hi hx (cN h.out) rfl hf hl) r.out⟩
end
abbrev GL:=List (Addr×List Int)
end M
end
section
namespace L2
end L2
namespace M
mutual
noncomputable def ltQ:PyData->PyData->Option Bool
 | .int i,.int j=>some (decide (i<j))
 | .tuple l,.tuple m=>a45 l m
 | _,_=>none
noncomputable def a45:List PyData->List PyData->Option Bool
 | [],m=>some (decide (0<m.length))
 | _::_,[]=>some false
 | x::l,y::m=>if x.eqv y=true then a45 l m else ltQ x y
end
section
variable {prog:Program}{w:World}{E:Value->Shared->Prop}{s:Shared}
def aB4 (prog:Program)(w:World)(A:Around)(E:Value->Shared->Prop)(fin:Bool)(Q:Value->Shared->Prop):List (Value×Value)->Shared->Prop
 | [],s=>Q (.bool fin) s
 | (p,q)::r,s=>wpAny (model prog w) A (eqBool p q) (λe s'=>if e=true then aB4 prog w A E fin Q r s' else wpAny (model prog w) A (richCompare .Lt p q) Q E s') E s
theorem d98 {oa:Obj}{ys:Array Value}{m:Nat}{P:PySem.Fin->Shared->Prop}(ha:s.heap.get? a=some oa)(da:oa.data= .seq xs n)(hb:s.heap.get? b=some ob)(cb:ob.cls= .type "tuple")(db:ob.data= .seq ys m)
  (h:aB4 prog w A E (decide (xs.size<ys.size)) (λv s'=>P (.done<|.ret v) s') (xs.toList.zip ys.toList) s):wpAny (model prog w) A (Builtin.«tuple.__lt__» ⟨[.ref a,.ref b],[]⟩) P E s:=by
 show wpAny _ _ (isInstance (.ref b) (.type "tuple") >>= _) _ _ s
 refine a9 (wpAny_isInstance ⟨ob,hb,cb⟩ isSubtype_tuple_tuple ?_)
 simp only[Bool.not_true,oU,gW];refine a9 (wpAny_tupleItemsOf ha da ?_);refine a9 (wpAny_tupleItemsOf hb db ?_);refine a9 ?_;refine wpAny_forIn_list _ (λiA r s'=>r=(none,())/\aB4 prog w A E (decide (xs.size<ys.size)) (λv s'=>P (.done<|.ret v) s') iA s') _ ?_ ?_ _ _ ⟨rfl,h⟩
 .rintro⟨p,q⟩ iA r s' ⟨rfl,h'⟩;have h2:wpAny (model prog w) A (eqBool p q) (λe s'=>if e=true then aB4 prog w A E (decide (xs.size<ys.size)) (λv s'=>P (.done<|.ret v) s') iA s' else wpAny (model prog w) A (richCompare .Lt p q) (λv s'=>P (.done<|.ret v) s') E s') E s':=h'
  refine a9 (bD h2 (λe s2 he=> ?_) λ_ _ z=>z)
  cases e
  .rw[a7 ac]at he
   rw[a8<|by rfl]
   exact a9 (vR<|a9<|bD he (λv s3 hv=>a9 (aK<|aK<|aK hv)) λ_ _ z=>z)
  .rw[a8 rfl]at he;rw[a7 ac]
   exact aK ⟨rfl,he⟩
 .rintro r s' ⟨rfl,h'⟩;exact aK h'
theorem aB4.mono {A:Around}{fin:Bool}{Q Q':Value->Shared->Prop}(k: ∀v s,Q v s->Q' v s): ∀(l:List (Value×Value)) (s:Shared),aB4 prog w A E fin Q l s->aB4 prog w A E fin Q' l s
 | [],s,h=>k _ s h
 | (p,q)::r,s,h=>by
  have h':wpAny (model prog w) A (eqBool p q) (λe s'=>if e=true then aB4 prog w A E fin Q r s' else wpAny (model prog w) A (richCompare .Lt p q) Q E s') E s:=h
  refine bD h' (λe s' he=> ?_) λ_ _ z=>z
  cases e
  .rw[a7 ac]at he⊢
   exact bD he k λ_ _ z=>z
  .rw[a8 rfl]at he⊢;exact aB4.mono k r s' he
theorem dP6 {oa:Obj}{ys:Array Value}{m:Nat}(hu:A.units<cLine)(ha:s.heap.get? a=some oa)(ca:oa.cls= .type "tuple")(da:oa.data= .seq xs n)(hb:s.heap.get? b=some ob)(cb:ob.cls= .type "tuple")(db:ob.data= .seq ys m)
  (h:aB4 prog w A.in1 E (decide (xs.size<ys.size)) (λv s'=>v≠ .notImplemented/\Q v s') (xs.toList.zip ys.toList) s):wpAny (model prog w) A (richCompare .Lt (.ref a)<|.ref b) Q E s:=
 wpAny_richCompare_same_room ⟨oa,ha,ca⟩ ⟨ob,hb,cb⟩ F.slot_tuple_lt (jW F.slot_tuple_lt ⟨oa,ha,ca⟩ F.entry_tuple_lt (d98 ha da hb cb db<|h.mono (λv s' q=>⟨v,rfl,q⟩) _ _)<|F.args_tuple_lt_2 _ _) hu
theorem qE: ∀{us:List Value} {l:List PyData} {as:List Addr},ReadsAll s.heap us l as->us.length=l.length
 | _,_,_,.nil=>rfl
 | _,_,_,.cons _ h=>bO (· +1) (qE h)
mutual
theorem c87: ∀(x y:PyData) {A:Around} {Q:Value->Shared->Prop} {u v:Value} {as bs:List Addr} {b:Bool},Reads s.heap u x as->Reads s.heap v y bs->x.canLay0=true->y.canLay0=true->A.units+x.depth<cLine->ltQ x y=some b->Q (.bool b) s->wpAny (model prog w) A (richCompare .Lt u v) Q E s
 | .int i,y,A,Q,u,v,as,bs,b,rx,ry,cx,cy,hu,hb,q=>by
  cases y with
  | int j=>
   cases rx;cases ry;simp only[ltQ]at hb;cases hb;exact lt_int q
  | _=>simp[ltQ]at hb
 | .tuple l,y,A,Q,u,v,as,bs,b,rx,ry,cx,cy,hu,hb,q=>by
  cases y with
  | tuple m=>
   cases rx with
   | tuple ho hc hd ra=>
   cases ry with
   | tuple ho' hc' hd' rb=>
   simp only[ltQ]at hb;simp only[PyData.canLay0]at cx cy;simp only[PyData.depth]at hu;refine dP6 ad ho hc hd ho' hc' hd' (bU1 l m ra rb cx cy (by rw[aR0];lia) ?_ hb ⟨ae,q⟩)
   have l1:=qE ra;have l2:=qE rb;rw[<-l1,<-l2,oS,oS]
  | _=>simp[ltQ]at hb
 | .none,y,A,Q,u,v,as,bs,b,rx,ry,cx,cy,hu,hb,q=>by cases y<;>simp[ltQ]at hb
 | .bool _,y,A,Q,u,v,as,bs,b,rx,ry,cx,cy,hu,hb,q=>by cases y<;>simp[ltQ]at hb
 | .str _,y,A,Q,u,v,as,bs,b,rx,ry,cx,cy,hu,hb,q=>by cases y<;>simp[ltQ]at hb
 | .list _,y,A,Q,u,v,as,bs,b,rx,ry,cx,cy,hu,hb,q=>by cases y<;>simp[ltQ]at hb
 | .dict _,y,A,Q,u,v,as,bs,b,rx,ry,cx,cy,hu,hb,q=>by cases y<;>simp[ltQ]at hb
theorem bU1: ∀(l m:List PyData) {A:Around} {Q:Value->Shared->Prop} {us vs:List Value} {as bs:List Addr} {fin b:Bool},ReadsAll s.heap us l as->ReadsAll s.heap vs m bs->PyData.canLayAll0 l=true->PyData.canLayAll0 m=true->A.units+PyData.depthAll l<cLine->fin=decide (l.length<m.length)->a45 l m=some b->Q (.bool b) s->aB4 prog w A E fin Q (us.zip vs) s
 | [],m,A,Q,us,vs,as,bs,fin,b,ra,rb,ca,cb,hu,hf,hb,q=>by
  cases ra;simp only[a45]at hb;cases hb;rw[List.zip_nil_left,hf];exact q
 | x::l,[],A,Q,us,vs,as,bs,fin,b,ra,rb,ca,cb,hu,hf,hb,q=>by
  cases rb;simp only[a45]at hb;cases hb;rw[List.zip_nil_right,hf];rw[bZ ae]
  exact q
 | x::l,y::m,A,Q,us,vs,as,bs,fin,b,ra,rb,ca,cb,hu,hf,hb,q=>by
  cases ra with
  | cons ra1 ra=>
  cases rb with
  | cons rb1 rb=>
  simp only[PyData.canLayAll0,bP]at ca cb;simp only[PyData.depthAll]at hu;simp only[a45]at hb;rw[rN];refine aP3 _ _ _ _ _ _ _ _ _ _ _ _ ra1 rb1 ca.1 cb.1 ad ?_
  by_cases c:x.eqv y=true
  .rw[a8 c]at hb⊢;exact bU1 l m ra rb ca.2 cb.2 ad (by rw[hf];simp) hb q
  .rw[a7 c]at hb⊢;exact c87 x y ra1 rb1 ca.1 cb.1 ad hb q
end
theorem b31: ∀(l m:List PyData) {A:Around} {Q:Bool->Shared->Prop} {us vs:List Value} {as bs:List Addr} {fin b:Bool} {i:Nat},ReadsAll s.heap us l as->ReadsAll s.heap vs m bs->PyData.canLayAll0 l=true->PyData.canLayAll0 m=true->A.units+PyData.depthAll l<cLine->fin=decide (l.length<m.length)->a45 l m=some b->Q b s->KatLex prog w A false fin Q (us.zip vs) i s
 | [],m,A,Q,us,vs,as,bs,fin,b,i,ra,rb,ca,cb,hu,hf,hb,q=>by
  cases ra;simp only[a45]at hb;cases hb;rw[List.zip_nil_left,hf];exact q
 | x::l,[],A,Q,us,vs,as,bs,fin,b,i,ra,rb,ca,cb,hu,hf,hb,q=>by
  cases rb;simp only[a45]at hb;cases hb;rw[List.zip_nil_right,hf];rw[bZ ae]
  exact q
 | x::l,y::m,A,Q,us,vs,as,bs,fin,b,i,ra,rb,ca,cb,hu,hf,hb,q=>by
  cases ra with
  | cons ra1 ra=>
  cases rb with
  | cons rb1 rb=>
  simp only[PyData.canLayAll0,bP]at ca cb;simp only[PyData.depthAll]at hu;simp only[a45]at hb;rw[rN];refine a18 (aP3 _ _ _ _ _ _ _ _ _ _ _ _ ra1 rb1 ca.1 cb.1 ad ?_)
  by_cases c:x.eqv y=true
  .rw[a8 c]at hb;rw[c];exact a25 (b31 l m ra rb ca.2 cb.2 ad (by rw[hf];simp) hb q)
  .rw[a7 c]at hb;rw[show x.eqv y=false by simpa using c]
   refine a26 ?_
   rw[Bool.false_and];exact PySem.W.kat_one _ _ (c87 x y ra1 rb1 ca.1 cb.1 ad hb q)
end
nonrec def kok (n:Nat):KasT (Array Nat)->Bool
 | .ret p=>p.toList.length==n&&p.toList.all (· <n)
 | .ask i j k=>decide (i<n)&&decide (j<n)&&kok n (k true)&&kok n (k false)
nonrec def b91 (lt:Nat->Nat->Bool):KasT (Array Nat)->Array Nat
 | .ret p=>p
 | .ask i j k=>b91 lt (k<|lt i j)
theorem aI4 {n:Nat}{lt:Nat->Nat->Bool}: ∀t:KasT (Array Nat),kok n t=true->(b91 lt t).toList.length=n/\ ∀i∈(b91 lt t).toList,i<n
 | .ret p,h=>by
  simp only[kok,bP,gA,cC,cR]at h;exact h
 | .ask i j k,h=>by
  simp only[kok,bP]at h;simp only[b91];cases lt i j
  .exact aI4 _ h.2
  .exact aI4 _ h.1.2
theorem bZ8 {n:Nat}{lt:Nat->Nat->Bool}{s:Shared}{cmp:Nat->Nat->(Bool->Shared->Prop)->Shared->Prop}{Q:Array Nat->Shared->Prop}(hc: ∀i j,i<n->j<n-> ∀C:Bool->Shared->Prop,C (lt i j) s->cmp i j C s) :
  ∀t:KasT (Array Nat),kok n t=true->Q (b91 lt t) s->t.kasWp cmp Q s
 | .ret p,h,q=>q
 | .ask i j k,h,q=>by
  simp only[kok,bP,cR]at h;simp only[b91]at q;refine hc i j h.1.1.1 h.1.1.2 _ ?_;cases e:lt i j
  .rw[e]at q;exact bZ8 hc _ h.2 q
  .rw[e]at q;exact bZ8 hc _ h.1.2 q
nonrec def iB (lt:Nat->Nat->Bool)(n:Nat):List Nat:=if n<2 then List.range n else(b91 lt<|kas_sort n).toList
theorem aW2: ∀n,n<=5->2<=n->kok n (kas_sort n)=true:=by
 intro n h1 h2
 match n,h1,h2 with
 | 2,_,_=>decide +kernel
 | 3,_,_=>decide +kernel
 | 4,_,_=>decide +kernel
 | 5,_,_=>decide +kernel
section
variable {prog:Program}{w:World}{A:Around}{E:Value->Shared->Prop}{s:Shared}
theorem d99 {lt:Nat->Nat->Bool}{P:PySem.Fin->Shared->Prop}(h4:vs.length<=5)(ho:s.heap.get? a=some (seqObj "list" vs.toArray n))
  (hy:2<=vs.length-> ∀h':Heap,(∀b o,b≠a->s.heap.get? b=some o->h'.get? b=some o)-> ∃κ:SortKind,
   (∀Q:SortKind->Shared->Prop,Q κ {s with heap:=h'}->wpAny (model prog w) A (keyKind' vs.toArray) Q (λ_ _=>False) {s with heap:=h'})/\
   (∀i j,i<vs.length->j<vs.length-> ∀Q:Bool->Shared->Prop,Q (lt i j) {s with heap:=h'}->wpAny (model prog w) A (keyLt' κ (vs.getD i .none)<|vs.getD j .none) Q (λ_ _=>False) {s with heap:=h'}))
  (fi:P (.done<|.ret .none) {s with heap:=sortedHeap s.heap a vs ((iB lt vs.length).map λi=>vs.getD i .none).toArray}) :
  wpAny (model prog w) A (Builtin.«list.sort» ⟨[.ref a],[]⟩) P E s:=by
 rw[list_sort_plain];have la:a<s.heap.objs.size:=aV ho;have hz:vs.toArray.size<=sizeLine:=by rw[b6];exact aN h4 ac
 refine a9 (listItems_at ho rfl ?_)
 refine a9 (vF ho rfl ?_ hz (dI _))
 obtain⟨c1,h1⟩: ∃c1,(s.heap.update a<|Obj.mapSeq λ_=> #[]).get? a=some (seqObj "list" #[] c1):=⟨_,get?_update_seq ho λ_=> #[]⟩
 refine a9 (vK h1 rfl ?_)
 refine a9 (wpAny_newTuple ?_<|by exists hz)
 refine a9 (a28 ?_<|dI _)
 refine iO ?_
 have h6:(((s.heap.update a<|Obj.mapSeq λ_=> #[]).push<|seqObj "tuple" vs.toArray 0).push<|seqObj "list" #[] 0).get? a=some (seqObj "list" #[] c1):=by
  rw[iL _ _ _ (by rw[rZ,jX];exact b9 (iK la))]
  rw[iL _ _ _ (by rw[jX];exact b9 la)]
  exact h1
 have kp: ∀b o,b≠a->s.heap.get? b=some o->(((s.heap.update a<|Obj.mapSeq λ_=> #[]).push<|seqObj "tuple" vs.toArray 0).push<|seqObj "list" #[] 0).get? b=some o:=λb o ne q=>by
  have lb:b<s.heap.objs.size:=aV q;rw[iL _ _ _ (by rw[rZ,jX];exact b9 (iK lb))]
  rw[iL _ _ _ (by rw[jX];exact b9 lb),rJ _ _ _ _ ne]
  exact q
 show wpAny (model prog w) A _ P E {s with heap:=((s.heap.update a<|Obj.mapSeq λ_=> #[]).push<|seqObj "tuple" vs.toArray 0).push (seqObj "list" #[] 0)}
 right
 by_cases n2:vs.toArray.size<2
 .rw[a8 n2,a8 n2];refine a9 (aK ?_);refine a9 (aK ?_);have e0:vs.toArray=((iB lt vs.length).map λi=>vs.getD i .none).toArray:=by
   rw[b6]at n2;unfold iB;rw[a8 n2]
   congr 1
   apply oZ
   .simp
   .intro i h1 h2;simp[aL,h1]
  have e4:(arrOf<|SortSt.mk' general' (vs.toArray.zip vs.toArray) #[] 7 none).map (·.2)=((iB lt vs.length).map λi=>vs.getD i .none).toArray:=by
   rw[<-e0];show(vs.toArray.zip vs.toArray).map (·.2)=_;apply Array.ext
   .simp
   .intro i h1 h2;simp
  right;rw[e4];refine a9 (vK h6 rfl ?_);refine a9 (vF h6 rfl ?_ (dI _) (by rw[<-e0];exact a13 hz))
  simp only[aQ0,oU,gW];exact aK fi
 .rw[a7 n2,a7 n2];rw[b6]at n2;obtain⟨κ,y1,y2⟩:=hy ad _ kp
  have hk:=aW2 vs.length h4 ad
  obtain⟨hl1,hl2⟩:=aI4 (lt:=lt) _ hk;have eP:iB lt vs.length=(b91 lt<|kas_sort vs.length).toList:=by unfold iB;rw[a7 n2]
  refine a9 (bD (y1 (λk s'=>k=κ/\s'={s with heap:=((s.heap.update a<|Obj.mapSeq λ_=> #[]).push<|seqObj "tuple" vs.toArray 0).push (seqObj "list" #[] 0)}) ⟨rfl,rfl⟩) ?_ λ_ _ z=>z.elim)
  rintro k s' ⟨rfl,rfl⟩;refine a9 (bD (PySem.W.kat_run (ks:=vs) (vs:=vs) (Q:=λst' s'=>s'={s with heap:=((s.heap.update a<|Obj.mapSeq λ_=> #[]).push<|seqObj "tuple" vs.toArray 0).push (seqObj "list" #[] 0)}/\failedOf st'=none/\(arrOf st').map (·.2)=((iB lt vs.length).map λi=>vs.getD i .none).toArray)
   (G:=λp s'=>s'={s with heap:=((s.heap.update a<|Obj.mapSeq λ_=> #[]).push<|seqObj "tuple" vs.toArray 0).push (seqObj "list" #[] 0)}/\p=b91 lt (kas_sort vs.length))
   rfl ad ad (λp st' s' _ e2 e3 ⟨e4,e5⟩=>⟨e4,e3,?_⟩) ?_) ?_ λ_ _ z=>z)
  .rw[PySem.W.kat_snds rfl e2,e5,eP]
  .refine bZ8 (n:=vs.length) (lt:=lt) (λi j hi hj C q=> ?_) _ hk ⟨rfl,rfl⟩
   exact y2 i j hi hj _ q
  .rintro⟨⟨⟩,st'⟩ s' ⟨rfl,e3,e4⟩;right;rw[e4];refine a9 (vK h6 rfl ?_);refine a9 (vF h6 rfl ?_ (dI _) (by rw[b6,aF,eP,hl1];exact aN h4 ac))
   rw[e3];simp only[aQ0,oU,gW];exact aK fi
theorem cK9 {lt:Nat->Nat->Bool}(h4:vs.length<=5)(hl:s.heap.IsList l vs.toArray)
  (hy:2<=vs.length-> ∀(h':Heap) (A':Around),A'.units=A.units+2->(∀b o,s.heap.get? b=some o->h'.get? b=some o)-> ∃κ:SortKind,
   (∀Q:SortKind->Shared->Prop,Q κ {s with heap:=h'}->wpAny (model prog w) A' (keyKind' vs.toArray) Q (λ_ _=>False) {s with heap:=h'})/\
   (∀i j,i<vs.length->j<vs.length-> ∀Q:Bool->Shared->Prop,Q (lt i j) {s with heap:=h'}->wpAny (model prog w) A' (keyLt' κ (vs.getD i .none)<|vs.getD j .none) Q (λ_ _=>False) {s with heap:=h'}))
  (fi:Q (.ref<|s.heap.objs.size+1) {s with heap:=sortedAll s.heap vs ((iB lt vs.length).map λi=>vs.getD i .none).toArray}) :
  wpAny (model prog w) A (call (.builtin "sorted") [.ref l]) Q E s:=by
 have hz0:vs.toArray.size<=sizeLine:=by rw[b6];exact aN h4 ac
 refine Calls.call_function_entry kind_sorted plain_sorted entry_sorted (args_sorted1 _) ?_
 unfold Builtin.«sorted»;refine a9 (m:=checkCount "sorted" 1 1 _) (aK ?_);refine a9 (collect_list hl ?_ hz0);refine a9 (a28 ?_<|by exists hz0)
 have hz:((s.heap.push<|seqObj "list" #[] 0).update s.heap.objs.size (Obj.mapSeq (· ++vs.toArray))).objs.size=s.heap.objs.size+1:=by rw[jX,rZ]
 have hL:(((s.heap.push<|seqObj "list" #[] 0).update s.heap.objs.size (Obj.mapSeq (· ++vs.toArray))).push<|seqObj "list" vs.toArray 0).get? (s.heap.objs.size+1)=some (seqObj "list" vs.toArray 0):=by
  rw[<-hz];exact cO _ rfl
 have kp: ∀b o,s.heap.get? b=some o->(((s.heap.push<|seqObj "list" #[] 0).update s.heap.objs.size (Obj.mapSeq (· ++vs.toArray))).push<|seqObj "list" vs.toArray 0).get? b=some o:=λb o q=>by
  have lb:b<s.heap.objs.size:=aV q;rw[iL _ _ _ (by rw[hz];exact b9 (iK lb))]
  rw[rJ _ _ _ _<|b9 lb,iL _ _ _<|b9 lb];exact q
 show wpAny _ _ _ _ _ {s with heap:=((s.heap.push<|seqObj "list" #[] 0).update s.heap.objs.size (Obj.mapSeq (· ++vs.toArray))).push (seqObj "list" vs.toArray 0)}
 rw[hz];refine a9 (iO<|jW slot_list_sort ⟨_,hL,rfl⟩ entry_list_sort (d99 (lt:=lt) h4 hL (λh2 h' k=> ?_) ⟨_,rfl,?_⟩)<|args_list_sort _)
 .refine hy h2 h' _ ?_ λb o q=>k b o (b9<|iK<|aV q) (kp b o q)
  rw[aR0,aR0]
 .exact aK ⟨_,rfl,fi⟩
end
theorem a46 {h:Heap}: ∀{us:List Value} {l:List PyData} {as:List Addr} (i:Nat),ReadsAll h us l as->i<l.length-> ∃bs,Reads h (us.getD i .none) (l.getD i .none) bs
 | _,_,_,0,.cons r _,_=>⟨_,r⟩
 | _,_,_,i+1,.cons _ h,hi=>a46 i h (a05 hi)
theorem cR3: ∀{l:List D} {ps:List PyData},pdL l=some ps->l.length=ps.length
 | [],ps,h=>by simp only[pdL]at h;cases h;rfl
 | d::r,ps,h=>by
  obtain⟨x,ys,rfl,e1,e2⟩:=aW1 h;simp only[dP,cR3 e2]
theorem bZ9: ∀{l:List D} {ps:List PyData} (i:Nat),pdL l=some ps->i<l.length->pd (l.getD i .non)=some (ps.getD i .none)
 | [],ps,i,h,hi=>absurd hi (rP _)
 | d::r,ps,i,h,hi=>by
  obtain⟨x,ys,rfl,e1,e2⟩:=aW1 h;cases i with
  | zero=>exact e1
  | succ i=>exact bZ9 i e2 (a05 hi)
theorem bF0: ∀{ps:List PyData} (i:Nat),PyData.canLayAll0 ps=true->i<ps.length->(ps.getD i .none).canLay0=true
 | [],i,h,hi=>absurd hi (rP _)
 | x::r,i,h,hi=>by
  simp only[PyData.canLayAll0,bP]at h;cases i with
  | zero=>exact h.1
  | succ i=>exact bF0 i h.2 (a05 hi)
theorem c88: ∀{ps:List PyData} (i:Nat),i<ps.length->(ps.getD i .none).depth<=PyData.depthAll ps
 | [],i,hi=>absurd hi (rP _)
 | x::r,i,hi=>by
  simp only[PyData.depthAll];cases i with
  | zero=>exact Nat.le_max_left _ _
  | succ i=>exact aN (c88 i<|a05 hi) (Nat.le_max_right _ _)
section
variable {prog:Program}{w:World}{s:Shared}
theorem cR4 {i:Int}{r:List D}{z:List PyData}(h:pdL (.int i::r)=some z): ∃i r,z= .int i::r:=by
 simp only[pdL,pd]at h;cases e:pdL r with
 | none=>rw[e]at h;cases h
 | some q=>rw[e]at h;cases h;exact⟨_,_,rfl⟩
theorem bU2 {A:Around}{fin:Bool}{Q:Bool->Shared->Prop}: ∀(l:List (Value×Value)) (i:Nat) (s:Shared),KatLex prog w A false fin Q l i s->KatLex prog w A true fin Q l (i+1) s
 | [],i,s,h=>h
 | (p,q)::r,i,s,h=>by
  refine a18 (bD (show wpAny (model prog w) A (eqBool p q) (PySem.W.KatGo prog w A false fin Q p q r i) (λ_ _=>False) s from h) (λe s' he=> ?_) λ_ _ x=>x)
  cases e with
  | true=>exact a25 (bU2 r (i+1) s' he)
  | false=>exact a26 he
theorem dA0 {bk:Bool}: ∀(l m:List PyData) {A:Around} {Q:Bool->Shared->Prop} {us vs:List Value} {as bs:List Addr} {fin b:Bool},(bk=true-> ∃i r,l= .int i::r)->(bk=true-> ∃i r,m= .int i::r)->ReadsAll s.heap us l as->ReadsAll s.heap vs m bs->PyData.canLayAll0 l=true->PyData.canLayAll0 m=true->A.units+PyData.depthAll l<cLine->fin=decide (l.length<m.length)->a45 l m=some b->Q b s->KatLex prog w A bk fin Q (us.zip vs) 0 s:=by
 intro l m A Q us vs as bs fin b h1 h2 ra rb ca cb hu hf hb q;cases bk with
 | false=>exact b31 l m ra rb ca cb hu hf hb q
 | true=>
  obtain⟨i,l,rfl⟩:=h1 rfl;obtain⟨j,m,rfl⟩:=h2 rfl;cases ra with
  | cons ra1 ra=>
  cases rb with
  | cons rb1 rb=>
  simp only[PyData.canLayAll0,bP]at ca cb;simp only[PyData.depthAll]at hu;simp only[a45]at hb;rw[rN];refine a18 (aP3 _ _ _ _ _ _ _ _ _ _ _ _ ra1 rb1 ca.1 cb.1 ad ?_)
  by_cases c:(PyData.int i).eqv (.int j)=true
  .rw[a8 c]at hb;rw[c];exact a25 (bU2 _ 0 _<|b31 l m ra rb ca.2 cb.2 ad (by rw[hf];simp) hb q)
  .rw[a7 c]at hb;rw[show(PyData.int i).eqv (.int j)=false by simpa using c]
   refine a26 ?_
   cases ra1;cases rb1;simp only[ltQ]at hb;cases hb;exact oneLt_int q
end
section
variable {X:Cx}{pins:List (Addr×Obj)}{s:Shared}{σ:L2.St}{H:Hp}{A:AS}{h':Heap}{N:Model}
theorem cR5 (I:Inv X pins σ H s)(kp: ∀b o,s.heap.get? b=some o->h'.get? b=some o): ∀{l:List D} {vs:List V} {us:List Value},(∀x∈l,∃f r,x=D.tup (.tup f::r))->cB X.K A H l vs->Vals vs us-> ∃fs,PySem.W.KatTups h' us fs/\fs.length=us.length/\ ∀v∈fs,Looks N h' (typeOf v) (.type "tuple")
 | [],vs,us,hf,r,q=>by
  have:=r.unnil;subst this;cases q;exact⟨[],.nil,rfl,λv hv=>absurd hv ae⟩
 | d::l,vs,us,hf,r,q=>by
  obtain⟨v,vr,rfl,r1,rs⟩:=r.uncons;cases q with
  | cons q1 q2=>
   obtain⟨fs,t1,t2,t3⟩:=cR5 I kp (λx hx=>hf x (bM _ hx)) rs q2
   obtain⟨f,r,rfl⟩:=hf d (b7 ..);simp only[Rep]at r1;obtain⟨a,ws,rfl,c,rl⟩:=r1;cases q1;obtain⟨its,rv,⟨o,ho,hc,n,hd⟩,_⟩:=I.tuple (c.imp cP id);obtain⟨w1,wr,rfl,g1,_⟩:=rl.uncons;cases rv with
   | cons g2 rv=>
    simp only[Rep]at g1;obtain⟨b,zs,rfl,c',_⟩:=g1;cases g2;obtain⟨its',_,⟨o',ho',hc',n',hd'⟩,_⟩:=I.tuple (c'.imp cP id);refine⟨_,.cons (kp _ _ ho) hc hd rfl t1,by simp[t2],λv hv=> ?_⟩
    rcases aT.mp hv with rfl|hv
    .have:=show Looks N h' (typeOf<|.ref b) o'.cls from(PySem.W.Looks.ld<|kp _ _ ho').andThen .now
     rw[hc']at this;exact this
    .exact t3 v hv
theorem c89 (I:Inv X pins σ H s)(kp: ∀b o,s.heap.get? b=some o->h'.get? b=some o): ∀{l:List D} {vs:List V} {us:List Value},(∀x∈l,∃i r,x=D.tup (.int i::r))->cB X.K A H l vs->Vals vs us-> ∃fs,PySem.W.KatTups h' us fs/\fs.length=us.length/\ ∀v∈fs,Looks N h' (typeOf v) (Value.type "int")
 | [],vs,us,hf,r,q=>by
  have:=r.unnil;subst this;cases q;exact⟨[],.nil,rfl,λv hv=>absurd hv ae⟩
 | d::l,vs,us,hf,r,q=>by
  obtain⟨v,vr,rfl,r1,rs⟩:=r.uncons;cases q with
  | cons q1 q2=>
   obtain⟨fs,t1,t2,t3⟩:=c89 I kp (λx hx=>hf x (bM _ hx)) rs q2
   obtain⟨f,r,rfl⟩:=hf d (b7 ..);simp only[Rep]at r1;obtain⟨a,ws,rfl,c,rl⟩:=r1;cases q1;obtain⟨its,rv,⟨o,ho,hc,n,hd⟩,_⟩:=I.tuple (c.imp cP id);obtain⟨w1,wr,rfl,g1,_⟩:=rl.uncons;cases rv with
   | cons g2 rv=>
    simp only[Rep]at g1;subst g1;obtain⟨t,rfl⟩:=g2;refine⟨_,.cons (kp _ _ ho) hc hd rfl t1,by simp[t2],λv hv=> ?_⟩
    rcases aT.mp hv with rfl|hv
    .exact .now
    .exact t3 v hv
nonrec def bO8 (ps:List PyData)(i j:Nat):Bool:=(ltQ (ps.getD i .none)<|ps.getD j .none).getD false
structure cL0 (l:List D)(ps:List PyData):Prop where
 few:l.length<=5
 pd:pdL l=some ps
 tup:(∀x∈l,∃f r,x=D.tup (.tup f::r))\/ ∀x∈l,∃i r,x=D.tup (.int i::r)
 dep:PyData.depthAll ps<=30
 all: ∀i j,i<l.length->j<l.length->(ltQ (ps.getD i .none)<|ps.getD j .none).isSome=true
theorem cL1 (hu:X.A.units+64<cLine):qV X (.builtin "sorted") (λxs H Q=> ∃(p:Addr) (A:AS) (l:List D) (ps:List PyData) (vs:List V),xs=[.ref p]/\SqL X.K H p vs/\cB X.K A H l vs/\cL0 l ps/\
  ∀a,H a=none->Q (.ref a) (upd H a<|.lst<|(iB (bO8 ps) l.length).map λi=>vs.getD i .non)):=by
 intro pins s σ H xs us Q I r h;obtain⟨p,A,l,ps,vs,rfl,hq,rl,ok,q⟩:=h;obtain⟨u,rfl,rx⟩:=vals1 r;cases rx;obtain⟨its,rv,pl,hz⟩:=I.list hq;have e1:=rl.length;have e2:=rv.length;have e3:=cR3 ok.pd;have ln:its.length=l.length:=ad
 have l4:=ok.few;obtain⟨as,ra⟩:=vW I l ok.pd rl rv;refine cK9 (lt:=bO8 ps) ad pl.isList (λh2 h' A' hA kp=> ?_) ?_
 .have key: ∃b:Bool,(∀Q:SortKind->Shared->Prop,Q (tuples' b) {s with heap:=h'}->wpAny (model X.prog X.w) A' (keyKind' its.toArray) Q (λ_ _=>False) {s with heap:=h'})/\((b=false/\ ∀x∈l,∃f r,x=D.tup (.tup f::r))\/(b=true/\ ∀x∈l,∃i r,x=D.tup (.int i::r))):=by
   rcases ok.tup with h|h
   .obtain⟨fs,t1,t2,t3⟩:=cR5 (N:=model X.prog X.w) I kp h rl rv;exact⟨Value.type "tuple" != Value.type "tuple",λQ' q'=>aQ9 t1 ad t3 ac q',.inl ⟨ac,h⟩⟩
   .obtain⟨fs,t1,t2,t3⟩:=c89 (N:=model X.prog X.w) I kp h rl rv;exact⟨Value.type "int" != Value.type "tuple",λQ' q'=>aQ9 t1 ad t3 ac q',.inr ⟨ac,h⟩⟩
  obtain⟨bk,k1,k2⟩:=key;have tp: ∀x∈l,∃m,x=D.tup m/\(bk=true-> ∃i r,m= .int i::r):=λx hx=>by
   rcases k2 with⟨e,h⟩| ⟨e,h⟩
   .obtain⟨f,r,z⟩:=h x hx;exact⟨_,z,λy=>by rw[e]at y;cases y⟩
   .obtain⟨f,r,z⟩:=h x hx;exact⟨_,z,λ_=>⟨f,r,rfl⟩⟩
  refine⟨tuples' bk,k1,λi j hi hj Q' q'=> ?_⟩
  have hi':i<l.length:=ad
  have hj':j<l.length:=ad
  obtain⟨b1,r1⟩:=a46 i ra ad
  obtain⟨b2,r2⟩:=a46 j ra ad
  have p1:=bZ9 i ok.pd hi';have p2:=bZ9 j ok.pd hj';have c1:=bF0 i (aI3 l ok.pd) ad
  have c2:=bF0 j (aI3 l ok.pd) ad
  have d1:=c88 (ps:=ps) i ad
  have dd:=ok.dep;have ha:=ok.all i j hi' hj';unfold bO8 at q';obtain⟨f1,m1,x1⟩:=tp (l.getD i .non) (by rw[aL,aO hi'];exact bY hi')
  obtain⟨f2,m2,x2⟩:=tp (l.getD j .non) (by rw[aL,aO hj'];exact bY hj')
  rw[m1]at p1;rw[m2]at p2;generalize ps.getD i .none=y1 at *;generalize ps.getD j .none=y2 at *;simp only[M.pd]at p1 p2;obtain⟨z1,n1,rfl⟩:=pR p1;obtain⟨z2,n2,rfl⟩:=pR p2;have hd1:bk=true-> ∃i r,z1= .int i::r:=λe=>by
   obtain⟨i',r',rfl⟩:=x1 e;exact cR4 n1
  have hd2:bk=true-> ∃i r,z2= .int i::r:=λe=>by
   obtain⟨i',r',rfl⟩:=x2 e;exact cR4 n2
  generalize its.getD i .none=v1 at *;generalize its.getD j .none=v2 at *;cases r1 with
  | tuple ho hc hd rr=>
  cases r2 with
  | tuple ho' hc' hd' rr'=>
  obtain⟨b,hb⟩:=aN1.mp ha;rw[hb]at q';simp only[ltQ]at hb;simp only[PyData.canLay0]at c1 c2;simp only[PyData.depth]at d1;refine PySem.W.kat_lt (kp _ _ ho) hd (kp _ _ ho') hd' (dA0 z1 z2 hd1 hd2 (ReadsAll.keeps kp rr) (ReadsAll.keeps kp rr') c1 c2 ad ?_ hb q')
  have l1:=qE (s:=s) rr;have l2:=qE (s:=s) rr';rw[<-l1,<-l2,oS,oS]
 .refine⟨.ref<|s.heap.objs.size+1,_,?_,rfl,q (s.heap.objs.size+1)<|I.hok.fresh<|pC _⟩
  obtain⟨c,hc⟩:=sortedAll_at s.heap its ((iB (bO8 ps) its.length).map λi=>its.getD i .none).toArray
  refine I.laid (t':=s.toks) (λb o e=>sortedAll_old e) (pC _) ?_
  have hs: ∀i∈iB (bO8 ps) its.length,i<its.length:=by
   intro i hi;unfold iB at hi;split at hi
   .exact cJ.mp hi
   .exact(aI4 _<|aW2 its.length ad ad).2 i hi
  have hl:(iB (bO8 ps) its.length).length=its.length:=by
   unfold iB;split
   .simp
   .exact(aI4 _<|aW2 its.length ad ad).1
  refine⟨?_,(iB (bO8 ps) its.length).map λi=>its.getD i .none,c,?_,hc⟩
  .rw[aF,<-ln,hl];exact aN ad (show 5<=sizeLine by decide)
  .rw[<-ln];have go: ∀ks:List Nat,(∀i∈ks,i<its.length)->Vals (ks.map λi=>vs.getD i .non) (ks.map λi=>its.getD i .none):=by
    intro ks
    induction ks with
    | nil=>exact λ_=> .nil
    | cons i ks ih=>
     intro hk;refine .cons ?_ (ih λj hj=>hk j (bM _ hj))
     have hi:i<its.length:=hk i (b7 ..);obtain⟨u,e5,e6⟩:=rv.get (i:=i) (aO ad)
     show RelV (vs.getD i .non) (its.getD i .none)
     rw[aL,aL,e5,aO ad]
     exact e6
   exact go _ hs
theorem aW3 {lt:Nat->Nat->Bool}(h4:n<=5): ∀i∈iB lt n,i<n:=by
 intro i hi;unfold iB at hi;split at hi
 .exact cJ.mp hi
 .exact(aI4 _<|aW2 n h4 ad).2 i hi
nonrec def b32:List D->(B->Prop)->Prop:=g1 λd Q=> ∃(l:List D) (ps:List PyData),d= .lst l/\cL0 l ps/\Q (.ow<|(iB (bO8 ps) l.length).map λi=>l.getD i .non)
theorem c90 (hu:X.A.units+64<cLine):xA X (.builtin "sorted") b32:=by
 intro A H ds vs Q0 Q hA r g k;obtain⟨d,v,rfl,rfl,rv,l,ps,rfl,ok,g'⟩:=a42 g r;simp only[Rep]at rv;obtain⟨p,xs,rfl,np,hp,rl⟩:=rv;refine⟨_,cL1 hu,p,A,l,ps,xs,rfl,.inl<|.inl hp,rl,ok,λa ha=>k _ _ _ g' (fL ha _) ?_⟩
 have go: ∀ks:List Nat,(∀i∈ks,i<l.length)->cB X.K A H (ks.map λi=>l.getD i .non) (ks.map λi=>xs.getD i .non):=by
  intro ks
  induction ks with
  | nil=>exact λ_=> .nil
  | cons i ks ih=>
   intro hk;have hi:=hk i (b7 ..);refine .cons ?_ (ih λj hj=>hk j (bM _ hj))
   obtain⟨u,e5,e6⟩:=rl.get (aO hi);show Rep _ _ _ (l.getD i .non) (xs.getD i .non);rw[aL,aL,e5,aO hi];exact e6
 exact gO (.refl _) ha (go _<|aW3 ok.few)
nonrec def bF1 (b:Nat):Nat->List (List Nat)
 | 0=>[[]]
 | k+1=>(bF1 b k).flatMap λl=>(List.range b).map (· ::l)
nonrec def dX1 (n:Nat)(r:List Nat):Bool:=
 let p:=iB (λi j=>decide (r.getD i 0<r.getD j 0)) n
 p.isPerm (List.range n)&&p.length==n&&(List.range n).all (λi=>p.contains i)&&(List.range<|n-1).all (λi=>decide (r.getD (p.getD i 0) 0<=r.getD (p.getD (i+1) 0) 0/\p.getD i 0≠p.getD (i+1) 0))
theorem cZ2:(List.range 6).all (λn=>(bF1 n n).all (dX1 n))=true:=af
theorem bF2 {b:Nat}: ∀(k:Nat) (l:List Nat),l.length=k->(∀x∈l,x<b)->l∈bF1 b k
 | 0,l,h,_=>by rw[oP.mp h];simp[bF1]
 | k+1,[],h,_=>by simp at h
 | k+1,x::l,h,hx=>by
  simp only[bF1,List.mem_flatMap,cD,cJ];exact⟨l,bF2 k l (by exists h) λy hy=>hx y (bM _ hy),x,hx x<|b7 ..,rfl⟩
nonrec def xD (f:Nat->Int)(n i:Nat):Nat:=((List.range n).filter λj=>decide (f j<f i)).length
theorem cL2 {f:Nat->Int}(h:f i<=f j):xD f n i<=xD f n j:=by
 unfold xD;rw[<-List.countP_eq_length_filter,<-List.countP_eq_length_filter];exact aO7 λx _ hx=>bQ (Int.lt_of_lt_of_le (fZ hx) h)
theorem c91 {f:Nat->Int}(hi:i<n)(h:f i<f j):xD f n i<xD f n j:=by
 unfold xD;have e: ∀l:List Nat,(l.filter λk=>decide (f k<f i)).length<=(l.filter λk=>decide (f k<f j)).length/\(i∈l->(l.filter λk=>decide (f k<f i)).length< (l.filter λk=>decide (f k<f j)).length):=by
  intro l
  induction l with
  | nil=>simp
  | cons x l ih=>
   obtain⟨h1,h2⟩:=ih
   by_cases c1:f x<f i
   .have c2:f x<f j:=aa
    simp only[vB,bQ c1,bQ c2,iQ,dP,aT];refine⟨aa,λhm=> ?_⟩
    rcases hm with rfl|hm
    .omega
    .have:=h2 hm;omega
   .by_cases c2:f x<f j
    .simp only[vB,bZ c1,bQ c2,iQ,oU,gW,dP,aT];exact⟨aa,λ_=>aa⟩
    .simp only[vB,bZ c1,bZ c2,oU,gW,aT];refine⟨h1,λhm=> ?_⟩
     rcases hm with rfl|hm
     .omega
     .exact h2 hm
 exact(e<|List.range n).2 (cJ.mpr hi)
theorem cL3 {f:Nat->Int}(hi:i<n):xD f n i<n:=by
 have:xD f n i< (List.range n).length:=by
  unfold xD;have e: ∀l:List Nat,(l.filter λk=>decide (f k<f i)).length<=l.length/\(i∈l->(l.filter λk=>decide (f k<f i)).length<l.length):=by
   intro l
   induction l with
   | nil=>simp
   | cons x l ih=>
    obtain⟨h1,h2⟩:=ih
    by_cases c1:f x<f i
    .simp only[vB,bQ c1,iQ,dP,aT];refine⟨aa,λhm=> ?_⟩
     rcases hm with rfl|hm
     .omega
     .have:=h2 hm;omega
    .simp only[vB,bZ c1,oU,gW,dP,aT];exact⟨aa,λ_=>aa⟩
  exact(e<|List.range n).2 (cJ.mpr hi)
 exists this
theorem aS1 {n:Nat}{lt lt':Nat->Nat->Bool}(h: ∀i j,i<n->j<n->lt i j=lt' i j): ∀t:KasT (Array Nat),kok n t=true->b91 lt t=b91 lt' t
 | .ret p,_=>rfl
 | .ask i j k,hk=>by
  simp only[kok,bP,cR]at hk;simp only[b91];rw[h i j hk.1.1.1 hk.1.1.2];cases lt' i j
  .exact aS1 h _ hk.2
  .exact aS1 h _ hk.1.2
theorem b69 (h4:n<=5){lt lt':Nat->Nat->Bool}(h: ∀i j,i<n->j<n->lt i j=lt' i j):iB lt n=iB lt' n:=by
 unfold iB;split
 .rfl
 .rw[aS1 h _<|aW2 n h4 ad]
theorem cZ3 (h4:n<=5){lt:Nat->Nat->Bool}{f:Nat->Int}(h: ∀i j,i<n->j<n->lt i j=decide (f i<f j)) :
  (iB lt n).Perm (List.range n)/\(iB lt n).length=n/\(∀i,i<n->i∈iB lt n)/\ ∀i,i+1<n->f ((iB lt n).getD i 0)<=f ((iB lt n).getD (i+1) 0)/\(iB lt n).getD i 0≠(iB lt n).getD (i+1) 0:=by
 have g:=cC.mp cZ2 n (cJ.mpr ad)
 have hr: ∀i,i<n->((List.range n).map<|xD f n).getD i 0=xD f n i:=λi hi=>by simp[aL,hi]
 have g:=cC.mp g ((List.range n).map<|xD f n) (bF2 _ _ ae<|by simpa using λi hi=>cL3 hi)
 simp only[dX1,bP,gA,cC,cJ,List.contains_iff_mem,cR,List.isPerm_iff]at g;have e:iB (λi j=>decide (((List.range n).map<|xD f n).getD i 0< ((List.range n).map<|xD f n).getD j 0)) n=iB lt n:=by
  refine b69 h4 λi j hi hj=> ?_
  rw[hr i hi,hr j hj,h i j hi hj]
  by_cases c:f i<f j
  .rw[bQ c,bQ<|c91 hi c]
  .rw[bZ c,bZ<|Nat.not_lt.mpr<|cL2 ad]
 rw[e]at g;refine⟨g.1.1.1,g.1.1.2,g.1.2,λi hi=> ?_⟩
 have g3:=g.2 i ad
 have m1:=aW3 (lt:=lt) h4 ((iB lt n).getD i 0) (by rw[aL,aO ad];exact bY _)
 have m2:=aW3 (lt:=lt) h4 ((iB lt n).getD (i+1) 0) (by rw[aL,aO ad];exact bY _)
 rw[hr _ m1,hr _ m2]at g3;exact⟨Int.not_lt.mp λz=>absurd (c91 m2 z) (Nat.not_lt.mpr g3.1),g3.2⟩
end
end M
end
section
namespace L2
end L2
namespace M
section
variable {X:Cx}{e a b:Expr}{te ta tb:UE}{t u:US}{sts:List Stmt}{pos:Pos}
theorem hJ {g:D->D->(B->Prop)->Prop}(ho:OpU X (compareOp op) g)(ha:PU X a ta)(hb:PU X b tb)(hm:behindInMarks op b=false:=by exact bX6 _):PUT X (.Compare a [op] [b] pos) (dF<|uOp g ta tb):=bB0 ho ha hb hm
theorem b92 {g:D->D->(B->Prop)->Prop}(ho:OpU X (compareOp op) g)(ha:PU X a ta)(hb:PU X b tb)(hm:behindInMarks op b=false:=by exact bX6 _):PU X (.Compare a [op] [b] pos) (uOp g ta tb):=pu_cmp ho ha hb hm
theorem cM (i:Nat)(hN:X.N.Nodup)(he:PU X e te)(r:tL X sts u)(hi:↥(X.N[i]? =some x))(hx:Loc X.env.scope x:=by walk_at "z")(hs:↥(swapsWith e (some<|.Name x pos') pos.line X.env=pure false))(hf:X.fn x=true\/X.env.scope.names.lookup x=some .local:=by walk_at "z")
  (hl: ∀pins σ H s,Inv X pins σ H s->i<σ.length:=by exact ilB rfl):tL X (.Assign [.Name x pos'] e pos::sts) (aW (cE i te) u):=bV (aB3 i hN he hi hx hs hf hl) r
theorem gF (h:PU X e te):tL X [.Return (some e) pos] (eJ te):=bN (d65 h)
theorem aW4 {tc:UT}(hc:PUT X c tc)(ha:tL X sts t):PUS X (.If c sts [] pos) (fU tc t dG):=d66 hc ha cJ1
theorem iW {tc:UT}{r:List Stmt}(hc:PUT X c tc)(ha:tL X sts t)(hr:tL X r u):tL X (.If c sts [] pos::r) (aW (fU tc t dG) u):=bV (aW4 hc ha) hr
theorem zH {ui:UI}(i:Nat)(hN:X.N.Nodup)(hi:PUI X (.Name x p) iter ui)(hb:tL X sts t)(hp:PassesOwn (model X.prog X.w) X.A X.env X.xe:=by exact jY)(hc:↥(X.calm=true))(hx:↥(X.N[i]? =some x))(hl:Loc X.env.scope x:=by walk_at "z")
  (hs: ∀x,foldedSetIterable iter X.env x=pure x:=by intro _;rfl) (hf:X.fn x=true\/X.env.scope.names.lookup x=some .local:=by walk_at "z"):PUS X (.For (.Name x p) iter sts [] pos) (mK ui (dM i) t):=b24 hp hc hi (sV i<|cA hN hx hl hf) hb hs
theorem xE (N:List Str)(esc:List (Str×NameKind))(XN:List Str){ui:UI}{tt:UT}(hi:PUI X (.Name x p) iter ui)(ht: ∀cl C s H fp pins,PTs (cG X N scope cl C s H fp pins) ifs<|lT X.K tt)(he: ∀cl C s H fp pins,PU (cG X N scope cl C s H fp pins) elt te)
  (he0:↥(X.env.scope.names=esc)) (hx0:↥(X.N=XN)) (lk:zF esc XN N cap scope last=true:=by decide +kernel) (hl:⇑(last<cap.length)) (hT:⇑(last ∉ [i])) (hc:↥(X.calm=true)) (hN:N.Nodup:=by decide +kernel) (hx:↥(N[i]? =some x)) (hy: ∀cl C s H fp pins,Loc (cG X N scope cl C s H fp pins).env.scope x:=by intro _ _ _ _ _ _;first|exact Or.inl rfl|exact Or.inr rfl)
  (hs: ∀x,foldedSetIterable iter X.env x=pure x:=by intro _;rfl) (hf: ∀cl C s H fp pins,(cG X N scope cl C s H fp pins).fn x=true\/(cG X N scope cl C s H fp pins).env.scope.names.lookup x=some .local:=by intro _ _ _ _ _ _;first|exact .inl rfl|exact .inr rfl|assumption):PU X (.ListComp elt [⟨.Name x p,iter,ifs,0⟩] scope pos) (gD js cap last ui (dM i) tt te):=
 aV7 he0 hx0 lk hl hT hc hi (λ_ _ _ _ _ _=>sV i (cA hN hx (hy ..)<|hf ..)) ht he hs
end
section
variable {X:Cx}{K:Frag}{ρ ρ':Ev}{σ σ':L2.St}{H H':Hp}
variable {o e e2:Expr}{te te2:UE}{x y:Str}{px py py2 apos cpos bpos fpos apos2 cpos2 epos:Pos}
end
end M
end
section
namespace L2
end L2
namespace M
section
variable {X:Cx}{K:Frag}{last:Nat}{ui ui2:UI}{g g2:UG}{T T2:List Nat}{tt tt2:UT}{te:UE}
variable {elt iter tg iter2 tg2:Expr}{ifs ifs2:List Expr}{scope:Scope}{pos spos py:Pos}{y:Str}{esc:List (Str×NameKind)}{N XN:List Str}{js:List Nat}{cap:List (Option Nat)}
end
abbrev GP:=List (Addr×List V)
end M
end
section
namespace L2
end L2
namespace M
end M
namespace L2
end L2
namespace M
end M
end
section
namespace L2
end L2
namespace M
open PySem L2
structure aK4 {α:Type}(lt:α->α->Bool):Prop where
 irr: ∀a,lt a a=false
 tr: ∀a b c,lt a b=true->lt b c=true->lt a c=true
 tot: ∀a b,lt a b=false->lt b a=false->a=b
section
variable {α:Type}{lt:α->α->Bool}{d:α}
theorem dA1 (o:aK4 lt){A:List α}{x y:α}(hx:x∈A)(h:lt x y=true):A.countP (λz=>lt z x)<A.countP λz=>lt z y:=by
 induction A with
 | nil=>cases hx
 | cons a A ih=>
  rw[List.countP_cons,List.countP_cons];have le:A.countP (λz=>lt z x)<=A.countP λz=>lt z y:=aO7 λz _ hz=>o.tr _ _ _ hz h
  rcases aT.mp hx with rfl|hx
  .rw[o.irr,h];simp;omega
  .have:=ih hx
   by_cases c:lt a x=true
   .rw[c,o.tr _ _ _ c h];simp;exact this
   .rw[a14.mpr c];simp;omega
theorem rkO_le (o:aK4 lt){A:List α}{x y:α}(h:lt x y=false):A.countP (λz=>lt z y)<=A.countP λz=>lt z x:=by
 refine aO7 λz _ hz=> ?_
 cases e:lt z x with
 | true=>rfl
 | false=>
  cases f:lt x z with
  | true=>rw[o.tr _ _ _ f hz]at h;cases h
  | false=>
   obtain rfl:=o.tot _ _ e f;rw[hz]at h;cases h
nonrec def sIO (lt:α->α->Bool)(d:α)(A:List α):List Nat:=iB (λi j=>lt (A.getD i d) (A.getD j d)) A.length
nonrec def xZ (lt:α->α->Bool)(d:α)(A:List α):List α:=(sIO lt d A).map λi=>A.getD i d
theorem c92 (o:aK4 lt){A:List α}(h:A.length<=5):(sIO lt d A).Perm (List.range A.length)/\(sIO lt d A).length=A.length/\(∀i,i<A.length->i∈sIO lt d A)/\ ∀i,i+1<A.length->(A.countP (λz=>lt z (A.getD ((sIO lt d A).getD i 0) d)):Int)<=A.countP (λz=>lt z (A.getD ((sIO lt d A).getD (i+1) 0) d))/\(sIO lt d A).getD i 0≠(sIO lt d A).getD (i+1) 0:=
 cZ3 (n:=A.length) h (lt:=λi j=>lt (A.getD i d) (A.getD j d)) (f:=λi=>(A.countP (λz=>lt z (A.getD i d)):Int)) λi j hi hj=>by
 have mi:A.getD i d∈A:=by rw[aL,aO hi];exact bY hi
 cases e:lt (A.getD i d) (A.getD j d)with
 | true=>exact(bQ (by have:=dA1 o mi e;omega)).symm
 | false=>exact(bZ (by have:=rkO_le o (A:=A) e;omega)).symm
theorem zI (o:aK4 lt){A:List α}(h:A.length<=5):(xZ lt d A).Perm A:=by
 have a:=(c92 (d:=d) o h).1.map λi=>A.getD i d
 have e:(List.range A.length).map (λi=>A.getD i d)=A:=by
  apply oZ
  .simp
  .intro i h1 h2;simp[aL,h2]
 rw[e]at a;exact a
theorem cR6 (o:aK4 lt){A:List α}(h:A.length<=5):(xZ lt d A).Pairwise λx y=>lt y x=false:=by
 obtain⟨pm,ln,_,st⟩:=c92 (d:=d) o h;have sp:=zI (d:=d) o h;have at': ∀i (hi:i< (xZ lt d A).length),(xZ lt d A)[i]=A.getD ((sIO lt d A).getD i 0) d:=λi hi=>by
  unfold xZ at hi⊢;rw[aF]at hi;simp[aL,hi]
 have sl:(xZ lt d A).length=A.length:=sp.length_eq;have one: ∀i (hi:i+1< (xZ lt d A).length),lt (xZ lt d A)[i+1] (xZ lt d A)[i]=false:=λi hi=>by
  have q:=(st i aa).1
  rw[<-at' i aa,<-at' (i+1) hi]at q
  cases f:lt (xZ lt d A)[i+1] (xZ lt d A)[i]with
  | true=>
   have:=dA1 o (A:=A) (sp.mem_iff.mp<|bY hi) f;omega
  | false=>rfl
 have le_tr: ∀a b c,lt b a=false->lt c b=false->lt c a=false:=λa b c h1 h2=>by
  cases e:lt c a with
  | false=>rfl
  | true=>
   cases f:lt a b with
   | true=>rw[o.tr _ _ _ e f]at h2;cases h2
   | false=>
    obtain rfl:=o.tot _ _ f h1;rw[e]at h2;cases h2
 have all: ∀k i (hi:i+1+k< (xZ lt d A).length),lt (xZ lt d A)[i+1+k] (xZ lt d A)[i]=false:=by
  intro k
  induction k with
  | zero=>exact one
  | succ k ih=>exact λi hi=>le_tr _ _ _ (ih i aa) (one (i+1+k) hi)
 rw[uT];intro i j hi hj lt;obtain⟨k,rfl⟩: ∃k,j=i+1+k:=⟨j-i-1,aa⟩
 exact all k i hj
theorem c93 (o:aK4 lt){A S:List α}(h:A.length<=5)(h2:S.length<=5):xZ lt d A=xZ lt d S↔A.Perm S:=by
 constructor
 .intro e;have a:=zI (d:=d) o h;rw[e]at a;exact a.symm.trans (zI o h2)
 .intro p;exact List.Perm.eq_of_pairwise (λa b _ _ h1 h2=>o.tot _ _ h2 h1) (cR6 o h) (cR6 o h2) ((zI o h).trans<|p.trans (zI o h2).symm)
def c00 {β:Type}[DecidableEq α](l1:α->α->Bool)(l2:β->β->Bool)(a b:α×β):Bool:=if a.1=b.1 then l2 a.2 b.2 else l1 a.1 b.1
theorem bF3 {β:Type}[DecidableEq α]{l1:α->α->Bool}{l2:β->β->Bool}(o:aK4 l1)(p:aK4 l2):aK4 (c00 l1 l2) where
 irr a:=by unfold c00;rw[a8 rfl];exact p.irr _
 tr a b c h h2:=by
  unfold c00 at h h2⊢
  by_cases e:a.1=b.1
  .rw[a8 e]at h
   by_cases f:b.1=c.1
   .rw[a8 f]at h2;rw[a8<|e.trans f];exact p.tr _ _ _ h h2
   .rw[a7 f]at h2;rw[a7 (by rw[e];exact f),e]
    exact h2
  .rw[a7 e]at h
   by_cases f:b.1=c.1
   .rw[a7 (by rw[<-f];exact e),<-f]
    exact h
   .rw[a7 f]at h2;have g:=o.tr _ _ _ h h2;rw[a7 (λz=>by rw[z,o.irr]at g;cases g)]
    exact g
 tot a b h h2:=by
  unfold c00 at h h2
  by_cases e:a.1=b.1
  .rw[a8 e]at h;rw[a8 e.symm]at h2;exact gJ e (p.tot _ _ h h2)
  .rw[a7 e]at h;rw[a7 λz=>e z.symm]at h2
   exact(e<|o.tot _ _ h h2).elim
def ltI (a b:Int):Bool:=decide (a<b)
theorem bB4:aK4 ltI where
 irr a:=bZ (Int.lt_irrefl _)
 tr a b c h h2:=bQ (Int.lt_trans (fZ h)<|fZ h2)
 tot a b h h2:=by have:=of_decide_eq_false h;have:=of_decide_eq_false h2;omega
def ltR [DecidableEq α](l:α->α->Bool):List α->List α->Bool
 | [],[]=>false
 | [],_::_=>true
 | _::_,[]=>false
 | x::a,y::b=>if x=y then ltR l a b else l x y
theorem bB5 [DecidableEq α]: ∀a:List α,ltR lt a a=false
 | []=>rfl
 | x::a=>by rw[ltR,a8 rfl];exact bB5 a
theorem dA2 [DecidableEq α](o:aK4 lt): ∀a b c:List α,ltR lt a b=true->ltR lt b c=true->ltR lt a c=true
 | [],[],_,h,_=>by cases h
 | [],_::_,[],_,h=>by cases h
 | [],_::_,_::_,_,_=>rfl
 | _::_,[],_,h,_=>by cases h
 | _::_,_::_,[],_,h=>by cases h
 | x::a,y::b,z::c,h,h2=>by
  rw[ltR]at h h2⊢
  by_cases e:x=y
  .subst e;rw[a8 rfl]at h
   by_cases f:x=z
   .rw[a8 f]at h2⊢;exact dA2 o a b c h h2
   .rw[a7 f]at h2⊢;exact h2
  .rw[a7 e]at h
   by_cases f:y=z
   .subst f;rw[a7 e];exact h
   .rw[a7 f]at h2;have g:=o.tr _ _ _ h h2;rw[a7 (λq=>by rw[q,o.irr]at g;cases g)]
    exact g
theorem cR7 [DecidableEq α](o:aK4 lt): ∀a b:List α,ltR lt a b=false->ltR lt b a=false->a=b
 | [],[],_,_=>rfl
 | [],_::_,h,_=>by cases h
 | _::_,[],_,h=>by cases h
 | x::a,y::b,h,h2=>by
  rw[ltR]at h h2
  by_cases e:x=y
  .subst e;rw[a8 rfl]at h h2;rw[cR7 o a b h h2]
  .rw[a7 e]at h;rw[a7 λz=>e z.symm]at h2
   exact(e<|o.tot _ _ h h2).elim
theorem c01 [DecidableEq α](o:aK4 lt):aK4 (ltR lt):=⟨bB5,dA2 o,cR7 o⟩
abbrev lM:=List Int×Int×List Int
def lt3:lM->lM->Bool:=c00 (ltR ltI) (c00 ltI<|ltR ltI)
theorem cR8:aK4 lt3:=bF3 (c01 bB4) (bF3 bB4<|c01 bB4)
abbrev cH:=Int×List lM
def dP7:cH->cH->Bool:=c00 ltI (ltR lt3)
theorem dA3:aK4 dP7:=bF3 bB4 (c01 cR8)
end
section
variable {X:Cx}{es:List Expr}{t:UA}
structure WE (X:Cx)(e:Expr)(t:UE):Prop where
 out:PU X e t
theorem we_l (h:WA X es t):WE X (.List es p) (dY t):=⟨cN h.out⟩
theorem we_a {f:Expr}{ta tb:UE}(a:PU X e ta)(b:WE X f tb):WE X (.BinOp e .Add f p) (uOp fH ta tb):=⟨aM cF a b.out⟩
theorem cZ4 {fs:List Expr}{tf:UA}(a:WA X fs tf)(h:WA X es t):WA X (.List fs p::es) (a6 (dY tf) t):=⟨aC (cN a.out) h.out rfl⟩
theorem wa_e {f:Expr}{o:Operator}{te:UE}(a:WE X (.BinOp e o f p) te)(h:WA X es t):WA X (.BinOp e o f p::es) (a6 te t):=⟨aC a.out h.out rfl⟩
theorem we_t {j}(h:WA X es t):WE X (.Tuple es j p) (bL t):=⟨bK h.out⟩
theorem dX2 {g:UG}{T:List Nat}{tb u:US}(h:WA X es t)(hg:PUG X tg T g)(hb:tL X body tb)(r:WS X sts u)(hp:PassesOwn (model X.prog X.w) X.A X.env X.xe)(hc:↥(X.calm=true)):WS X (.For tg (.List es p) body [] pos::sts) (aW (mK (fS<|dY t) g tb) u):=⟨bV (b24 hp hc (gZ<|cN h.out) hg hb λ_=>rfl) r.out⟩
end
end M
end
namespace L2
def Calm (f:Obj->Obj):Prop:= ∀o,(f o).dict=o.dict/\(o.isFreed=false->(f o).isFreed=false)
def qU {α:Type}:Sem α->Prop
 | .pure _=>True
 | .raise _=>True
 | .unsupported _=>True
 | .finish _=>True
 | .rule _ k=>qU (k ())
 | .at _ k=>qU (k ())
 | .load _ _ k=> ∀o,qU (k o)
 | .update _ _ f k=>Calm f/\qU (k ())
 | .alloc _ k=> ∀a,qU (k a)
 | .loadIfAlive _ k=> ∀o,qU (k o)
 | .point _ k=>qU (k ())
 | .register _ _=>True
 | .stack k=> ∀l,qU (k l)
 | _=>False
def DK (h h':Heap):Prop:= ∀b o,h.get? b=some o-> ∃o',h'.get? b=some o'/\o'.dict=o.dict
theorem DK.refl (h:Heap):DK h h:=λb o q=>⟨o,q,rfl⟩
theorem DK.trans {h'':Heap}(a:DK h h')(b:DK h' h''):DK h h'':=λc o q=>by
 obtain⟨o',q',e⟩:=a c o q;obtain⟨o'',q'',e'⟩:=b c o' q';exact⟨o'',q'',e'.trans e⟩
theorem DK.update {f:Obj->Obj}(c:Calm f):DK h (h.update a f):=λb o q=>by
 by_cases e:a=b
 .subst e;exact⟨f o,rD f q<|(c o).2 (Heap.get?_some_iff.mp q).2,(c o).1⟩
 .exact⟨o,(aO2 _ _ e).trans q,rfl⟩
theorem dP8 {α:Type}{M:Model}{Γ:PySem.Ctx}: ∀{t:Sem α} {Q:α->Pos->Shared->Prop} {E:Value->Pos->Shared->Prop} {p:Pos} {s:Shared},qU t->Sem.wp M Γ t Q E p s->Sem.wp M Γ t (λa p' s'=>Q a p' s'/\DK s.heap s'.heap) (λe p' s'=>E e p' s'/\DK s.heap s'.heap) p s:=by
 intro t
 induction t with
 | pure a=>intro Q E p s _ h;exact⟨h,.refl _⟩
 | raise e=>intro Q E p s _ h;exact⟨h,.refl _⟩
 | rule _ k ih=>intro Q E p s t h;exact ih () t h
 | «at» _ k ih=>intro Q E p s t h;exact ih () t h
 | load a _ k ih=>intro Q E p s t ⟨o,q,h⟩;exact⟨o,q,ih o (t o) h⟩
 | update a _ f k ih=>
  intro Q E p s t ⟨q,h⟩;refine⟨q,?_⟩;have:=ih () t.2 h;exact Sem.wp_mono _ _ _ (λa p' s' z=>⟨z.1,(DK.update t.1).trans z.2⟩) (λa p' s' z=>⟨z.1,(DK.update t.1).trans z.2⟩) _ _ this
 | alloc o k ih=>
  intro Q E p s t h;have:=ih _ (t _) h;have pu:DK s.heap (s.heap.push o):=λb o' q=>⟨o',bE _ q,rfl⟩
  exact Sem.wp_mono _ _ _ (λa p' s' z=>⟨z.1,pu.trans z.2⟩) (λa p' s' z=>⟨z.1,pu.trans z.2⟩) _ _ this
 | loadIfAlive a k ih=>intro Q E p s t h;exact ih _ (t _) h
 | point _ k ih=>intro Q E p s t h;exact ih () t h
 | stack k ih=>intro Q E p s t h;exact ih _ (t _) h
 | unsupported _=>intro Q E p s _ h;exact h.elim
 | finish _=>intro Q E p s _ h;exact h.elim
 | register _ _=>intro Q E p s _ h;exact h.elim
 | _=>intro Q E p s t h;exact False.elim t
theorem cU {α β:Type}{f:α->Sem β}: ∀{t:Sem α},qU t->(∀a,qU<|f a)->qU (t.bind f):=by
 intro t
 induction t with
 | pure a=>intro _ h;exact h a
 | raise e=>intro _ _;exact trivial
 | unsupported _=>intro _ _;exact trivial
 | finish _=>intro _ _;exact trivial
 | rule _ k ih=>intro t h;exact ih () t h
 | «at» _ k ih=>intro t h;exact ih () t h
 | load a _ k ih=>intro t h o;exact ih o (t o) h
 | update a _ f k ih=>intro t h;exact⟨t.1,ih () t.2 h⟩
 | alloc o k ih=>intro t h a;exact ih a (t a) h
 | loadIfAlive a k ih=>intro t h o;exact ih o (t o) h
 | point _ k ih=>intro t h;exact ih () t h
 | register _ _=>intro _ _;exact trivial
 | stack k ih=>intro t h l;exact ih l (t l) h
 | _=>intro t _;exact False.elim t
theorem a47 {α:Type}{M:Model}{t:Sem α}{Q:α->Shared->Prop}(c:qU t)(h:wpAny M A t Q E s):wpAny M A t (λa s'=>Q a s'/\DK s.heap s'.heap) (λe s'=>E e s'/\DK s.heap s'.heap) s:=λΓ p hin=>dP8 c (h Γ p hin)
theorem bU3 {part:Option Value}:qU (loadPart a part):=λ_=>trivial
theorem c94 (v:Value):qU (fieldsOf v):=by
 unfold fieldsOf;split
 .refine cU bU3 λo=> ?_
  split<;>exact trivial
 .exact trivial
theorem a48 (v:Value)(i:Nat):qU (PySem.field v i):=cU (c94 v) λvs=>by
 split<;>exact trivial
theorem c95 (f:Array Value->Array Value):Calm (Obj.mapFields f):=λo=>by
 obtain⟨c,d,dt,sl⟩:=o;cases dt<;>exact⟨rfl,λh=>h⟩
theorem y8 (v:Value)(i:Nat)(x:Value):qU (setField v i x):=by
 unfold setField;split
 .unfold updateField;refine cU bU3 λo=> ?_
  split
  .split
   .exact⟨c95 _,trivial⟩
   .exact trivial
  .exact trivial
 .exact trivial
theorem aB5 (e:Value)(f:Option Addr):qU (setFlight e f):=cU (a48 _ _) λtb=>by
 split
 .exact y8 _ _ _
 .exact trivial
theorem aS2:qU stack:=λ_=>trivial
theorem cL4 (f:Addr)(b:Bool):qU (entryPlaceOf f b):=cU aS2 λl=>by
 split<;>exact trivial
theorem dA4 (cls:Value)(data:Data)(d:Option Addr):qU (newObj cls data d):=by
 have as:qU (newObjAsIs cls data d):=by
  unfold newObjAsIs;refine cU (λ_=>trivial) λa=> ?_
  split
  .refine cU ?_ λb=> ?_
   .unfold classHasDel;refine cU (λ_=>trivial) λo=> ?_
    split<;>exact trivial
   .split<;>exact trivial
  .exact trivial
 unfold newObj;split<;>first|exact as| (split<;>first|exact as|exact trivial| (refine cU trivial λ_=>as))
theorem cL5 (a b c d e:Value)(pl:List Value):qU (EntryCells.newEntry a b c d e pl):=by
 unfold EntryCells.newEntry newFields;exact dA4 _ _ _
theorem bF4: ∀l:List Env,qU (readyFrames l)
 | []=>trivial
 | env::outer=>by
  unfold readyFrames;split
  .refine cU (λ_=>trivial) λo=> ?_
   split
   .exact trivial
   .refine cU ?_ λb=> ?_
    .unfold behindIsImport;split
     .exact trivial
     .split
      .exact trivial
      .exact cU (a48 _ _) λ_=>trivial
    .refine cU ?_ λv=> ?_
     .unfold keptBack;split
      .split
       .exact trivial
       .exact cU (cU aS2 λ_=>trivial) λ_=>trivial
      .exact trivial
     .exact⟨λo=>⟨rfl,λh=>by obtain⟨c,d,dt,sl⟩:=o;cases dt<;>exact h⟩,bF4 outer⟩
  .exact trivial
theorem cL6 (env:Env):qU (PySem.frameOf env):=by
 unfold PySem.frameOf;refine cU (cU aS2 λ_=>trivial) λl=>cU ?_ λo=> ?_
 .unfold frameObject;split
  .exact trivial
  .exact cU (bF4 _) λ_=>trivial
 .split<;>exact trivial
theorem bU4 (e:Value)(env:Env):qU (noteFrame e env):=by
 have last: ∀h f,qU (do setField e 1 (<-EntryCells.newEntry h (<-PySem.frameOf env) .none (rawInt f) .none (<-entryPlaceOf f (h != .none)))):=λh f=>
  cU (cL6 env) λa=>cU (cL4 _ _) λb=>cU (cL5 _ _ _ _ _ _) λc=>y8 _ _ _
 unfold noteFrame;split
 .refine cU (a48 _ _) λh=> ?_
  split
  .refine cU (a48 _ _) λx=> ?_
   split
   .exact trivial
   .exact cU (y8 _ _ _) λ_=>last _ _
  .exact last _ _
 .exact trivial
theorem aW5 (env:Env)(e:Value):qU (leaving env e):=cU (bU4 e env) λ_=>aB5 e none
def Tr (h:Heap)(e T:Addr):Prop:= ∃oe vs,h.get? e=some oe/\oe.data= .fields vs/\vs[1]? =some (.ref T)
theorem Tr.one {e T T':Addr}(a:Tr h e T)(b:Tr h e T'):T=T':=by
 obtain⟨o,vs,h1,h2,h3⟩:=a;obtain⟨o',vs',g1,g2,g3⟩:=b;rw[h1]at g1;cases g1;rw[h2]at g2;cases g2;rw[h3]at g3;cases g3;rfl
structure aL4 (fs:List Addr)(e:Addr)(h h':Heap):Prop where
 keep: ∀b o,h.get? b=some o->b ∉ fs->b≠e-> ¬Tr h e b->h'.get? b=some o
 slot:h.UpToSlots h'
 tr: ∀T,Tr h' e T->T∈fs\/T=e\/Tr h e T\/h.get? T=none
 rcd: ∀T,Tr h' e T-> ∃o vs,h'.get? T=some o/\o.data= .fields vs
structure bO9 (fs:List Addr)(e:Addr)(h h':Heap):Prop extends aL4 fs e h h' where
 dk:DK h h'
theorem c02 {e:Addr}{cls a0:Value}(t:h.TracedAtW base e cls a0 fl): ∃T,Tr h e T/\base.get? T=none/\T≠e/\ ∃o vs,h.get? T=some o/\o.data= .fields vs:=by
 obtain⟨oe,vs,T,oT,ts,he,_,hd,h1,hb,hne,hT,hdT,_⟩:=t;exact⟨T,⟨oe,vs,he,hd,h1⟩,hb,hne,oT,ts,hT,hdT⟩
theorem sB {B:Heap}{e T:Addr}{cls a0:Value}(t:h.TracedAtW base e cls a0 fl)(x:Tr h e T)(hn:B.get? T=none):h.TracedAtW B e cls a0 fl:=by
 obtain⟨oe,vs,T',oT,ts,he,hc,hd,h1,hb,hne,hT,hdT,h3⟩:=t;obtain rfl:=x.one ⟨oe,vs,he,hd,h1⟩;exact⟨oe,vs,T,oT,ts,he,hc,hd,h1,hn,hne,hT,hdT,h3⟩
section
variable {base h:Heap}{l:List Env}{e T:Addr}{cls a0 fl:Value}
nonrec def hid (h:Heap)(l:List Env)(e T:Addr):Heap:=PySem.W.hideAll h (frs l++[e,T])
theorem zJ (hb:b∈frs l\/b=e\/b=T):(hid h l e T).get? b=none:=PySem.W.hideAll_none _ (by
 rcases hb with z|z|z
 .exact bG.mpr (.inl z)
 .exact bG.mpr (.inr<|by simp[z])
 .exact bG.mpr (.inr<|by simp[z]))
theorem aW6 (q:h.get? b=some o)(h1:b ∉ frs l)(h2:b≠e)(h3:b≠T):(hid h l e T).get? b=some o:=PySem.W.hideAll_get _ q (by
 intro z;rcases bG.mp z with z|z
 .exact h1 z
 .simp at z
  exact z.elim h2 h3)
theorem a49 (f:h.FunFrames base l):h.FunFrames (hid h l e T) l:=PySem.W.funFrames_hide f λenv he b hb=>bG.mpr (.inl<|aP6.mpr ⟨env,he,hb⟩)
theorem aI5 (st:base.StaysIn h)(f:h.FunFrames base l)(he:base.get? e=none)(hT:base.get? T=none):base.StaysIn (hid h l e T):=λb o q=>aW6 (st b o q) (λz=>by rw[(f.mem z).1]at q;cases q) (λz=>by rw[z,he]at q;cases q) λz=>by rw[z,hT]at q;cases q
theorem zK {B h':Heap}(st:base.StaysIn B): ∀{l:List Env},h'.FunFrames B l->h'.FunFrames base l
 | [],_=>trivial
 | env::_,⟨hk,⟨L,o,hf,hn,ho,hd⟩,hr⟩=>⟨hk,⟨L,o,hf,(by
   cases q:base.get? L with
   | none=>rfl
   | some u=>have:=st L u q;rw[hn]at this;cases this),ho,hd⟩,zK st hr⟩
theorem bB6 {B:Heap}(st:base.StaysIn B)(q:B.get? b=none):base.get? b=none:=by
 cases z:base.get? b with
 | none=>rfl
 | some u=>have:=st b u z;rw[q]at this;cases this
theorem c03 {l':List Env}(x:Tr h e T)(st:(hid h l e T).StaysIn h')(t:h'.TracedAtW (hid h l e T) e cls a0 fl)(up:h.UpToSlots h'):aL4 (frs l) e h h':=by
 refine⟨λb o q h1 h2 h3=>st b o (aW6 q h1 h2 λz=>h3 (by rw[z];exact x)),up,λT' x'=> ?_,λT' x'=> ?_⟩
 .obtain⟨T2,y,hn,_,_⟩:=c02 t;obtain rfl:=x'.one y
  by_cases c1:T'∈frs l
  .exact .inl c1
  by_cases c2:T'=e
  .exact .inr (.inl c2)
  by_cases c3:T'=T
  .exact .inr (.inr<|.inl (by rw[c3];exact x))
  refine .inr (.inr<|.inr ?_)
  cases q:h.get? T' with
  | none=>rfl
  | some o=>rw[aW6 q c1 c2 c3]at hn;cases hn
 .obtain⟨T2,y,_,_,z⟩:=c02 t;obtain rfl:=x'.one y;exact z
end
section
variable {M:Model}{A:Around}{E:Value->Shared->Prop}{s:Shared}{base:Heap}{env:Env}{outer:List Env}{L e:Addr}{cls a0:Value}{Q:Unit->Shared->Prop}
theorem cL7 (hfr:A.frames=some (env::outer))(hf:env.frame=some L)(F:FlyingW base (env::outer) e cls a0 s.heap)
  (hQ: ∀h',FlyingW base outer e cls a0 h'->aL4 (frs (env::outer)) e s.heap h'->Q () {s with heap:=h'}):wpAny M A (leaving env<|.ref e) Q E s:=by
 obtain⟨f1,f2,f3,f4⟩:=F;obtain⟨T,x,hT,_,_⟩:=c02 (fl:= .none) f4;have stB:=aI5 (T:=T) f1 f3 f2 hT;refine wpAny_leaves_onW (base:=hid s.heap (env::outer) e T) hfr hf ⟨λb o q=>v7 _ q,zJ<|.inr<|.inl rfl,a49 f3,sB (fl:= .none) f4 x<|zJ<|.inr<|.inr rfl⟩ λh' F' up=> ?_
 obtain⟨g1,g2,g3,g4⟩:=F';obtain⟨T',x',hT',_,_⟩:=c02 (fl:= .none) g4;exact hQ h' ⟨λb o q=>g1 b o (stB b o q),f2,zK stB g3,sB (fl:= .none) g4 x'<|bB6 stB hT'⟩ (c03 (l':=outer) x g1 g4 up)
theorem cZ5 (hfr:A.frames=some (env::outer))(hf:env.frame=some L)(F:FlyingW base (env::outer) e cls a0 s.heap)
  (hQ: ∀h',HeldW base (env::outer) e cls a0 L h'->aL4 (frs (env::outer)) e s.heap h'->Q () {s with heap:=h'}):wpAny M A (noteFrame (.ref e) env) Q E s:=by
 obtain⟨f1,f2,f3,f4⟩:=F;obtain⟨T,x,hT,_,_⟩:=c02 (fl:= .none) f4;have stB:=aI5 (T:=T) f1 f3 f2 hT;refine wpAny_looks_onW (base:=hid s.heap (env::outer) e T) hfr hf ⟨λb o q=>v7 _ q,zJ<|.inr<|.inl rfl,a49 f3,sB (fl:= .none) f4 x<|zJ<|.inr<|.inr rfl⟩ λh' F' up=> ?_
 obtain⟨g1,g2,g3,g4⟩:=F';obtain⟨T',x',hT',_,_⟩:=c02 g4;exact hQ h' ⟨λb o q=>g1 b o (stB b o q),f2,zK stB g3,sB g4 x'<|bB6 stB hT'⟩ (c03 (l':=outer) x g1 g4 up)
theorem cZ6 {l:List Env}(F:base.StaysIn s.heap/\base.get? e=none/\s.heap.FunFrames base l/\s.heap.TracedAtW base e cls a0 fl)
  (hQ: ∀h',FlyingW base l e cls a0 h'->aL4 (frs l) e s.heap h'->Q () {s with heap:=h'}):wpAny M A (setFlight (.ref e) none) Q E s:=by
 obtain⟨f1,f2,f3,f4⟩:=F;obtain⟨T,x,hT,_,_⟩:=c02 f4;have stB:=aI5 (T:=T) f1 f3 f2 hT;refine wpAny_setFlight_noneW (base:=hid s.heap l e T) (λb o q=>v7 _ q) (a49 f3) (sB f4 x<|zJ<|.inr<|.inr rfl) λh' g1 g3 g4 up=> ?_
 obtain⟨T',x',hT',_,_⟩:=c02 (fl:= .none) g4;exact hQ h' ⟨λb o q=>g1 b o (stB b o q),f2,zK stB g3,sB (fl:= .none) g4 x'<|bB6 stB hT'⟩ (c03 (l':=l) (fl:= .none) x g1 g4 λb o q n=>⟨o.slots,up b o q n⟩)
theorem c04 {vs:Array Value}(hfr:A.frames=some (env::outer))(hl:s.heap.FunFrames base (env::outer))(hf:env.frame=some L)(he:s.heap.get? e=some oe)(hkb:base.StaysIn s.heap)(hen:base.get? e=none)(hd:oe.data= .fields vs)(h1:vs[1]? =some .none)(h0:vs[0]? =some a0)
  (hQ: ∀h',FlyingW base outer e oe.cls a0 h'->aL4 (frs (env::outer)) e s.heap h'->Q () {s with heap:=h'}):wpAny M A (leaving env<|.ref e) Q E s:=by
 have stB:=aI5 (e:=e) (T:=e) hkb hl hen hen;have nt: ∀T,¬Tr s.heap e T:=by
  rintro T ⟨o,ws,k1,k2,k3⟩;rw[he]at k1;cases k1;rw[hd]at k2;cases k2;rw[h1]at k3;cases k3
 refine wpAny_leaving_firstW (base:=hid s.heap (env::outer) e e) hfr (a49 hl) hf he (λb o q=>v7 _ q) (zJ<|.inr<|.inl rfl) hd h1 h0 λh' F'=> ?_
 obtain⟨g1,⟨_,_,g3⟩,g4,up⟩:=F';obtain⟨T',x',hT',hne,hrec⟩:=c02 (fl:= .none) g4;refine hQ h' ⟨λb o q=>g1 b o (stB b o q),hen,zK stB g3,sB (fl:= .none) g4 x'<|bB6 stB hT'⟩ ⟨λb o q k1 k2 _=>g1 b o (aW6 q k1 k2 k2),up,λT x2=> ?_,λT x2=> ?_⟩
 .obtain rfl:=x2.one x'
  by_cases c1:T∈frs (env::outer)
  .exact .inl c1
  refine .inr (.inr<|.inr ?_)
  cases q:s.heap.get? T with
  | none=>rfl
  | some o=>rw[aW6 q c1 hne hne]at hT';cases hT'
 .obtain rfl:=x2.one x';exact hrec
theorem cZ7 (hfr:A.frames=some (env::outer))(hf:env.frame=some L)(F:FlyingW base (env::outer) e cls a0 s.heap)
  (hQ: ∀h',FlyingW base outer e cls a0 h'->bO9 (frs (env::outer)) e s.heap h'->Q () {s with heap:=h'}):wpAny M A (leaving env<|.ref e) Q E s:=
 bD (a47 (aW5 env<|.ref e)<|cL7 (Q:=λ_ s'=> ∃h',s'={s with heap:=h'}/\FlyingW base outer e cls a0 h'/\aL4 (frs (env::outer)) e s.heap h') hfr hf F λh' a b=>⟨h',rfl,a,b⟩) (λ_ s' ⟨⟨h',q,a,b⟩,dk⟩=>by subst q;exact hQ h' a ⟨b,dk⟩) λ_ _ z=>z.1
theorem dA5 (hfr:A.frames=some (env::outer))(hf:env.frame=some L)(F:FlyingW base (env::outer) e cls a0 s.heap)
  (hQ: ∀h',HeldW base (env::outer) e cls a0 L h'->bO9 (frs (env::outer)) e s.heap h'->Q () {s with heap:=h'}):wpAny M A (noteFrame (.ref e) env) Q E s:=
 bD (a47 (bU4 (.ref e) env)<|cZ5 (Q:=λ_ s'=> ∃h',s'={s with heap:=h'}/\HeldW base (env::outer) e cls a0 L h'/\aL4 (frs (env::outer)) e s.heap h') hfr hf F λh' a b=>⟨h',rfl,a,b⟩) (λ_ s' ⟨⟨h',q,a,b⟩,dk⟩=>by subst q;exact hQ h' a ⟨b,dk⟩) λ_ _ z=>z.1
theorem c96 {l:List Env}(F:base.StaysIn s.heap/\base.get? e=none/\s.heap.FunFrames base l/\s.heap.TracedAtW base e cls a0 fl)
  (hQ: ∀h',FlyingW base l e cls a0 h'->bO9 (frs l) e s.heap h'->Q () {s with heap:=h'}):wpAny M A (setFlight (.ref e) none) Q E s:=
 bD (a47 (aB5 (.ref e) none)<|cZ6 (Q:=λ_ s'=> ∃h',s'={s with heap:=h'}/\FlyingW base l e cls a0 h'/\aL4 (frs l) e s.heap h') F λh' a b=>⟨h',rfl,a,b⟩) (λ_ s' ⟨⟨h',q,a,b⟩,dk⟩=>by subst q;exact hQ h' a ⟨b,dk⟩) λ_ _ z=>z.1
theorem c97 {vs:Array Value}(hfr:A.frames=some (env::outer))(hl:s.heap.FunFrames base (env::outer))(hf:env.frame=some L)(he:s.heap.get? e=some oe)(hkb:base.StaysIn s.heap)(hen:base.get? e=none)(hd:oe.data= .fields vs)(h1:vs[1]? =some .none)(h0:vs[0]? =some a0)
  (hQ: ∀h',FlyingW base outer e oe.cls a0 h'->bO9 (frs (env::outer)) e s.heap h'->Q () {s with heap:=h'}):wpAny M A (leaving env<|.ref e) Q E s:=
 bD (a47 (aW5 env<|.ref e)<|c04 (Q:=λ_ s'=> ∃h',s'={s with heap:=h'}/\FlyingW base outer e oe.cls a0 h'/\aL4 (frs (env::outer)) e s.heap h') hfr hl hf he hkb hen hd h1 h0 λh' a b=>⟨h',rfl,a,b⟩) (λ_ s' ⟨⟨h',q,a,b⟩,dk⟩=>by subst q;exact hQ h' a ⟨b,dk⟩) λ_ _ z=>z.1
end
structure Fly (base:Heap)(l:List Env)(e C:Addr)(H:Hp)(h:Heap):Prop where
 fl: ∃a0,FlyingW base l e (.ref C) a0 h
 he:H e=none
 ht: ∀T,Tr h e T->H T=none
structure bU5 (g:Heap)(e:Addr)(h:Heap):Prop where
 he:g.get? e=none
 ht: ∀T,Tr h e T->g.get? T=none
def XAt (h:Heap)(a:Addr)(o:Option Addr):Prop:= ∀d,o=some d-> ∃oe,h.get? a=some oe/\oe.dict=some d
theorem XAt.dk {o:Option Addr}(x:XAt h a o)(k:DK h h'):XAt h' a o:=λd q=>by
 obtain⟨oe,e1,e2⟩:=x d q;obtain⟨o',e3,e4⟩:=k a oe e1;exact⟨o',e3,e4.trans e2⟩
nonrec def CXr (P:Program)(w:World)(base:Heap):CXT:=λouter H s E e s'=> ∃a C o H',e= .ref a/\s'.os=s.os/\AllBare s'.gens/\Un (frs outer) [] H H' s.heap s'.heap/\HOk P w H' s'.heap/\Fly base outer a C H' s'.heap/\bU5 s.heap a s'.heap/\XAt s'.heap a o/\E (.ref C) o H'
section
variable {P:Program}{w:World}{H H0:Hp}{h h':Heap}{fs:List Addr}{e:Addr}
theorem HOk.past (x:HOk P w H h)(p:bO9 fs e h h')(hf: ∀b∈fs,H b=none)(he:H e=none)(ht: ∀T,Tr h e T->H T=none):HOk P w H h':=λa o q=>
 (x a o q).stay (λb u hb r=>by
  have tracked:H b≠none:=by
   rcases hb with rfl|hb
   .rw[q];simp
   .rw[hb];simp
  exact p.keep b u r (λz=>tracked (hf b z)) (λz=>tracked (by rw[z];exact he)) λz=>tracked (ht b z)) (λ_ q=>q) λ_ _ q=>q
theorem HOk.there (x:HOk P w H h)(n:h.get? b=none):H b=none:=by
 cases q:H b with
 | none=>rfl
 | some o=>
  exfalso
  have hh: ∃ob,h.get? b=some ob:=by
   have y:=x b o q;cases o with
   | lst xs=>obtain⟨_,_,_,_,e⟩:=y;exact⟨_,e⟩
   | tup xs=>obtain⟨_,_,_,ob,e,_⟩:=y;exact⟨_,e⟩
   | dK kvs=>obtain⟨_,_,_,_,o,_,_,e,_⟩:=y;exact⟨_,e⟩
   | dT kvs=>obtain⟨_,_,_,_,o,_,_,e,_⟩:=y;exact⟨_,e⟩
   | set S n=>obtain⟨o,_,_,_,e,_⟩:=y;exact⟨_,e⟩
   | ins C dx fs=>obtain⟨_,_,_,e,_⟩:=y;exact⟨_,e⟩
   | own y'=>exact y
   | xd fs=>obtain⟨_,⟨_,_,_,e,_⟩,_⟩:=y;exact⟨_,e⟩
   | rng lo hi=>obtain⟨_,_,_,e⟩:=y;exact⟨_,e⟩
   | frz ob u=>obtain⟨e,_⟩:=y;exact⟨_,e⟩
   | tbl ps=>exact⟨_,(show h.get? b=some _ from y)⟩
   | met f y'=>exact⟨_,(show h.get? b=some _ from y)⟩
   | ext φ=>obtain⟨_,e,_⟩:=y;exact e
  obtain⟨ob,e⟩:=hh;rw[n]at e;cases e
theorem bB7 (x:HOk P w H h)(p:bO9 fs e h h')(hf: ∀b∈fs,H b=none)(he:H e=none)(ht: ∀T,Tr h e T->H T=none): ∀T,Tr h' e T->H T=none:=λT q=>by
 rcases p.tr T q with z|z|z|z
 .exact hf T z
 .rw[z];exact he
 .exact ht T z
 .exact x.there z
end
section
variable {X:Cx}{pins:List (Addr×Obj)}{σ:St}{H:Hp}{s:Shared}{h':Heap}{e:Addr}
theorem Un.past {fs fs':List Addr}{H0:Hp}{L:Addr}(u:Un fs [] H0 H g s.heap)(p:bO9 fs' e s.heap h')(hfs: ∀b∈fs',b=L\/b∈fs)(hL:g.get? L=none)(ne:g.get? e=none)(nt: ∀T,Tr s.heap e T->g.get? T=none)(hd: ∀b∈fs,∀o,s.heap.get? b=some o-> ∀vs,o.data≠ .fields vs):Un fs [] H0 H g h' where
 keep:=λb o q n hb hx=>p.keep b o (u.keep b o q n hb hx) (λz=>by
  rcases hfs b z with z|z
  .rw[z,hL]at q;cases q
  .exact hb z) (λz=>by rw[z,ne]at q;cases q) λz=>by rw[nt b z]at q;cases q
 slot:=λb o q n hb hx=>by
  obtain⟨sl,e1⟩:=u.slot b o q n hb hx;obtain⟨sl',e2⟩:=p.slot b _ e1 (hd b hb _ e1);exact⟨sl',e2⟩
 free:=u.free
 there:=λb o q hx=>by
  obtain⟨o',e1⟩:=u.there b o q hx
  by_cases c:b∈fs
  .obtain⟨sl,e2⟩:=p.slot b _ e1 (hd b c _ e1);exact⟨_,e2⟩
  .exact⟨o',p.keep b o' e1 (λz=>by
    rcases hfs b z with z|z
    .rw[z,hL]at q;cases q
    .exact c z) (λz=>by rw[z,ne]at q;cases q) λz=>by rw[nt b z]at q;cases q⟩
 tups:=u.tups
 frzs:=u.frzs
 tbls:=u.tbls
end
section
variable {P:Program}{w:World}{K:Frag}{mg:Str->Option Value}{base:Heap}{N:List Str}{qual:Str}{scope:Scope}{f:Addr}{cd:Value}{A:Around}{outer:List Env}{s0:Shared}{H0:Hp}{E:XK}{CX:CXT}
theorem dA6 {σ:St}{H:Hp}{o:Option Addr}(I:Inv (vT (CXr P w base) P w K mg base N qual scope f cd A outer s0 H0 E) pins σ H s')(F:Fly base (envOfC qual scope s0.heap.objs.size f cd::outer) a C H s'.heap)(nw:bU5 s0.heap a s'.heap)(xa:XAt s'.heap a o)(hE:E (.ref C) o H) :
  (vT (CXr P w base) P w K mg base N qual scope f cd A outer s0 H0 E).xe (.ref a) s':=by
 obtain⟨⟨a0,fl⟩,he,ht⟩:=F;have fr:(A.deeper<|envOfC qual scope s0.heap.objs.size f cd).frames=some (envOfC qual scope s0.heap.objs.size f cd::outer):=I.ok.frames;have sf: ∀b∈frs (envOfC qual scope s0.heap.objs.size f cd::outer),H b=none:=I.stkFree;have fm: ∀b∈frs (envOfC qual scope s0.heap.objs.size f cd::outer),b=s0.heap.objs.size\/b∈frs outer:=λb hb=>by
  unfold frs at hb⊢;rw[j8]at hb;have e:(envOfC qual scope s0.heap.objs.size f cd).frame=some s0.heap.objs.size:=rfl;rw[e]at hb;exact aT.mp hb
 show wpAny _ _ (leaving _<|.ref a) _ _ s'
 refine cZ7 fr (L:=s0.heap.objs.size) rfl fl λh' fl' p=> ?_
 have hd: ∀b∈frs outer,∀o,s'.heap.get? b=some o-> ∀vs,o.data≠ .fields vs:=λb hb o q=>by
  obtain⟨_,o',q',n⟩:=fl.2.2.1.mem (b:=b) (by
   unfold frs at hb;rw[j8];have e:(envOfC qual scope s0.heap.objs.size f cd).frame=some s0.heap.objs.size:=rfl;rw[e];exact aT.mpr (.inr hb))
  rw[q]at q';cases q';exact n
 have un:Un (frs outer) [] H0 H s0.heap h':=I.base.past p fm (mQ<|aG _) nw.he nw.ht hd;refine⟨a,C,o,H,rfl,I.os,I.bare,un,I.hok.past p sf he ht,⟨⟨a0,fl'⟩,he,bB7 I.hok p sf he ht⟩,⟨nw.he,λT q=> ?_⟩,xa.dk p.dk,hE⟩
 rcases p.tr T q with z|z|z|z
 .rcases fm T z with z|z
  .rw[z];exact mQ (aG _)
  .exfalso
   obtain⟨o,vs,q1,q2⟩:=p.rcd T q;obtain⟨_,o',q',n⟩:=fl'.2.2.1.mem (b:=T) z;rw[q1]at q';cases q';exact n vs q2
 .rw[z];exact nw.he
 .exact nw.ht T z
 .cases r:s0.heap.get? T with
  | none=>rfl
  | some o=>
   obtain⟨o',q'⟩:=I.base.there T o r (show T ∉ ([]:List Addr)by simp)
   rw[z]at q';cases q'
theorem dA7:xW (CXr P w base) (vT (CXr P w base) P w K mg base N qual scope f cd A outer s0 H0 E) E:=by
 rintro pins σ H s e s' I ⟨a,C,o,H',rfl,ho,hb,un,hok,F,nw,xa,hE⟩;have I':=I.call' (s':=s') ho un hok hb (λb z=>absurd z ae)
 refine dA6 I' F ⟨?_,λT q=> ?_⟩ xa hE
 .cases r:s0.heap.get? a with
  | none=>rfl
  | some o=>
   obtain⟨o',q'⟩:=I.base.there a o r (show a ∉ ([]:List Addr)by simp)
   rw[nw.he]at q';cases q'
 .have:=nw.ht T q;cases r:s0.heap.get? T with
  | none=>rfl
  | some o=>
   obtain⟨o',q'⟩:=I.base.there T o r (show T ∉ ([]:List Addr)by simp)
   rw[this]at q';cases q'
end
inductive XO (h:Heap) (C N:Addr) (bm:List Value) (newId:String):Prop
 | mk (nm q:Str) (bs:List Value) (hd:Bool) (sn:List Str) (sub:List Value) (ab:Bool) (col:Option Bool) (dd:Option Addr) (k0 k1 k2 k3 k5:Option Value) (o:h.get? C=some (excClassObj nm q C N bs bm hd sn sub ab col dd k0 k1 k2 k3 k5 newId)):XO h C N bm newId
inductive XCls (h:Heap) (C:Addr) (bmB bm:List Value) (newId:String):Prop
 | mk (N:Addr) (mN:Str->Option Value) (o:XO h C N bm newId) (n:h.Ns N mN) (i:mN "__init__"=none) (t:OwnTail h bmB bm):XCls h C bmB bm newId
theorem c05 (X:K.In h)(q:excIn K C bmB newId=true): ∃bm,XCls h C bmB bm newId:=by
 unfold excIn at q;split at q
 .rename_i od ck slots look
  split at q
  .rename_i C2 tail a0 a1 a2 a3 nid a5 em es
   simp only[bP,gA,v8]at q;obtain⟨⟨⟨⟨⟨rfl,rfl⟩,nodel⟩,tk⟩,nk⟩,ni⟩:=q;obtain⟨c1,c2,c3,c4,c5,c6,c7,c8,c9,c10,c11⟩:=ck;dsimp only at em nodel nk ni;subst em nodel;obtain⟨sll⟩:=slots;simp only at es;subst es;exact⟨tail,_,_,⟨_,_,_,_,_,_,_,_,_,_,_,_,_,_,X _ _ look⟩,.of_isNs<|PySem.W.isNs_of_in X nk,PySem.W.nsMap_none_of_in X nk ni,PySem.W.tail_of_in X tk⟩
  .cases q
 .cases q
section
variable {X:Cx}{E:XK}{C:Addr}
def bF5 (X:Cx)(E:XK)(C:Addr):Prop:= ∀(pins:List (Addr×Obj)) (σ:St) (H:Hp) (s:Shared) (a:Addr) (oe:Obj) (vs:Array Value) (a0:Value) (o:Option Addr),Inv X pins σ H s->s.heap.get? a=some oe->oe.cls= .ref C->oe.data= .fields vs->vs[0]? =some a0->vs[1]? =some .none->H a=none->X.s₀.heap.get? a=none->XAt s.heap a o->E (.ref C) o H->X.xe (.ref a) s
theorem c06 {cd:Value}{s0:Shared}{H0:Hp} :
  bF5 (vT (CXr P w base) P w K mg base N qual scope f cd A outer s0 H0 E) E C:=by
 intro pins σ H s a oe vs a0 o I he hc hd h0 h1 nH n0 xa hE;have fr:(A.deeper<|envOfC qual scope s0.heap.objs.size f cd).frames=some (envOfC qual scope s0.heap.objs.size f cd::outer):=I.ok.frames;have sf: ∀b∈frs (envOfC qual scope s0.heap.objs.size f cd::outer),H b=none:=I.stkFree;have fl0:s.heap.FunFrames base (envOfC qual scope s0.heap.objs.size f cd::outer):=I.stack
 have fe:(envOfC qual scope s0.heap.objs.size f cd).frame=some s0.heap.objs.size:=rfl;have fm: ∀b∈frs (envOfC qual scope s0.heap.objs.size f cd::outer),b=s0.heap.objs.size\/b∈frs outer:=λb hb=>by
  unfold frs at hb⊢;rw[j8,fe]at hb;exact aT.mp hb
 have nt: ∀T,¬Tr s.heap a T:=by
  rintro T ⟨o,ws,k1,k2,k3⟩;rw[he]at k1;cases k1;rw[hd]at k2;cases k2;rw[h1]at k3;cases k3
 have nb:base.get? a=none:=by
  cases q:base.get? a with
  | none=>rfl
  | some o=>rw[(I.ok.bs a o q).1]at n0;cases n0
 have st:base.StaysIn s.heap:=I.bk;show wpAny _ _ (leaving _<|.ref a) _ _ s;refine c97 fr fl0 (L:=s0.heap.objs.size) rfl he st nb hd h1 h0 λh' fl' p=> ?_
 rw[hc]at fl';have hdf: ∀b∈frs outer,∀o,s.heap.get? b=some o-> ∀vs,o.data≠ .fields vs:=λb hb o q=>by
  obtain⟨_,o',q',n⟩:=fl0.mem (b:=b) (by
   unfold frs at hb;rw[j8,fe];exact aT.mpr (.inr hb))
  rw[q]at q';cases q';exact n
 have un:Un (frs outer) [] H0 H s0.heap h':=I.base.past p fm (mQ<|aG _) n0 (λT q=>absurd q (nt T)) hdf
 have ht: ∀T,Tr s.heap a T->H T=none:=λT q=>absurd q (nt T)
 refine⟨a,C,o,H,rfl,I.os,I.bare,un,I.hok.past p sf nH ht,⟨⟨a0,fl'⟩,nH,bB7 I.hok p sf nH ht⟩,⟨n0,λT q=> ?_⟩,xa.dk p.dk,hE⟩
 rcases p.tr T q with z|z|z|z
 .rcases fm T z with z|z
  .rw[z];exact mQ (aG _)
  .exfalso
   obtain⟨o,ws,q1,q2⟩:=p.rcd T q;obtain⟨_,o',q',n⟩:=fl'.2.2.1.mem (b:=T) z;rw[q1]at q';cases q';exact n ws q2
 .rw[z];exact n0
 .exact absurd z (nt T)
 .cases r:s0.heap.get? T with
  | none=>rfl
  | some o=>
   obtain⟨o',q'⟩:=I.base.there T o r (show T ∉ ([]:List Addr)by simp)
   rw[z]at q';cases q'
def dA8 (C:Addr)(E:XK)(ta:TA):TS:=λ_ σ H=>ta σ H λvs H1=>vs.length<=sizeLine/\E (.ref C) none H1
theorem dA9 {ta:TA}{B:String}(FB:ExcBaseFacts B newId initId bmB)(q:excIn X.K C bmB newId=true)(hg:Gl X x)(hm:X.mg x=some (.ref C))(hc:X.calm=true)(ha:PA X (e::es) ta)(th:bF5 X E C)
  (he:↥(starEach (e::es) X.env=(false,eval e X.env)::starEach es X.env)) (hpl:↥((backTo cpos<|starEach es X.env).any (·.1)=false)) (hd:⇑(x∪0)) (hex:↥(X.ex=[])) :
  PS X (.Raise (some<|.Call (.Name x np) (e::es) [] cpos) none pos) (dA8 C E ta):=by
 intro pins s σ H D I h;obtain⟨bm,N,mN,⟨nm,qn,bs,hdd,sn,sub,ab,col,dd,k0,k1,k2,k3,k5,hC⟩,hN,hni,tl⟩:=c05 I.mod.kin q;have keepS: ∀{pins:List (Addr×Obj)} {σ:St} {H:Hp} {s2:Shared},Inv X pins σ H s2-> ∀b o,X.base.get? b=some o->s2.heap.get? b=some o:=λJ=>J.bk
 refine wpAny_Raise_call_subT (C:=C) (nm:=nm) (q:=qn) (N:=N) (bs:=bs) (bm:=bm) (hdct:=hdd) (sn:=sn) (sub:=sub) (ab:=ab) (col:=col) (dd:=dd) (k0:=k0) (k1:=k1) (k2:=k2) (k3:=k3) (k5:=k5) FB (mN:=mN) (tl.hasType FB.hasBase) (I.ok.hd hc) ?_ hni (x9 I hg hm ⟨rfl,?_⟩ hd)
 .rw[he];show(false||(backTo cpos<|starEach es X.env).any (·.1))=false;rw[hpl];rfl
 .have hh:=ha cpos pins s σ H _ I h;rw[he]at hh⊢;refine aP2 (bD hh (λus s2 ⟨vs,H1,I1,r1,q1⟩=>⟨rfl,by rw[<-r1.length];exact q1.1,keepS I1 _ _ hC,hN.keeps<|keepS I1,tl.keeps<|keepS I1,λh' a mk=> ?_⟩) λ_ _ y=>y)
  obtain⟨t,m1,m2,m3⟩:=mk.there;have I2:Inv X pins σ H1 {s2 with heap:=h'}:=I1.kept mk.keeps;refine th pins σ H1 _ a _ _ (.ref t) none I2 m1 rfl rfl rfl rfl (I1.hok.there mk.new) ?_ (λd z=>by cases z) q1.2
  cases r:X.s₀.heap.get? a with
  | none=>rfl
  | some o=>
   obtain⟨o',q'⟩:=I1.base.there a o r (by rw[hex];simp)
   rw[mk.new]at q';cases q'
end
section
variable {prog:Program}{w:World}{A:Around}{E:Value->Shared->Prop}{hp:Heap}{gn:Array GenState}{dr:Drawn}{tn:Nat}{os:OsState}
variable {nm qn:Str}{C N:Addr}{bs bm bmB:List Value}{hdd:Bool}{sn:List Str}{sub:List Value}{ab:Bool}{col:Option Bool}{dd:Option Addr}{k0 k1 k2 k3 k5:Option Value}{B newId initId:String}
theorem cL8 (F:ExcBaseFacts B newId initId bmB)(T:OwnTail hp bmB bm){mN:Str->Option Value}{oI:Obj}{Q:Fin->Shared->Prop}
  (hC:hp.get? C=some (excClassObj nm qn C N bs bm hdd sn sub ab col dd k0 k1 k2 k3 k5 newId)) (hN:hp.Ns N mN) (hini:mN "__init__"=some (.ref fI)) (hfun:hp.get? fI=some oI) (hcls:oI.cls= .type "function")
  (hgo: ∀h' e,MadeExcOf hp h' e (.ref C) us->wpAny (model prog w) A (call (.ref fI) (.ref e::us)) (λr s'=>r= .none/\Q (.done<|.ret<|.ref e) s') E ⟨h',gn,dr,tn,os⟩) (hus:us.length<=sizeLine) :
  wpAny (model prog w) A (Builtin.«type.__call__» ⟨.ref C::us,[]⟩) Q E ⟨hp,gn,dr,tn,os⟩:=by
 repeat (first
  | with_reducible refine oW hC ?_
  | with_reducible refine wpAny_madeBy_exc hC ?_
  | wp_step)
 refine codeAny_call_builtin_code (Code.quiet_builtin _ F.quiet) (wpAny_check_new_subT F T hC ?_)
 refine codeAny_exc_new_subT F T hC ?_ hus
 show wpAny _ _ _ _ _ _
 generalize ea:({cls:= .type "tuple",data:= .seq us.toArray}:Obj)=oa;generalize eb:({cls:= .ref C,data:= .fields #[.ref hp.objs.size,.none,.none,.none,.bool false,.none]}:Obj)=ob;have up: ∀b o,hp.get? b=some o->((hp.push oa).push ob).get? b=some o:=λb o q=>bE _ (bE _ q)
 have g1:=up _ _ hC;have g2:=up _ _ hfun;have g3:=hN.keeps up;have g4:((hp.push oa).push ob).get? (hp.objs.size+1)=some ob:=by
  subst ea eb
  heap_get
 have g5:((hp.push oa).push ob).get? hp.objs.size=some oa:=by
  subst ea;exact bE _ (Heap.get?_push_at rfl rfl)
 have g6:=T.keeps up;have me:(Value.ref C::bm).contains (.ref C)=true:=ae
 have ec:ob.cls= .ref C:=by rw[<-eb]
 unfold isInstance
 repeat (first
  | (with_reducible refine oW g4 ?_;rw[ec])
  | (with_reducible refine a09 g1 ?_;rw[me])
  | wp_step)
 show wpAny _ _ (typeLookup (.ref C) _) _ _ _
 refine wpAny_typeLookup_tail g1 g3 g6 F.mroIs F.init.lookup ?_
 rw[hini];refine iO (a9 ?_);unfold bindSpecial;refine a9 (a31 (T:="function") ⟨_,g2,hcls⟩ ?_);rw[a8 ac]
 have mk:MadeExcOf hp ((hp.push oa).push ob) (hp.objs.size+1) (.ref C) us:=⟨up,mQ<|pC _,hp.objs.size,by rw[g4,<-eb],mQ<|aG _,by rw[g5,<-ea]⟩
 refine aK (a9<|bD (hgo _ _ mk) (λr s' z=> ?_) λ_ _ z=>z)
 obtain⟨rfl,z⟩:=z
 wp_walk
 exact z
theorem xcall (F:ExcBaseFacts B newId initId bmB)(T:OwnTail hp bmB bm){mN:Str->Option Value}{oI:Obj}
  (hC:hp.get? C=some (excClassObj nm qn C N bs bm hdd sn sub ab col dd k0 k1 k2 k3 k5 newId)) (hN:hp.Ns N mN) (hini:mN "__init__"=some (.ref fI)) (hfun:hp.get? fI=some oI) (hcls:oI.cls= .type "function")
  (hgo: ∀h' e,MadeExcOf hp h' e (.ref C) us->wpAny (model prog w) (A.under<|.builtin "type.__call__" ⟨.ref C::us,[]⟩) (call (.ref fI) (.ref e::us)) (λr s'=>r= .none/\Q (.ref e) s') E ⟨h',gn,dr,tn,os⟩) (hus:us.length<=sizeLine) :
  wpAny (model prog w) A (call (.ref C) us) Q E ⟨hp,gn,dr,tn,os⟩:=by
 have t1:=tc_lookup;have t2:=tc_bind (.ref C);have t3:(⟨hp,gn,dr,tn,os⟩:Shared).TypeIs (.ref C) "type":=⟨_,hC,rfl⟩;refine vO (codeAny_of_tree ?_);show wpAny _ _ (callAny (.ref C) _) _ _ _
 repeat (any_goals (first
  | assumption
  | with_reducible refine oW hC ?_
  | wp_step))
 refine⟨rfl,?_⟩
 exact codeAny_call_builtin_at (Code.quiet_builtin _ af) entry_typeCall (wpAny_check_type_call_sub hC<|cL8 F T hC hN hini hfun hcls (λh' e mk=>hgo h' e mk) hus)
end
open Builtin Builtin.ObjectAttr
nonrec def veMro:List Value:=[.type "ValueError",.type "Exception",.type "BaseException",.type "object"]
nonrec def vZ:List Value->Bool
 | []=>false
 | v::r=>(v::r)==veMro||match v with
  | .ref _=>vZ r
  | _=>false
theorem b70 (self:Value): ∀{l:List Value},vZ l=true->refuseLoop self "__setattr__" l=pure ()
 | v::r,e=>by
  unfold vZ at e;rcases Bool.or_eq_true_iff.mp e with q|q
  .rw[gA.mp q];exact PySem.F.store_ValueError.passes self
  .split at q
   .rw[refuseLoop_ref];exact b70 self q
   .cases q
theorem bF6: ∀{l:List Value},vZ l=true->l.contains (.type "object")=true/\l.isEmpty=false
 | v::r,e=>by
  refine⟨?_,rfl⟩
  unfold vZ at e;rcases Bool.or_eq_true_iff.mp e with q|q
  .rw[gA.mp q];decide
  .split at q
   .rw[aP8,(bF6 q).1,Bool.or_true]
   .cases q
section
variable {K:Frag}{prog:Program}{w:World}{A:Around}{E:Value->Shared->Prop}{s:Shared}{x C:Addr}{mA:Str->Option Value}{ns:List Str}{name:Str}{v:Value}{cd:ClassData}
theorem xosa {R:Result->Shared->Prop}{tk:Tok}(X:K.In s.heap)(hc:clsIn K C=some cd)(hm:vZ cd.mro=true)(hdct:cd.hasDict=true)(ht:findIn K (.ref C) name=some none)
  (I:s.heap.Inst x C mA) (hw:Within mA ns) (hsz:ns.length<=100) {od:Option Obj} {o:Obj} (hx:s.heap.get? x=some o) (J:InstAt s.heap x o C od)
  (hq: ∀h' tk,h'.Inst x C (λy=>if y=name then some v else mA y)->(∀b o,b≠x->(∀o0 dx,s.heap.get? x=some o0->o0.dict=some dx->b≠dx)->s.heap.get? b=some o->h'.get? b=some o)->
   (∀o0,s.heap.get? x=some o0-> ∃o1,h'.get? x=some o1/\o1.cls=o0.cls/\o1.data=o0.data/\ ∀dx,o1.dict=some dx->o0.dict=some dx\/(s.heap.objs.size<=dx))->R (.ok<|.ret .none) {s with heap:=h',toks:=tk}) :
  codeAny (model prog w) A (.call (.builtin "object.__setattr__") ⟨[.ref x,.str name tk,v],[]⟩) R s:=by
 have SF:=PySem.F.store_ValueError;have sub:Looks (model prog w) s.heap (isInstance (.ref x)<|.type "object") true:=J.type.andThen (PySem.W.looks_mroIn X (by unfold PySem.W.mroIn;rw[hc,bind_some,a7 (by rw[(bF6 hm).2];decide),(bF6 hm).1]))
 refine codeAny_call_builtin SF.slot.plain SF.entry (@PySem.W.check_slot (model prog w) _ _ s "object.__setattr__" "object" "__setattr__" (.ref x) [.str name tk,v] [] _ SF.kind SF.split sub (SF.args (.ref x) (.str name tk) v) ?_)
 have hmr:Looks (model prog w) s.heap (mroOf<|.ref C) cd.mro:=(aP5 X hc).andThen .now;rw[PySem.W.osa_eq,refuse_eq];refine a9 (a9<|J.type.here<|a9<|hmr.here ?_);rw[b70 _ hm];refine aK (a9<|J.type.here<|a9<|(PySem.W.looks_findIn X ht).here<|a9<|aK ?_);have lc:=aP5 (M:=model prog w) X hc;obtain⟨o',hx',hcl,hnc,hdd⟩:=I;rw[hx]at hx';cases hx';refine a9 (aK ?_);refine a9 ?_
 show wpAny _ _ (instanceDict x true) _ _ s
 unfold instanceDict;refine a9 (wpAny_loadPart hx ?_);rw[hcl];right;refine a9 (lc.here ?_);rw[hdct];rw[a7 ac]
 clear sub hmr lc;obtain⟨hp,gn,dr,tn,os⟩:=s;dsimp only at *;have put: ∀(h1:Heap) (dx:Addr) (o1:Obj),h1.get? x=some o1->o1.cls= .ref C->(∀c,o1.data≠ .cls c)->o1.dict=some dx->dx≠x->h1.Ns1 dx mA->o1.data=o.data->(∀b ob,b≠x->hp.get? b=some ob->h1.get? b=some ob)->(o.dict=some dx\/hp.objs.size<=dx)->
   wpAny (model prog w) A.in1 (storeInDict dx (.str name tk) name v) (λfin s'=>match fin with| .done f=>R (.ok f) s'| .again c'=>c'.quiet=true/\codeAny (model prog w) A c' R s') (λe s'=>R (.error e) s') ⟨h1,gn,dr,tn,os⟩:=by
  intro h1 dx o1 g1 g2 g3 g4 g5 g6 g7 g8 g9;unfold storeInDict newKeyGuard;refine a9 (aK<|a9<|wpAny_nsSet1 g6 λh' n' sb=> ?_)
  obtain⟨oD,eD,pD,q1,q2,q3⟩:=n'.count (Within.cons name v hw);have few:eD.size<=sizeLine:=by
   refine aN q3 ?_
   rw[dP,sizeLine_eq]
   lia
  refine a9 (wpAny_lookBehind q1 (by rw[q2];exact pastItsLine_dict (a13 few)) ?_)
  have gx:h'.get? x=some o1:=(sb.2 x<|Ne.symm g5).trans g1;refine aK (hq h' _ ⟨o1,gx,g2,g3,.inr ⟨dx,g4,g5,n'⟩⟩ (λb ob k1 k2 k3=> ?_) λo0 k1=> ?_)
  .have nb:b≠dx:=by
    rcases g9 with z|z
    .exact k2 o dx hx z
    .intro q;have:=aV k3;rw[q]at this;exact absurd (bI this z) (dU _)
   exact(sb.2 b nb).trans (g8 b ob k1 k3)
  .rw[hx]at k1;cases k1;exact⟨o1,gx,by rw[g2,hcl],g7,λdx' z=>by rw[g4]at z;cases z;exact g9⟩
 rcases hdd with⟨hn,hmA⟩| ⟨dx,hdx,hne,hns⟩
 .rw[hn];right;rw[a7<|by simp[typeHasDict]]
  have ex: ∀d':Data,d'=o.data->wpAny (model prog w) A.in1 (match d' with
     | .cls c=>pure none
     | _=>do
      let d<-alloc {cls:=Value.type "dict",data:=Data.dict #[]}
      update x λo=>{cls:=o.cls,dict:=some d,data:=o.data,slots:=o.slots}
      dictMade (Value.ref C) x d) (λa s'=>wpAny (model prog w) A.in1 (match a with|some d=>storeInDict d (.str name tk) name v|none=>noDictFor (.ref x) (.ref C) name (none:Option Value).isSome) (λfin s'=>match fin with| .done f=>R (.ok f) s'| .again c'=>c'.quiet=true/\codeAny (model prog w) A c' R s') (λe s'=>R (.error e) s') s') (λe s'=>R (.error e) s') ⟨hp,gn,dr,tn,os⟩:=by
   intro d' ed;split
   .rename_i c
    exact absurd ed.symm (hnc c)
   .have x1:(hp.push {cls:= .type "dict",data:= .dict #[]}).get? x=some o:=bE _ hx;have xs:x≠hp.objs.size:=b9 (aV hx);refine a9 (wpAny_alloc'<|a9<|wpAny_update' x1<|aK ?_);have alive:Obj.isFreed {cls:=o.cls,dict:=some hp.objs.size,data:=o.data,slots:=o.slots}=false:=by
     have:=(Heap.get?_some_iff.mp hx).2;obtain⟨c1,c2,c3,c4⟩:=o;cases c3<;>first|rfl|exact this
    have gd:((hp.push {cls:= .type "dict",data:= .dict #[]}).update x λo=>{cls:=o.cls,dict:=some hp.objs.size,data:=o.data,slots:=o.slots}).get? hp.objs.size=some {cls:= .type "dict",data:= .dict #[]}:=
     (rJ _ _ _ _<|Ne.symm xs).trans (Heap.get?_push_at rfl rfl)
    refine put _ hp.objs.size {cls:=o.cls,dict:=some hp.objs.size,data:=o.data,slots:=o.slots} (rD _ x1 alive) hcl hnc rfl (Ne.symm xs) ?_ rfl (λb ob k1 k2=>(rJ _ _ _ _ k1).trans (bE _ k2)) (.inr<|aG _)
    have e0:mA=λ_=>none:=funext hmA
    rw[e0];exact Heap.Ns1.of_empty ⟨_,#[],_,gd,rfl,λe he=>absurd he ae,λ_=>rfl⟩
  exact ex o.data rfl
 .rw[hdx];exact aK (put hp dx o hx hcl hnc hdx hne hns rfl (λb ob _ k=>k) (.inl hdx))
theorem xset {Q:Unit->Shared->Prop}(X:K.In s.heap)(hc:clsIn K C=some cd)(hm:vZ cd.mro=true)(hdct:cd.hasDict=true)(hsa:findIn K (.ref C) "__setattr__"=some (some<|.builtin "object.__setattr__"))(ht:findIn K (.ref C) name=some none)
  (I:s.heap.Inst x C mA) (hw:Within mA ns) (hsz:ns.length<=100)
  (hq: ∀h' tk,h'.Inst x C (λy=>if y=name then some v else mA y)->(∀b o,b≠x->(∀o0 dx,s.heap.get? x=some o0->o0.dict=some dx->b≠dx)->s.heap.get? b=some o->h'.get? b=some o)->
   (∀o0,s.heap.get? x=some o0-> ∃o1,h'.get? x=some o1/\o1.cls=o0.cls/\o1.data=o0.data/\ ∀dx,o1.dict=some dx->o0.dict=some dx\/(s.heap.objs.size<=dx))->Q () {s with heap:=h',toks:=tk}) :
  wpAny (model prog w) A (setAttr (.ref x) name v) Q E s:=by
 have I':=I;obtain⟨o,hx,hcl,hnc,hdd⟩:=I;have J: ∃od,InstAt s.heap x o C od:=by
  rcases hdd with⟨e,_⟩| ⟨dx,e,_,od,es,ep,ge,_⟩
  .exact⟨none,hx,hcl,(by unfold PySem.W.notCls;split<;>first|rfl| (rename_i c q;exact absurd q (hnc c))),by rw[e];trivial⟩
  .exact⟨some od,hx,hcl,(by unfold PySem.W.notCls;split<;>first|rfl| (rename_i c q;exact absurd q (hnc c))),by rw[e];exact ge⟩
 obtain⟨od,J⟩:=J;refine PySem.W.set_plain X J hsa ?_;exact xosa (s:={s with toks:=s.toks+1}) X hc hm hdct ht I' hw hsz hx J λh' tk a b c=>hq h' tk a b c
end
inductive dX3 (K:Frag) (fI:Addr) (fd:FuncData) (f1 f2:Str):Prop
 | mk (oc:Value) (od:Option Addr) (nm qual:Str) (params:Arguments) (scope:Scope) (kV doc pm:Value) (an:Option Addr) (cdv ct:Value) (osl:Array (Option Value)) (x0 x1 x2:Str) (p1 p2 p3 p4 p5 p6 p7 p8:Pos)
  (_:fd=fnOf nm qual params [.Assign [.Attribute (.Name x0 p1) f1 p2] (.Name x1 p3) p4,.Assign [.Attribute (.Name x0 p5) f2 p6] (.Name x2 p7) p8] scope .none kV doc pm an cdv ct)
  (_:K.lookup fI=some ⟨oc,od,.func fd,osl⟩) (_:oc= .type "function") (_:codeIn K cdv qual=true) (_:bC [x0,x1,x2] [x0,x1,x2] scope)
  (_:scope.names.lookup x0=some .local) (_:scope.names.lookup x1=some .local) (_:scope.names.lookup x2=some .local) (_:x0∪0) (_:x1∪0) (_:x2∪0) (_:Binds K fd [x0,x1,x2] []):dX3 K fI fd f1 f2
structure c98 (K:Frag)(C fI:Addr)(fd:FuncData)(f1 f2:Str):Prop where
 ex:dX3 K fI fd f1 f2
 cls: ∃cd,clsIn K C=some cd/\vZ cd.mro=true/\cd.hasDict=true
 sa:findIn K (.ref C) "__setattr__"=some (some<|.builtin "object.__setattr__")
 n1:findIn K (.ref C) f1=some none
 n2:findIn K (.ref C) f2=some none
inductive Laid (C e:Addr) (f1 f2:Str) (v1 v2:V) (s s':Shared):Prop
 | mk (_:s'.os=s.os) (_:AllBare s'.gens) (_: ∀b o,s.heap.get? b=some o->s'.heap.get? b=some o) (oe:Obj) (t d:Addr) (w1 w2:Value) (_:s'.heap.get? e=some oe) (_:oe.cls= .ref C) (_:oe.data= .fields #[.ref t,.none,.none,.none,.bool false,.none]) (_:oe.dict=some d) (_:d≠e) (_:s.heap.get? d=none) (_:RelV v1 w1) (_:RelV v2 w2) (_:s'.heap.Ns1 d (λy=>if y=f2 then some w2 else if y=f1 then some w1 else none)):Laid C e f1 f2 v1 v2 s s'
section
variable {X:Cx}{pins:List (Addr×Obj)}{σ:St}{H:Hp}{s:Shared}{C fI e:Addr}{fd:FuncData}{f1 f2:Str}{h1:Heap}{u1 u2:Value}{v1 v2:V}{E:Value->Shared->Prop}{k:Nat}
theorem cZ8 (T:c98 X.K C fI fd f1 f2)(I:Inv X pins σ H s)(hr:iX (k+1) X.A)(mk:MadeExcOf s.heap h1 e (.ref C) [u1,u2])(r1:RelV v1 u1)(r2:RelV v2 u2) :
  wpAny (model X.prog X.w) (X.A.under<|.builtin "type.__call__" ⟨.ref C::[u1,u2],[]⟩) (call (.ref fI) (.ref e::[u1,u2])) (λr s'=>r= .none/\Laid C e f1 f2 v1 v2 s s') E {s with heap:=h1}:=by
 obtain⟨oc,od,nm,qual,params,scope,kV,doc,pm,an,cdv,ct,osl,x0,x1,x2,p1,p2,p3,p4,p5,p6,p7,p8,rfl,lk,_,hcd,S,l0,l1,l2,d0,d1,d2,hb⟩:=T.ex;obtain⟨cd,hc,hm,hdct⟩:=T.cls;have I1:Inv X pins σ H {s with heap:=h1}:=I.kept mk.keeps;have e0:=I1.env0.make C [u1,u2] [];have rm:=hr.make C [u1,u2] [];have KX:=I1.kIn;have lim:=I1.nolimit
 have us:Vals [V.ref e,v1,v2] [Value.ref e,u1,u2]:= .cons rfl (.cons r1<|.cons r2 .nil);have hkind: ∀y∈[x0,x1,x2].zip [Value.ref e,u1,u2],scope.names.lookup y.1=some .local\/(scope.names.lookup y.1=some .cell/\((cellsFrom (h1.objs.size+1) scope.names []).lookup y.1).isSome=true):=λ⟨n,v⟩ hy=>by
  have:=(a21 hy).1;simp at this;rcases this with rfl|rfl|rfl
  .exact .inl l0
  .exact .inl l1
  .exact .inl l2
 refine vO ?_
 have bd:=hb {s with heap:=h1} [Value.ref e,u1,u2] KX rfl;rw[lK]at bd;refine codeAny_call_function rm.depth (KX _ _ lk) rfl S.co S.gen rfl (PySem.W.codeRec_of KX hcd) (bd _ _ _ _ ?_);refine wpAny_newFunctionEnv_cells S.kind hkind λenv he s2 x=> ?_
 subst he;refine⟨lim.keeps x.toInCall.keep,codeAny_func ?_⟩;have J:Inv (vT CX0 X.prog X.w X.K X.mg X.base [x0,x1,x2] qual scope fI cdv (X.A.under<|.builtin "type.__call__" ⟨.ref C::[u1,u2],[]⟩) X.stack {s with heap:=h1} H E0) [] (start [x0,x1,x2] [V.ref e,v1,v2]) H s2:=bS4 S rm.hd e0 rfl us x;obtain⟨m,hn,hl⟩:=J.loc
 have look: ∀(i:Nat) (y:Str) (v:V),[x0,x1,x2][i]? =some y->(start [x0,x1,x2] [V.ref e,v1,v2])[i]? =some (some v)->scope.names.lookup y=some .local-> ∃u,RelV v u/\m y=some u:=λi y v q1 q2 q3=>by
  obtain⟨u,r,lo⟩:=hl i y v q1 q2 (.inl q3);rcases lo with⟨_,hm⟩| ⟨z,_⟩
  .exact⟨u,r,hm⟩
  .have z':scope.names.lookup y=some .cell\/scope.names.lookup y=some .free:=z;rw[q3]at z';rcases z' with z'|z'<;>cases z'
 obtain⟨w0,q0,m0⟩:=look 0 x0 (.ref e) rfl rfl l0;obtain⟨w1,q1,m1⟩:=look 1 x1 v1 rfl rfl l1;obtain⟨w2,q2,m2⟩:=look 2 x2 v2 rfl rfl l2;obtain rfl:w0=Value.ref e:=q0;have kk:=J.ok.kind;have kin:X.K.In s2.heap:=KX.keeps x.toInCall.keep;obtain⟨t,t1,t2,t3⟩:=mk.there;have ge:s2.heap.get? e=some {cls:= .ref C,data:= .fields #[.ref t,.none,.none,.none,.bool false,.none]}:=x.toInCall.keep _ _ t1
 have eL:e≠h1.objs.size:=b9 (aV t1);have in0:s2.heap.Inst e C (λ_=>none):=⟨_,ge,rfl,(λc z=>by cases z),.inl ⟨rfl,λ_=>rfl⟩⟩
 refine vA (aM9<|pF (rF kk l1 hn m1<|pF (rF kk l0 hn m0 ?_) d0) d1)
 refine xset kin hc hm hdct T.sa T.n1 in0 (ns:=[]) (λn z=>absurd rfl z) ae λh3 tk3 in3 kp3 ob3=> ?_
 obtain⟨o3,g3,c3,dt3,dd3⟩:=ob3 _ ge;have keep3: ∀b o,b≠e->s2.heap.get? b=some o->h3.get? b=some o:=λb o n q=>kp3 b o n (λo0 dx z1 z2=>by rw[ge]at z1;cases z1;cases z2) q
 have hn3:h3.Ns h1.objs.size m:=by
  obtain⟨o,es,ep,z1,z2⟩:=hn;exact⟨o,es,ep,keep3 _ _ (Ne.symm eL) z1,z2⟩
 have keep3': ∀b o,s.heap.get? b=some o->h3.get? b=some o:=λb o q=>keep3 b o (λz=>by rw[z,mk.new]at q;cases q) (x.toInCall.keep _ _<|mk.keeps b o q)
 have kin3:X.K.In h3:=I.kIn.keeps keep3';refine vA (aM9<|pF (rF kk l2 hn3 m2<|pF (rF kk l0 hn3 m0 ?_) d0) d2);refine xset kin3 hc hm hdct T.sa T.n2 in3 (ns:=[f1]) (λn z=> ?_) ae λh4 tk4 in4 kp4 ob4=> ?_
 .by_cases c:n=f1
  .simp[c]
  .rw[a7 c]at z;exact absurd rfl z
 obtain⟨o4,g4,c4,dt4,dd4⟩:=ob4 _ g3;refine pA ?_;obtain⟨o5,g5,_,_,dd5⟩:=in4;rw[g4]at g5;cases g5;rcases dd5 with⟨_,no⟩| ⟨d,ed,de,nd⟩
 .have:=no f2;simp at this
 have dn:s.heap.get? d=none:=by
  cases q:s.heap.get? d with
  | none=>rfl
  | some o=>
   exfalso
   have a3:=aV (keep3' d o q);have a2:=aV (x.toInCall.keep _ _<|mk.keeps d o q);rcases dd4 d ed with z|z
   .rcases dd3 d z with z|z
    .cases z
    .exact absurd (bI a2 z) (dU _)
   .exact absurd (bI a3 z) (dU _)
 refine⟨rfl,J.os,J.bare,λb o q=> ?_,o4,t,d,w1,w2,g4,?_,?_,ed,de,dn,q1,q2,nd⟩
 .refine kp4 b o (λz=>by rw[z,mk.new]at q;cases q) (λo0 dx z1 z2=> ?_) (keep3' b o q)
  rw[g3]at z1;cases z1;rcases dd3 dx z2 with z|z
  .cases z
  .intro z';have:=aV (x.toInCall.keep _ _<|mk.keeps b o q);rw[z']at this;exact absurd (bI this z) (dU _)
 .rw[c4,c3]
 .rw[dt4,dt3]
end
nonrec def aB6 (K:Frag)(C fI:Addr)(bmB:List Value)(newId:String):Bool:=match K.lookup C with
 | some ⟨.type "type",_,.cls ck,sl⟩=>(match ck.mro,sl.toList with
  | .ref C2::tail,[_,_,_,_,some<|.builtin nid,_]=>C2==C&&nid==newId&& !ck.hasDel&&PySem.W.tailIn K bmB tail&&PySem.W.nsOkIn K ck.ns&&nsIn K ck.ns "__init__"==some (some<|.ref fI)
  | _,_=>false)
 | _=>false
theorem dP9 {N:Addr}{n:Str}(X:K.In h)(G:h.Ns N mg)(e:nsIn K N n=some (some v)):mg n=some v:=by
 obtain⟨ob,ents,np,look0,dat,_,find0⟩:=G;unfold nsIn at e;split at e
 .rename_i look
  have same:=X _ _ look;rw[look0]at same;cases same;cases dat;split at e
  .rename_i en found
   cases e;rw[<-find0];unfold nsFind findBy;rw[<-Array.find?_toList,found];rfl
  .split at e<;>cases e
 .cases e
inductive dX4 (h:Heap) (C fI:Addr) (bmB bm:List Value) (newId:String):Prop
 | mk (N:Addr) (mN:Str->Option Value) (o:XO h C N bm newId) (n:h.Ns N mN) (i:mN "__init__"=some (.ref fI)) (t:OwnTail h bmB bm):dX4 h C fI bmB bm newId
theorem c99 (X:K.In h)(q:aB6 K C fI bmB newId=true): ∃bm,dX4 h C fI bmB bm newId:=by
 unfold aB6 at q;split at q
 .rename_i od ck slots look
  split at q
  .rename_i C2 tail a0 a1 a2 a3 nid a5 em es
   simp only[bP,gA,v8]at q;obtain⟨⟨⟨⟨⟨rfl,rfl⟩,nodel⟩,tk⟩,nk⟩,ni⟩:=q;obtain⟨c1,c2,c3,c4,c5,c6,c7,c8,c9,c10,c11⟩:=ck;dsimp only at em nodel nk ni;subst em nodel;obtain⟨sll⟩:=slots;simp only at es;subst es;have nsk:h.Ns c4 (h.nsMap c4):= .of_isNs (PySem.W.isNs_of_in X nk);exact⟨tail,_,_,⟨_,_,_,_,_,_,_,_,_,_,_,_,_,_,X _ _ look⟩,nsk,dP9 X nsk ni,PySem.W.tail_of_in X tk⟩
  .cases q
 .cases q
section
variable {M:Model}{A:Around}{E:Value->Shared->Prop}{s:Shared}{env:Env}
variable {nm qn:Str}{C N:Addr}{bs bm:List Value}{hdd:Bool}{sn:List Str}{sub:List Value}{ab:Bool}{col:Option Bool}{dd:Option Addr}{k0 k1 k2 k3 k5:Option Value}{newId:String}
theorem xraise {x:Sem Value}{Q:Flow->Shared->Prop}(hbase:bm.contains (.type "BaseException")=true)(hh:A.handled=none)
  (h:wpAny M A x (λv s1=> ∃e oe vs,v= .ref e/\s1.heap.get? C=some (excClassObj nm qn C N bs bm hdd sn sub ab col dd k0 k1 k2 k3 k5 newId)/\s1.heap.get? e=some oe/\oe.cls= .ref C/\oe.data= .fields vs/\vs[1]? =some .none/\E (.ref e) s1) E s) :
  wpAny M A (raiseStmt env (some x) none) Q E s:=by
 have has:(Value.ref C::bm).contains (.type "BaseException")=true:=by rw[aP8,hbase,Bool.or_true]
 unfold raiseStmt;refine a9 (bD h (λv s1 z=> ?_) λ_ _ y=>y)
 obtain⟨e,oe,vs,rfl,hC,he,hcl,hdt,h1,hE⟩:=z;obtain⟨hp,gn,dr,tn,os⟩:=s1;obtain⟨oc,od,odt,osl⟩:=oe;dsimp only at hcl hdt;subst hcl hdt
 repeat (first
  | with_reducible refine oW he ?_
  | with_reducible refine oW hC ?_
  | (with_reducible refine a09 hC ?_;rw[has])
  | wp_step)
 rw[h1];refine aK (aK ?_);exact wpAny_raiseNew_none hh hE
end
section
variable {P:Program}{w:World}{H:Hp}{h h':Heap}{a:Addr}{o:HO}{fs ex:List Addr}
theorem HOk.laidN (x:HOk P w H h)(k: ∀b u,h.get? b=some u->h'.get? b=some u)(hn:H a=none)(new:t9 P w (upd H a o) h' a o):HOk P w (upd H a o) h':=λb u e=>by
 by_cases hb:b=a
 .subst hb;rw[jM]at e;cases e;exact new
 .rw[cV hb]at e;exact(x b u e).stay (λc v _ q=>k c v q) (λc q=>by rw[cV<|dX q hn];exact q) λc xs q=>by rw[cV<|dX q hn];exact q
theorem Un.laidN (k: ∀b u,h.get? b=some u->h'.get? b=some u)(hp:h.get? a=none)(hn:H a=none):Un fs ex H (upd H a o) h h' where
 keep:=λb u q _ _ _=>k b u q
 slot:=λb u q _ _ _=>⟨u.slots,k b u q⟩
 free:=λb u q n _=>by rw[cV (λz=>by rw[z,hp]at q;cases q)];exact n
 there:=λb u q _=>⟨u,k b u q⟩
 tups:=λb xs q=>by rw[cV<|dX q hn];exact q
 frzs:=λb u xs q=>by rw[cV<|dX q hn];exact q
 tbls:=λb ps q=>⟨#[],by rw[cV<|dX q hn,q];simp⟩
end
theorem dB0 {w1 w2:V}(r:Vals [w1,w2] us): ∃u1 u2,us=[u1,u2]/\RelV w1 u1/\RelV w2 u2:=by
 cases r with
 | cons a r=>
  cases r with
  | cons b r=>
   cases r;exact⟨_,_,rfl,a,b⟩
section
variable {X:Cx}{E:XK}{C fI:Addr}
def dQ0 (C:Addr)(f1 f2:Str)(E:XK)(ta:TA):TS:=λ_ σ H=>ta σ H λvs H1=> ∃v1 v2,vs=[v1,v2]/\ ∀d,H1 d=none->E (.ref C) (some d) (upd H1 d<|.xd [(f1,v1),(f2,v2)])
theorem cZ9 {x:Str}{np cpos pos:Pos}{e1 e2:Expr}{ta:TA}{B newId initId:String}{bmB:List Value}{fd:FuncData}{f1 f2:Str}{k:Nat}(FB:ExcBaseFacts B newId initId bmB)(q:aB6 X.K C fI bmB newId=true)(T:c98 X.K C fI fd f1 f2)(hr:iX (k+1) X.A)(hg:Gl X x)(hm:X.mg x=some (.ref C))(hc:X.calm=true)(ha:PA X [e1,e2] ta)(th:bF5 X E C)(hne:f1≠f2)
  (he:↥(starEach [e1,e2] X.env=(false,eval e1 X.env)::starEach [e2] X.env)) (hpl:↥((backTo cpos<|starEach [e2] X.env).any (·.1)=false)) (hd:⇑(x∪0)) (hex:↥(X.ex=[])) :
  PS X (.Raise (some<|.Call (.Name x np) [e1,e2] [] cpos) none pos) (dQ0 C f1 f2 E ta):=by
 intro pins s σ H D I h;obtain⟨bm,N,mN,⟨nm,qn,bs,hdd,sn,sub,ab,col,dd,k0,k1,k2,k3,k5,hC⟩,hN,hni,tl⟩:=c99 I.mod.kin q;have keepS: ∀{pins:List (Addr×Obj)} {σ:St} {H:Hp} {s2:Shared},Inv X pins σ H s2-> ∀b o,X.base.get? b=some o->s2.heap.get? b=some o:=λJ=>J.bk
 rw[arm_exec_Raise];refine a9 (rT<|xraise (C:=C) (nm:=nm) (qn:=qn) (N:=N) (bs:=bs) (bm:=bm) (hdd:=hdd) (sn:=sn) (sub:=sub) (ab:=ab) (col:=col) (dd:=dd) (k0:=k0) (k1:=k1) (k2:=k2) (k3:=k3) (k5:=k5) (newId:=newId) (tl.hasType FB.hasBase) (I.ok.hd hc) ?_);refine a9 (bD (wpAny_Call_ofName<|x9 I hg hm ?_ hd) (λv s3 h3=>a9 (rT<|aK h3)) λ_ _ z=>z)
 have plain:(backTo cpos<|starEach [e1,e2] X.env).any (·.1)=false:=by
  rw[he];show(false||(backTo cpos<|starEach [e2] X.env).any (·.1))=false;rw[hpl];rfl
 have hh:=ha cpos pins s σ H _ I h;unfold callWith;rw[he]at hh plain⊢;refine a9 (iO<|aP2<|bD hh (λus s2 z=>a9 (rT ?_)) λ_ _ z=>z)
 obtain⟨vs,H1,I1,r1,w1,w2,rfl,hE⟩:=z;simp only[plain];have hC2:=keepS I1 _ _ hC;obtain⟨u1,u2,rfl,q1,q2⟩:=dB0 r1;obtain⟨oc,od,_,_,_,_,_,_,_,_,_,_,osl,_,_,_,_,_,_,_,_,_,_,_,efd,lk,oce,_⟩:=T.ex;have gf:=I1.kIn _ _ lk;obtain⟨hp,gn,dr,tn,os⟩:=s2;refine a9 (wpAny_keeperOf_exc hC2 ?_);refine a9 (xcall FB (tl.keeps<|keepS I1) hC2 (hN.keeps<|keepS I1) hni gf oce (λh' a mk=> ?_) (by simp;decide))
 refine bD (cZ8 T I1 hr mk q1 q2) (λr s' z=> ?_) λ_ _ z=>z
 obtain⟨rfl,z1,z2,z3,oe,t,d,y1,y2,z4,z5,z6,ed,de,dn,x1,x2,nd⟩:=z;refine⟨rfl,a9<|iO<|wpAny_point<|aK ?_⟩;have dH:H1 d=none:=I1.hok.there dn;have I2:Inv X pins σ (upd H1 d<|.xd [(f1,w1),(f2,w2)]) s':=by
  obtain⟨hp',gn',dr',tn',os'⟩:=s';obtain rfl:os'=os:=z1;refine I1.call (h':=hp') (g':=gn') (d':=dr') (t':=tn') (ch:=[]) (Un.laidN z3 dn dH) (I1.hok.laidN z3 dH ?_) z2 (λb z=>absurd z ae)
  refine⟨_,nd,λf=> ?_⟩
  simp only[dQ,List.lookup_nil]
  by_cases c1:f=f1
  .subst c1;rw[aQ8,a7 hne,a8 rfl];exact x1
  .rw[show(f==f1)=false from rG.mpr c1]
   by_cases c2:f=f2
   .subst c2;rw[aQ8,a8 rfl];exact x2
   .rw[show(f==f2)=false from rG.mpr c2,a7 c2,a7 c1]
    exact trivial
 refine⟨a,oe,_,rfl,z3 _ _ hC2,z4,z5,z6,rfl,?_⟩
 refine th pins σ _ s' a oe _ (.ref t) (some d) I2 z4 z5 z6 rfl rfl (by rw[cV<|Ne.symm de];exact I1.hok.there mk.new) ?_ (λd' e=>by cases e;exact⟨oe,z4,ed⟩) (hE d dH)
 cases r:X.s₀.heap.get? a with
 | none=>rfl
 | some o=>
  obtain⟨o',q'⟩:=I1.base.there a o r (by rw[hex];simp)
  rw[mk.new]at q';cases q'
end
end L2
namespace M
abbrev XP:=Str->List D->Prop
abbrev ΦX:=List D->(B->Prop)->XP->Prop
nonrec def bU6 (n:Str):List Str:=if n="FallsApart" then ["left","right"]else if n="NotWhole" then ["prime","number"]else []
nonrec def XR (K:Frag)(A:AS)(H:Hp)(n:Str)(ds:List D):Option Addr->Prop
 | none=>bU6 n=[]
 | some d=> ∃vs,¬A d/\H d=some (.xd<|(bU6 n).zip vs)/\(bU6 n).length=vs.length/\cB K A H ds vs
theorem XR.mono {K:Frag}{A A':AS}{H H':Hp}{n:Str}{ds:List D}(p:oC A H A' H'): ∀{o:Option Addr},XR K A H n ds o->XR K A' H' n ds o
 | none,h=>h
 | some d,⟨vs,h1,h2,h3,h4⟩=>⟨vs,(p d _ h1 h2).1,(p d _ h1 h2).2,h3,h4.mono p⟩
nonrec def spX (K:Frag)(mg:Str->Option Value)(φ:ΦX):Sp:=λvs H Q E=> ∃A ds Q0 Ex,(∀a,A a->H a≠none)/\cB K A H ds vs/\φ ds Q0 Ex/\(∀b v H',Q0 b->j0 H H'->vU K A H H' b v->Q v H')/\ ∀n C es o H',Ex n es->mg n=some (.ref C)->j0 H H'->XR K A H' n es o->E (.ref C) o H'
structure FnX (P:Program)(w:World)(K:Frag)(mg:Str->Option Value)(base:Heap)(x:Str)(ps:List Str)(k:Nat)(φ:ΦX):Prop where
 ex: ∃f fd,uI P w K mg base (CXr P w base) k f fd ps (spX K mg φ)/\Binds K fd ps []/\keepIn K (.ref f)=true/\mg x=some (.ref f)
abbrev USX:=XP->US
def lSX (K:Frag)(mg:Str->Option Value)(E:XK)(t:USX):TS:=λD σ H=> ∃C ρ D0 Ex,EOk K C ρ σ H/\t Ex D0 ρ/\DOk K C D0 D/\ ∀n Cl es o H',Ex n es->mg n=some (.ref Cl)->j0 C.H0 H'->XR K C.A0 H' n es o->E (.ref Cl) o H'
def c07 (X:Cx)(E:XK)(st:Stmt)(t:USX):Prop:=PS X st (lSX X.K X.mg E t)
def zL (X:Cx)(E:XK)(sts:List Stmt)(t:USX):Prop:=PSs X sts (lSX X.K X.mg E t)
section
variable {X:Cx}{E:XK}{st:Stmt}{sts:List Stmt}{t u:USX}{e:Expr}{es:List Expr}{pos:Pos}
theorem bB8 {t:US}(h:PUS X st t):c07 X E st (λ_=>t):=uB h λD σ H ⟨C,ρ,D0,Ex,I,h,k,_⟩=>⟨C,ρ,D0,I,h,k⟩
theorem dB1 {t:US}(h:tL X sts t):zL X E sts (λ_=>t):=bD6 h λD σ H ⟨C,ρ,D0,Ex,I,h,k,_⟩=>⟨C,ρ,D0,I,h,k⟩
theorem c08 (h1:c07 X E st t)(h2:zL X E sts u):zL X E (st::sts) (λEx=>aW (t Ex) (u Ex)):=
 bD6 (zB h1 h2) λD σ H ⟨C,ρ,D0,Ex,I,h,k,kx⟩=>⟨C,ρ,{D0 with nx:=u Ex D0},Ex,I,h,⟨λρ' σ' H' q I'=>⟨C,ρ',D0,Ex,I',q,k,kx⟩,k.rt,k.bk,k.ct⟩,kx⟩
theorem aS3 (h1:c07 X E st t):zL X E [st] t:=bX3 h1
theorem c09:zL X E [] (λ_=>dG):=dB1 cJ1
theorem cR9 {a b:List Stmt}{tc:UT}(hc:PUT X c tc)(ha:zL X E a t)(hb:zL X E b u):c07 X E (.If c a b pos) (λEx=>fU tc (t Ex) (u Ex)):=
 uB (dW3 hc ha hb) λD σ H ⟨C,ρ,D0,Ex,I,h,k,kx⟩=>⟨C,ρ,_,I,h,λc ρ1 H1 q f s=>by
  have I1:=(I.frz f).same s;cases c with
  | true=>
   dsimp only at q⊢;rw[a8 rfl]at q⊢;exact⟨C,ρ1,D0,Ex,I1,q,k,kx⟩
  | false=>
   dsimp only at q⊢;rw[a7 ac]at q⊢
   exact⟨C,ρ1,D0,Ex,I1,q,k,kx⟩⟩
def bF7 (φ:ΦX)(t:UA)(Ex:XP):UE:=λρ Q=>t ρ λds ρ1=>φ ds (λb=>Q b ρ1) Ex
theorem spX_of {φ:ΦX}{C:C0}{ρ ρ1:Ev}{σ:L2.St}{H H1:Hp}{ds:List D}{vs:List V}{Q0:B->Prop}{Ex:XP}{Q:VK}(I:EOk X.K C ρ σ H)(f:Frz ρ ρ1)(s:j0 H H1)(r:cB X.K (Av C ρ1 σ) H1 ds vs)(q:φ ds Q0 Ex)(kq: ∀b v H',Q0 b->j0 H1 H'->vU X.K (Av C ρ1 σ) H1 H' b v->Q v H')(kx: ∀n Cl es o H',Ex n es->X.mg n=some (.ref Cl)->j0 C.H0 H'->XR X.K C.A0 H' n es o->E (.ref Cl) o H'):spX X.K X.mg φ (vs++[]) H1 Q E:=by
 have I1:=(I.frz f).same s;rw[lK];exact⟨Av C ρ1 σ,ds,Q0,Ex,λa z=>I1.avSome z,r,q,kq,λn Cl es o H' ex hm s' x=>kx n Cl es o H' ex hm (I1.ext.trans s') (x.mono<|.sub (.refl _) λa z=> .inl z)⟩
theorem c12 {ps:List Str}{φ:ΦX}{t:UA}(F:FnX X.prog X.w X.K X.mg X.base x ps k φ)(hr:iX k' X.A)(hk:k<=k')(hp:xW (CXr X.prog X.w X.base) X E)(hg:Gl X x)(ha:PUA X (e::es) t)(hdb:⇑(x∪0))
  (he:↥(starEach (e::es) X.env=(false,eval e X.env)::starEach es X.env)) (hpl:↥((backTo cpos<|starEach es X.env).any (·.1)=false)) (hs:↥(swapsWith (.Call (.Name x p) (e::es) [] cpos) none pos.line X.env=pure false)) :
  c07 X E (.Expr (.Call (.Name x p) (e::es) [] cpos) pos) (λEx=>aV8 (bF7 φ t Ex)):=by
 obtain⟨f,fd,G,b,kp,m⟩:=F.ex;exact uB (bX4 (cP4 G (hr.mono hk) hg m kp b .nil hp ha hdb he hpl) hs) λD σ H ⟨C,ρ,D0,Ex,I,h,k,kx⟩=>⟨C,ρ,_,I,h,λds ρ1 vs H1 q f s r=>spX_of I f s r q (λb v H' q' s' r'=>k.nx _ _ _ q' (((I.frz f).same s).same s')) kx⟩
def bF8 (x:Str)(t:UA)(Ex:XP):US:=λ_ ρ=>t ρ λds _=>ds.length<=sizeLine/\Ex x []
theorem lRaise {t:UA}(hm:X.mg x=some (.ref C))(hk:bU6 x=[])(D:bO1)(σ:L2.St)(H:Hp)(h:lSX X.K X.mg E (λEx=>bF8 x t Ex) D σ H):dA8 C E (lA X.K t) D σ H:=by
 obtain⟨C0,ρ,D0,Ex,I,h,k,kx⟩:=h;exact⟨C0,ρ,_,I,h,λds ρ1 vs H1 q f s r=>⟨by rw[<-r.length];exact q.1,kx x C [] none H1 q.2 hm (I.ext.trans s) hk⟩⟩
def aW7 (x:Str)(t1 t2:UE)(Ex:XP):US:=λ_ ρ=>t1 ρ λa ρ1=>t2 ρ1 λb _=>Ex x [a.d,b.d]
theorem cA0 {t:UA}{B:String}(FB:ExcBaseFacts B newId initId bmB)(q:excIn X.K C bmB newId=true)(hg:Gl X x)(hm:X.mg x=some (.ref C))(hc:X.calm=true)(ha:PUA X (e::es) t)(th:bF5 X E C)(hk:bU6 x=[])
  (he:↥(starEach (e::es) X.env=(false,eval e X.env)::starEach es X.env)) (hpl:↥((backTo cpos<|starEach es X.env).any (·.1)=false)) (hd:⇑(x∪0)) (hex:↥(X.ex=[])) :
  c07 X E (.Raise (some<|.Call (.Name x np) (e::es) [] cpos) none pos) (λEx=>bF8 x t Ex):=uB (dA9 FB q hg hm hc ha th he hpl hd hex) (lRaise hm hk)
theorem bU7 {e1 e2:Expr}{t1 t2:UE}{B:String}(FB:ExcBaseFacts B newId initId bmB)(q:aB6 X.K C fI bmB newId=true)(T:c98 X.K C fI fd f1 f2)(hr:iX (k+1) X.A)(hg:Gl X x)(hm:X.mg x=some (.ref C))(hc:X.calm=true)(ha:PUA X [e1,e2] (a6 t1<|a6 t2 aI))(th:bF5 X E C)(hk:bU6 x=[f1,f2])(hne:f1≠f2)
  (he:↥(starEach [e1,e2] X.env=(false,eval e1 X.env)::starEach [e2] X.env)) (hpl:↥((backTo cpos<|starEach [e2] X.env).any (·.1)=false)) (hd:⇑(x∪0)) (hex:↥(X.ex=[])) :
  c07 X E (.Raise (some<|.Call (.Name x np) [e1,e2] [] cpos) none pos) (λEx=>aW7 x t1 t2 Ex):=by
 refine uB (cZ9 FB q T hr hg hm hc ha th hne he hpl hd hex) λD σ H ⟨C0,ρ,D0,Ex,I,h,k,kx⟩=> ?_
 refine⟨C0,ρ,λds _=> ∃a b,ds=[a,b]/\Ex x ds,I,?_,λds ρ' vs H' ⟨a,b,q1,q2⟩ f s r=> ?_⟩
 .have e9: ∀(z y:M.B) (ρ2:Ev),(∃a b,[z.d,y.d]=[a,b]/\Ex x [z.d,y.d])=Ex x [z.d,y.d]:=λz y ρ2=>propext ⟨λ⟨_,_,_,w⟩=>w,λw=>⟨_,_,rfl,w⟩⟩
  show t1 ρ λz ρ1=>t2 ρ1 λy ρ2=> ∃a b,[z.d,y.d]=[a,b]/\Ex x [z.d,y.d]
  have:=h;unfold aW7 at this;simp only[e9 _ _ ρ];exact this
 .subst q1;obtain⟨v1,vr,rfl,r1,r2⟩:=r.uncons;obtain⟨v2,vr2,rfl,r3,r4⟩:=r2.uncons;cases r4.unnil;refine⟨v1,v2,rfl,λd hd=> ?_⟩
  have I1:=(I.frz f).same s;have s2:j0 H' (upd H' d<|.xd [(f1,v1),(f2,v2)]):=λb o z=>by rw[cV<|dX z hd];exact z
  have na: ∀a,C0.A0 a->a≠d:=λa z e=>I1.avSome (.inl z) (by rw[e];exact hd)
  refine kx x C _ (some d) _ q2 hm (I1.ext.trans s2) ⟨[v1,v2],λz=>na d z rfl,?_,by rw[hk];rfl,(cB.cons r1<|.cons r3 .nil).mono λb o n z=>⟨λw=>n (.inl w),s2 b o z⟩⟩
  rw[jM,hk];rfl
theorem dB2 {st:Stmt}{ps:List Str}{φ:ΦX}(F:Fun K x qual st f fd)(S:bC N ps (aJ st))
  (len: ∀ds Q Ex,φ ds Q Ex->ds.length=ps.length) {t:USX}
  (der: ∀(cdv:Value) (A:Around) (outer:List Env) (s:Shared) (H:Hp) (E:XK),iX k (A.deeper<|envOfC qual (aJ st) s.heap.objs.size f cdv)->zL (vT (CXr P w base) P w K mg base N qual (aJ st) f cdv A outer s H E) E (eZ st) t)
  (rd: ∀ds Q Ex,φ ds Q Ex->t Ex {Q with} (init N ds)) :
  uI P w K mg base (CXr P w base) (k+1) f fd ps (spX K mg φ):=by
 obtain⟨oc,od,kV,doc,pm,an,cdv,ct,osl,rfl,lk,hcd⟩:=F.ex;refine d53 lk hcd S (λvs H Q E h=> ?_) λA outer s H vs Q E hr h=> ?_
 .obtain⟨A,ds,Q0,Ex,_,r,h,_⟩:=h;rw[<-r.length];exact len ds Q0 Ex h
 .obtain⟨A',ds,Q0,Ex,hA,r,h,q,qx⟩:=h;refine⟨_,der cdv A outer s H E hr,⟨H,A'⟩,init N ds,_,Ex,bZ1 hA r,rd ds Q0 Ex h,⟨λρ σ H' z I=> ?_,λb v H' z s r=>q b v H' z s r,λ_ _ _ z=>z.elim,λ_ _ _ z=>z.elim⟩,qx⟩
  exact q _ _ H' z I.ext (show Rep _ _ _ _ _ by simp only[Rep])
theorem FnX.mk' {st:Stmt}{ps:List Str}{φ:ΦX}(F:Fun K x qual st f fd)(m:mg x=some (.ref f))(b:Binds K fd ps [])(S:bC N ps (aJ st))
  (len: ∀ds Q Ex,φ ds Q Ex->ds.length=ps.length) {t:USX}
  (der: ∀(cdv:Value) (A:Around) (outer:List Env) (s:Shared) (H:Hp) (E:XK),iX k (A.deeper<|envOfC qual (aJ st) s.heap.objs.size f cdv)->zL (vT (CXr P w base) P w K mg base N qual (aJ st) f cdv A outer s H E) E (eZ st) t)
  (rd: ∀ds Q Ex,φ ds Q Ex->t Ex {Q with} (init N ds)):FnX<$>x ps (k+1) φ:=
 ⟨f,fd,dB2 F S len der rd,b,F.kp,m⟩
end
end M
section
namespace L2
section
variable {X:Cx}{pins:List (Addr×Obj)}{σ:St}{H:Hp}{s:Shared}{h':Heap}{e:Addr}
theorem Inv.past (I:Inv X pins σ H s)(p:bO9 (frs X.stack) e s.heap h')(hstk:X.stack=X.env::X.outer)(hfr:X.env.frame=some X.env.locals)(hex:X.ex=[])(gs: ∀b o,X.s₀.heap.get? b=some o-> ∃o',g.get? b=some o')(gp: ∀q∈X.pn++pins,∃o',g.get? q.1=some o')(ne:g.get? e=none)(nt: ∀T,Tr s.heap e T->g.get? T=none)(he:H e=none)(ht: ∀T,Tr s.heap e T->H T=none):Inv X pins σ H {s with heap:=h'}:=by
 have none0: ∀b,g.get? b=none->X.s₀.heap.get? b=none:=λb q=>by
  cases r:X.s₀.heap.get? b with
  | none=>rfl
  | some o=>obtain⟨o',q'⟩:=gs b o r;rw[q]at q';cases q'
 have fm: ∀b∈frs X.stack,b=X.env.locals\/b∈X.fs:=λb hb=>by
  rw[hstk]at hb;unfold Cx.fs;unfold frs at hb⊢;rw[j8,hfr]at hb;exact aT.mp hb
 have hL:X.s₀.heap.get? X.env.locals=none:=mQ I.ok.above;have hd: ∀b∈X.fs,∀o,s.heap.get? b=some o-> ∀vs,o.data≠ .fields vs:=λb hb o q=>by
  have fl:=I.stack;rw[hstk]at fl;obtain⟨_,o',q',n⟩:=fl.mem (b:=b) (by
   unfold Cx.fs frs at hb;rw[j8,hfr];exact aT.mpr (.inr hb))
  rw[q]at q';cases q';exact n
 have hb0:=I.base;rw[hex]at hb0;have un:=hb0.past p fm hL (none0 e ne) (λT q=>none0 T (nt T q)) hd
 have cellS: ∀c v,s.heap.IsCell c v->h'.IsCell c v:=λc v ⟨o,q1,q2⟩=>by
  obtain⟨sl,q3⟩:=p.slot c o q1 (λvs z=>by rw[q2]at z;cases z)
  exact⟨_,q3,q2⟩
 refine⟨I.ok,I.os,I.bare,by rw[hex];exact un,?_,λx c q=> ?_,I.free,I.freeC,λq hq=> ?_,I.hok.past p I.stkFree he ht,I.len⟩
 .obtain⟨m,hn,hl⟩:=I.loc;refine⟨m,p.slot.ns hn,λi x v a b c=> ?_⟩
  obtain⟨u,r,lo⟩:=hl i x v a b c;refine⟨u,r,?_⟩;rcases lo with z| ⟨z1,c,z2,z3⟩
  .exact .inl z
  .exact .inr ⟨z1,c,z2,cellS c _ z3⟩
 .obtain⟨v,z⟩:=I.cell x c q;exact⟨v,cellS c v z⟩
 .obtain⟨z1,z2,z3,z4,z5⟩:=I.pin q hq;obtain⟨o',g1⟩:=gp q hq;refine⟨p.keep q.1 q.2 z1 (λz=> ?_) (λz=>by rw[z,ne]at g1;cases g1) (λz=>by rw[nt _ z]at g1;cases g1),z2,z3,z4,z5⟩
  rcases fm _ z with y|y
  .exact z3 y
  .exact z4 y
end
noncomputable abbrev Cx.inX (X:Cx)(e:Addr):Cx:={X with A:=X.A.mark (some<|.ref e),calm:=false,xe:=λ_ _=>False}
theorem Cx.Ok.inX {X:Cx}(ok:X.Ok)(e:Addr):(X.inX e).Ok:=
 ⟨ok.mod,ok.kind,ok.glob,ok.blt,ok.above,ok.inj,ok.has,ok.cab,(λz=>by cases z),ok.frames,ok.stk,ok.exf,ok.bs,ok.bsz,ok.noex,ok.exfs,ok.funs,ok.frf⟩
section
variable {X:Cx}{pins:List (Addr×Obj)}{σ:St}{H:Hp}{s:Shared}{e:Addr}
theorem Inv.inX (I:Inv X pins σ H s)(e:Addr):Inv (X.inX e) pins σ H s:=⟨I.ok.inX e,I.os,I.bare,I.base,I.loc,I.cell,I.free,I.freeC,I.pin,I.hok,I.len⟩
theorem Cx.Ok.outX {X:Cx}{Y:Cx}(okY:Y.Ok){e:Addr}(ok:(X.inX e).Ok)(hd:X.calm=true->X.A.handled=none):X.Ok:=
 ⟨ok.mod,ok.kind,ok.glob,ok.blt,ok.above,ok.inj,ok.has,ok.cab,hd,ok.frames,ok.stk,ok.exf,ok.bs,ok.bsz,ok.noex,ok.exfs,ok.funs,ok.frf⟩
theorem Inv.outX (I:Inv (X.inX e) pins σ H s)(hd:X.calm=true->X.A.handled=none):Inv X pins σ H s:=⟨I.ok.outX I.ok hd,I.os,I.bare,I.base,I.loc,I.cell,I.free,I.freeC,I.pin,I.hok,I.len⟩
theorem SP.outX {D:bO1}{f:Flow}(h:SP (X.inX e) pins D f s')(hd:X.calm=true->X.A.handled=none):SP X pins D f s':=by
 cases f with
 | next=>obtain⟨σ',H',I,q⟩:=h;exact⟨σ',H',I.outX hd,q⟩
 | brk=>obtain⟨σ',H',I,q⟩:=h;exact⟨σ',H',I.outX hd,q⟩
 | cont=>obtain⟨σ',H',I,q⟩:=h;exact⟨σ',H',I.outX hd,q⟩
 | ret u=>obtain⟨v,σ',H',I,r,q⟩:=h;exact⟨v,σ',H',I.outX hd,r,q⟩
theorem dB3 {M:Model}{hp:Heap}{gn:Array GenState}{dr:Drawn}{tn:Nat}{os:OsState}{Q:Bool->Shared->Prop}
  {nm qn:Str} {N:Addr} {bs bm:List Value} {hdd:Bool} {sn:List Str} {sub:List Value} {ab:Bool} {col:Option Bool} {dd:Option Addr} {k0 k1 k2 k3 k5:Option Value} {newId:String}
  {nm' qn':Str} {N':Addr} {bs' bm':List Value} {hdd':Bool} {sn':List Str} {sub':List Value} {ab':Bool} {col':Option Bool} {dd':Option Addr} {k0' k1' k2' k3' k5':Option Value} {newId':String}
  (hC:hp.get? C=some (excClassObj nm qn C N bs bm hdd sn sub ab col dd k0 k1 k2 k3 k5 newId)) (hR:hp.get? R=some (excClassObj nm' qn' R N' bs' bm' hdd' sn' sub' ab' col' dd' k0' k1' k2' k3' k5' newId'))
  (he:hp.get? e=some oe) (hcl:oe.cls= .ref C) (hb:bm'.contains (.type "BaseException")=true) (hr:(Value.ref C::bm).contains (.ref R)=true) (hq:Q true ⟨hp,gn,dr,tn,os⟩) :
  wpAny M A (excMatches (.ref e)<|.ref R) Q E ⟨hp,gn,dr,tn,os⟩:=by
 have t1:(Value.ref R::bm').contains (.type "BaseException")=true:=by rw[aP8,hb,Bool.or_true]
 have t2:=tc_notTuple;unfold excMatches
 repeat (first
  | (with_reducible refine oW he ?_;rw[hcl])
  | with_reducible refine oW hR ?_
  | (with_reducible refine a09 hR ?_;rw[t1])
  | (with_reducible refine a09 hC ?_;rw[hr])
  | wp_step)
 exact hq
end
theorem bU5.past {fs:List Addr}{e:Addr}(n:bU5 g e h)(p:bO9 fs e h h')(gh: ∀b o,g.get? b=some o-> ∃o',h.get? b=some o')(hf: ∀b∈fs,∀o,h'.get? b=some o-> ∀vs,o.data≠ .fields vs):bU5 g e h':=by
 refine⟨n.he,λT q=> ?_⟩
 rcases p.tr T q with z|z|z|z
 .obtain⟨o,vs,q1,q2⟩:=p.rcd T q;exact absurd q2 (hf T z o q1 vs)
 .rw[z];exact n.he
 .exact n.ht T z
 .cases r:g.get? T with
  | none=>rfl
  | some o=>obtain⟨o',q'⟩:=gh T o r;rw[z]at q';cases q'
theorem bF9 {fs:List Addr}{e:Addr}(n:bU5 g e h)(p:bO9 fs e h h')(gh: ∀b o,g.get? b=some o-> ∃o',h.get? b=some o')(hf: ∀b∈fs,∀o,h.get? b=some o-> ∀vs,o.data≠ .fields vs): ∀b o,g.get? b=some o-> ∃o',h'.get? b=some o':=λb o q=>by
 obtain⟨o',q'⟩:=gh b o q
 by_cases c:b∈fs
 .obtain⟨sl,z⟩:=p.slot b o' q' (hf b c o' q');exact⟨_,z⟩
 .exact⟨o',p.keep b o' q' c (λz=>by rw[z,n.he]at q;cases q) λz=>by rw[n.ht b z]at q;cases q⟩
theorem dQ1 {l:List Env}(f:h.FunFrames base l): ∀b∈frs l,∀o,h.get? b=some o-> ∀vs,o.data≠ .fields vs:=λb hb o q=>by
 obtain⟨_,o',q',n⟩:=f.mem (b:=b) hb;rw[q]at q';cases q';exact n
def aW8 (CX:CXT)(X:Cx)(E:XK)(pins:List (Addr×Obj))(σ:St):Prop:= ∀(H:Hp) (s:Shared) (e:Value) (s':Shared),Inv X pins σ H s->CX X.stack H s E e s'->X.xe e s'
def b33 (K:Frag)(R C:Addr)(bmB:List Value)(newId:String):Prop:=(excIn K C bmB newId=true\/ ∃fI,aB6 K C fI bmB newId=true)/\ ∃cd,clsIn K C=some cd/\cd.mro.contains (.ref R)=true
def UnderB (K:Frag)(R C:Addr)(bmB:List Value)(newId:String)(b:Bool):Prop:=(excIn K C bmB newId=true\/ ∃fI,aB6 K C fI bmB newId=true)/\ ∃cd,clsIn K C=some cd/\cd.mro.contains (.ref R)=b
theorem dB4 {N:Addr}{bm:List Value}{cd:ClassData}(X:K.In h)
  (o:XO h C N bm newId) (hc:clsIn K C=some cd):cd.mro=Value.ref C::bm:=by
 cases o with|mk _ _ _ _ _ _ _ _ _ _ _ _ _ _ hC;unfold clsIn at hc;split at hc
 .rename_i look
  have same:=X _ _ look;rw[hC]at same;cases hc
  injection same with same
  injection same with _ _ same _
  injection same with same
  rw[<-same]
 .cases hc
theorem underB {b:Bool}(X:K.In h)(u:UnderB K R C bmB newId b): ∃N bm,XO h C N bm newId/\(Value.ref C::bm).contains (.ref R)=b:=by
 obtain⟨a,cd,hc,hr⟩:=u;rcases a with a| ⟨fI,a⟩
 .obtain⟨bm,N,_,o,_⟩:=c05 X a;exact⟨N,bm,o,by rw[<-dB4 X o hc];exact hr⟩
 .obtain⟨bm,N,_,o,_⟩:=c99 X a;exact⟨N,bm,o,by rw[<-dB4 X o hc];exact hr⟩
section
variable {X:Cx}
def tTry (K:Frag)(R:Addr)(bmB:List Value)(newId:String)(tb:XK->TS)(th:TS):TS:=λD σ H=> ∃E,tb E D σ H/\ ∀C o H',E (.ref C) o H'->b33 K R C bmB newId/\th D σ H'
theorem ps_try {body:List Stmt}{b0:Stmt}{suite:List Stmt}{r:Str}{rp hpos pos:Pos}{R:Addr}{B newId initId:String}{bmB:List Value}{tb:XK->TS}{th:TS}(FB:ExcBaseFacts B newId initId bmB)(hstk:X.stack=X.env::X.outer)(hfr:X.env.frame=some X.env.locals)(hex:X.ex=[])(hc:X.calm=true)
  (hbody: ∀(xe:Value->Shared->Prop) (E:XK) (pins:List (Addr×Obj)) (s:Shared) (σ:St) (H:Hp) (D:bO1),Inv (X.wish xe) pins σ H s->aW8 (CXr X.prog X.w X.base) (X.wish xe) E pins σ->tb E D σ H->X∩(execs body X.env) (SP (X.wish xe) pins D) xe s)
  (hsuite: ∀a,PSs (X.inX a) (b0::suite) th) (hg:Gl X r) (hm:X.mg r=some (.ref R)) (hR:excIn X.K R bmB newId=true) (hd:⇑(r∪0)) :
  PS X (.Try body [.ExceptHandler (some<|.Name r rp) none (b0::suite) hpos] [] [] pos) (tTry X.K R bmB newId tb th):=by
 rintro pins s σ H D I ⟨E,hb,hx⟩;refine wpAny_Try_except ?_;have goX:aW8 (CXr X.prog X.w X.base) (X.wish λe s1=>X∩(noteFrame e X.env) (λ_ s2=>X∩(setFlight e none) (λ_ s3=>X∩(handleBy e X.env [.ExceptHandler (some<|.Name r rp) none (b0::suite) hpos]) (SP X pins D) X.xe s3) X.xe s2) X.xe s1) E pins σ:=by
  rintro H1 s1 e s' J ⟨a,C,o',H',rfl,ho,hbr,un,hok,⟨⟨a0,fl⟩,fe,ft⟩,nw,_,hE⟩;have J0:=J.unwish;have J1:Inv X pins σ H' s':=J0.call' ho un hok hbr (λb z=>absurd z ae)
  obtain⟨under,hth⟩:=hx C o' H' hE;have fl':FlyingW X.base X.stack a (.ref C) a0 s'.heap:=fl;have frs':=J1.ok.frames;have g0: ∀b o,s1.heap.get? b=some o-> ∃o',s'.heap.get? b=some o':=λb o q=>un.there b o q ae
  have gs: ∀b o,X.s₀.heap.get? b=some o-> ∃o',s1.heap.get? b=some o':=λb o q=>J0.base.there b o q (by rw[hex];simp)
  have gp: ∀q∈X.pn++pins,∃o',s1.heap.get? q.1=some o':=λq hq=>⟨_,(J0.pin q hq).1⟩
  show wpAny _ _ (noteFrame (.ref a) X.env) _ _ s'
  rw[hstk]at fl' frs';refine dA5 frs' hfr fl' λh2 held p2=> ?_
  rw[<-hstk]at p2 held fl';have J2:=J1.past (g:=s1.heap) p2 hstk hfr hex gs gp nw.he nw.ht fe ft;have n2:=nw.past p2 g0 (dQ1 held.2.2.1);have g2:=bF9 nw p2 g0 (dQ1 fl'.2.2.1);have t2:=bB7 J1.hok p2 J1.stkFree fe ft;refine c96 held λh3 fl3 p3=> ?_
  have J3:=J2.past (g:=s1.heap) p3 hstk hfr hex gs gp n2.he n2.ht fe t2;have n3:=n2.past p3 g2 (dQ1 fl3.2.2.1);have g3:=bF9 n2 p3 g2 (dQ1 held.2.2.1);have t3:=bB7 J2.hok p3 J2.stkFree fe t2;obtain⟨oe,he,hcl⟩:=fl3.there;obtain⟨_,bm,⟨_,_,_,_,_,_,_,_,_,_,_,_,_,_,hC⟩,hin⟩:=underB (b:=true) J3.kIn under;obtain⟨bm',_,_,⟨_,_,_,_,_,_,_,_,_,_,_,_,_,_,hRo⟩,_,_,tl'⟩:=c05 J3.kIn hR
  refine wpAny_handleBy_cons (codeAny_handlers_test<|x9 (X:=X.inX a) (J3.inX a) hg hm ?_ hd) (by intro q;cases q)
  refine dB3 hC hRo he hcl (tl'.hasType FB.hasBase) hin ?_
  refine codeAny_handlers_suite (c96 fl3 λh4 fl4 p4=> ?_)
  have J4:=J3.past (g:=s1.heap) p4 hstk hfr hex gs gp n3.he n3.ht fe t3;exact bD (hsuite a pins _ σ H' D (J4.inX a) hth) (λf s2 q=>q.outX λ_=>J4.ok.hd hc) λ_ _ z=>z.elim
 refine bD (hbody _ E pins s σ H D (I.wish _) goX hb) (λf s1 q=> ?_) λ_ _ z=>z
 have q':=q.unwish;cases f with
 | next=>exact pA q'
 | ret v=>exact q'
 | brk=>exact q'
 | cont=>exact q'
end
section
variable {X:Cx}{CX:CXT}{k:Nat}{f C:Addr}{fd:FuncData}{ps:List Str}{sp:Sp}{dvs:List V}{ds:List Value}{E:XK}{x:Str}{p pos:Pos}{e:Expr}{es:List Expr}{t:TA}
theorem d00 {pins:List (Addr×Obj)}{σ:St}{H:Hp}{s:Shared}{Q:VK}{us:List Value}{vs:List V}(M:Mk X.K C f)(F:uI X.prog X.w X.K X.mg X.base CX k f fd ps sp)(hr:iX (k+1) X.A)(hb:Binds X.K fd ps [])
  (hx:aW8 CX X E pins σ) (I:Inv X pins σ H s) (r:Vals vs us)
  (h: ∀x dx,H x=none->H dx=none->dx≠x->sp (.ref x::vs) (upd (upd H dx<|.own x) x<|.ins C dx []) (λv H2=>v= .non/\Q (.ref x) H2) E) :
  X∩(call (.ref C) us) (EP X pins σ Q) X.xe s:=by
 have hq:=h (s.heap.objs.size+1) s.heap.objs.size (I.hok.fresh<|pC _) (I.hok.fresh<|aG _) (b9<|rO _);have I2:=Inv.made (C:=C) I;have r2:Vals (V.ref (s.heap.objs.size+1)::vs) (Value.ref (s.heap.objs.size+1)::us):= .cons rfl r;have hl:(Value.ref (s.heap.objs.size+1)::us++[]).length=ps.length:=by
  have e:=r2.length;rw[F.len _ _ _ _ hq]at e;rw[lK];exact e.symm
 have bd:=hb (s:={s with heap:=(s.heap.push {cls:= .type "dict",data:= .dict #[]}).push (instObj C s.heap.objs.size)}) (Value.ref (s.heap.objs.size+1)::us) I2.kIn hl;rw[lK]at bd;refine vO (c69 (f:=f) I.kIn M.makes M.init (gA.mp M.fn) (vI (F.run _ X.stack _ _ ⟨Value.ref (s.heap.objs.size+1)::us,[]⟩ (Value.ref (s.heap.objs.size+1)::us) _ _ E (hr.make C us [])
  (I2.env0.make C us []) bd r2 hq) λr s' hq'=> ?_))
 cases r with
 | error e=>exact hx _ _ e s' I2 hq'
 | ok fl=>
  cases fl with
  | ret u=>
   obtain⟨v,H',I3,rv,ev,q3⟩:=I2.after hq';subst ev;exact⟨rv,⟨V.ref<|s.heap.objs.size+1,H',I3,rfl,q3⟩⟩
  | next=>exact False.elim hq'
  | brk=>exact False.elim hq'
  | cont=>exact False.elim hq'
theorem dQ2 {σ:St}{H:Hp}{Q:VK}(M:Mk X.K C f)(F:uI X.prog X.w X.K X.mg X.base CX k f fd ps sp)(hr:iX (k+1) X.A)(hg:Gl X x)(hm:X.mg x=some (.ref C))(hb:Binds X.K fd ps [])(hx:aW8 CX X E pins σ)
  (ha:PA X (e::es) t) (I:Inv X pins σ H s) (h:cP3 C sp [] E t σ H Q) (hdb:x∪0) (he:starEach (e::es) X.env=(false,eval e X.env)::starEach es X.env) (hpl:(backTo pos<|starEach es X.env).any (·.1)=false) :
  X∩(eval (.Call (.Name x p) (e::es) [] pos) X.env) (EP X pins σ Q) X.xe s:=by
 refine rL (x9 I hg hm ?_ hdb)
 refine aP7 (h₀:=X.base) I.ok.mod.kin M.kp (thn (ha pos pins s σ H _ I h) λus s1 ⟨vs,H1,I1,r,q⟩=>⟨I1.kIn,?_⟩) he hpl
 exact d00 M F hr hb hx I1 r λx dx a b c=>by have:=q x dx a b c;rw[lK]at this;exact this
end
end L2
namespace M
section
variable {X:Cx}{e:Expr}{es:List Expr}{pos:Pos}{te:UE}{K:Frag}{A:AS}{H:Hp}
def aS4 (f:Str)(t:UE):UE:=λρ Q=>t ρ λb ρ1=>match b.d with
 | .obj _ ks l=>(match(ks.zip l).lookup f with
  | some d=>Q (.pu d) ρ1
  | none=>False)
 | _=>False
theorem cB.field {f:Str}{d:D}: ∀{ks:List Str} {l:List D} {vs:List V},cB K A H l vs->(ks.zip l).lookup f=some d-> ∃v,(ks.zip vs).lookup f=some v/\Rep K A H d v/\f∈ks
 | [],_,_,_,h=>by simp at h
 | _::_,[],_,_,h=>by simp at h
 | q::ks,a::l,vs,r,h=>by
  obtain⟨v,vr,rfl,r1,r2⟩:=r.uncons;rw[rN,dQ]at h;rw[rN,dQ];cases c:f==q with
  | true=>
   rw[c]at h;cases h;exact⟨v,rfl,r1,by rw[gA.mp c];simp⟩
  | false=>
   rw[c]at h;obtain⟨w,h1,h2,h3⟩:=cB.field r2 h;exact⟨w,h1,h2,bM _ h3⟩
theorem aB7 {f:Str}(he:PU X e te)(hb:↥(attributeBase e f X.env (eval e X.env)=eval e X.env)):PU X (.Attribute e f pos) (aS4 f te):=
 jF (pe_fld he hb) λσ H Q ⟨C,ρ,Q0,I,h,k⟩=>⟨C,ρ,_,I,h,λb ρ1 v H1 q fz s r=>by
  have rr:=r.rep λa z=>I.avF fz z
  cases ed:b.d with
  | obj C' ks l=>
   rw[ed]at rr q;dsimp only at q;cases el:(ks.zip l).lookup f with
   | none=>rw[el]at q;exact q.elim
   | some d=>
    rw[el]at q;simp only[Rep]at rr;obtain⟨a,dx,vs,rfl,n,c,hl,rl,ok⟩:=rr;obtain⟨w,h1,h2,h3⟩:=rl.field el;exact⟨a,C',dx,ks.zip vs,w,rfl,c,ok.1,ok.2 f h3,h1,k _ ρ1 w H1 q fz s h2⟩
  | _=>rw[ed]at q;exact q.elim⟩
abbrev ΦM:=List D->(List D->Prop)->XP->Prop
nonrec def spI (K:Frag)(mg:Str->Option Value)(C:Addr)(ks:List Str)(φ:ΦM):Sp:=λvs H Q E=> ∃(x dx:Addr) (vs':List V) (A:AS) (ds:List D) (Q0:List D->Prop) (Ex:XP),vs=V.ref x::vs'/\H x=some (.ins C dx [])/\H dx=some (.own x)/\ ¬A x/\ ¬A dx/\(∀a,A a->H a≠none)/\cB K (λb=>A b\/b=x) H ds vs'/\φ ds Q0 Ex/\
 (∀l ws H',Q0 l->(∀b o,b≠x->H b=some o->H' b=some o)->H' x=some (.ins C dx<|ks.zip ws)->ks.length=ws.length->cB K (λb=>A b\/b=x) H' l ws->Q .non H')/\
 ∀n Cl es o H',Ex n es->mg n=some (.ref Cl)->(∀b o,b≠x->H b=some o->H' b=some o)->XR K A H' n es o->E (.ref Cl) o H'
structure MkX (P:Program)(w:World)(K:Frag)(mg:Str->Option Value)(base:Heap)(x:Str)(k:Nat)(ks:List Str)(φ:ΦM):Prop where
 ex: ∃C f fd ps,Mk K C f/\OkC K C ks/\uI P w K mg base (CXr P w base) k f fd ps (spI K mg C ks φ)/\Binds K fd ps []/\mg x=some (.ref C)
theorem dX5 {φ:ΦM}{t:UA}{E:XK}{C0:C0}{ρ:Ev}{σ:L2.St}{Q:VK}{Q0:Ev->List D->Prop}{Ex:Ev->XP}(ok:OkC X.K C ks)(I:EOk X.K C0 ρ σ H)(h:t ρ λds ρ1=>φ ds (Q0 ρ1) (Ex ρ1))
  (kq: ∀l ρ1 v H',Q0 ρ1 l->Frz ρ ρ1->j0 H H'->Rep X.K (Av C0 ρ1 σ) H' (.obj C ks l) v->Q v H') (kx: ∀n Cl ρ1 es o H',Ex ρ1 n es->X.mg n=some (.ref Cl)->EOk X.K C0 ρ1 σ H'->XR X.K (Av C0 ρ1 σ) H' n es o->E (.ref Cl) o H') :
  cP3 C (spI X.K X.mg C ks φ) [] E (lA X.K t) σ H Q:=by
 refine⟨C0,ρ,_,I,h,λds ρ1 vs H1 q f s r x dx nx nd ne=> ?_⟩
 have I1:=(I.frz f).same s;have hA: ∀a,Av C0 ρ1 σ a->H1 a≠none:=λa z=>I1.avSome z
 have s3:j0 H1 (upd (upd H1 dx<|.own x) x<|.ins C dx []):=λb o z=>by
  rw[cV<|dX z nx,cV<|dX z nd];exact z
 have back: ∀H',(∀b o,b≠x->upd (upd H1 dx<|.own x) x (.ins C dx []) b=some o->H' b=some o)->j0 H1 H':=λH' z b o q'=>z b o (dX q' nx) (s3 b o q')
 rw[lK];refine⟨x,dx,vs,Av C0 ρ1 σ,ds,Q0 ρ1,Ex ρ1,rfl,jM,by rw[cV ne];exact jM,λz=>hA x z nx,λz=>hA dx z nd,λa z q'=> ?_,r.mono<|oC.fresh s3 nx,q,λl ws H' q0 kp hx hl rl=>⟨rfl,?_⟩,λn Cl es o H' ex hm kp xr=> ?_⟩
 .cases e':H1 a with
  | none=>exact hA a z e'
  | some o=>rw[s3 a o e']at q';cases q'
 .refine kq l ρ1 _ H' q0 f (s.trans<|back H' kp) ?_
  simp only[Rep];exact⟨x,dx,ws,rfl,λz=>hA x z nx,hx,hl,rl.mono<|.sub (.refl _) λa z=> .inl z,ok⟩
 .exact kx n Cl ρ1 es o H' ex hm (I1.same<|back H' kp) xr
def bU8 (ks:List Str)(φ:ΦM)(t:UA):UE:=λρ Q=>t ρ λds ρ1=>φ ds (λl=> ∀C,Q (.pu<|.obj C ks l) ρ1) λ_ _=>False
theorem cS0 {φ:ΦM}{t:UA}(F:MkX X.prog X.w X.K X.mg X.base x k ks φ)(hr:iX (k'+1) X.A)(hk:k<=k')(hg:Gl X x)(ha:PUA X (e::es) t)(hdb:⇑(x∪0))
  (he:↥(starEach (e::es) X.env=(false,eval e X.env)::starEach es X.env)) (hpl:↥((backTo pos<|starEach es X.env).any (·.1)=false)):PU X (.Call (.Name x p) (e::es) [] pos) (bU8 ks φ t):=by
 obtain⟨C,f,fd,ps,M,ok,G,b,m⟩:=F.ex;have hp:xW (CXr X.prog X.w X.base) X (λ_ _ _=>False):=by
  rintro pins σ H s e s' I ⟨_,_,_,_,_,_,_,_,_,_,_,_,z⟩;exact z.elim
 refine jF (dM1 M (G.mono hk) hr hg m b .nil hp ha hdb he hpl) λσ H Q ⟨C0,ρ,Q0,I,h,k⟩=> ?_
 exact dX5 (Q0:=λρ1 l=> ∀C,Q0 (.pu<|.obj C ks l) ρ1) (Ex:=λ_ _ _=>False) ok I h (λl ρ1 v H' q f s r=>k _ ρ1 v H' (q C) f s r) λn Cl ρ1 es o H' z=>z.elim
def cA1 (i:Nat)(ks:List Str)(φ:ΦM)(t:UA)(names:List Str)(th:US):US:=λE ρ=>t ρ λds ρ1=>φ ds (λl=> ∀C,E.nx<|ρ1.set i<|some<|.pu<|.obj C ks l) λn _=>n∈names/\th E ρ1
theorem cS1 {φ:ΦM}{r:Str}{apos rp hpos:Pos}{t:UA}{b0:Stmt}{suite:List Stmt}{th:US}{B:String}(i:Nat)(names:List Str)(FB:ExcBaseFacts B newId initId bmB)(F:MkX X.prog X.w X.K X.mg X.base x k ks φ)(hr:iX (k'+1) X.A)(hk:k<=k')(hstk:X.stack=X.env::X.outer)(hfr:X.env.frame=some X.env.locals)(hex:X.ex=[])(hc:X.calm=true)
  (hg:Gl X x) (ha: ∀xe,PUA (X.wish xe) (e::es) t) (hN:X.N.Nodup) (hi:X.N[i]? =some y) (hy:Loc X.env.scope y) (hsuite: ∀a,tL (X.inX a) (b0::suite) th) (hgr:Gl X r) (hmr:X.mg r=some (.ref R)) (hR:excIn X.K R bmB newId=true) (hu: ∀n∈names,∀C,X.mg n=some (.ref C)->b33 X.K R C bmB newId)
  (hl: ∀pins σ H s,Inv X pins σ H s->i<σ.length) (hdb:⇑(x∪0)) (hd:⇑(r∪0))
  (he:↥(starEach (e::es) X.env=(false,eval e X.env)::starEach es X.env)) (hpl:↥((backTo cpos<|starEach es X.env).any (·.1)=false)) (hs:↥(swapsWith (.Call (.Name x p) (e::es) [] cpos) (some<|.Name y py) apos.line X.env=pure false)) (hf:X.fn y=true\/X.env.scope.names.lookup y=some .local:=by walk_at "z") :
  PUS X (.Try [.Assign [.Name y py] (.Call (.Name x p) (e::es) [] cpos) apos] [.ExceptHandler (some<|.Name r rp) none (b0::suite) hpos] [] [] pos) (cA1 i ks φ t names th):=by
 obtain⟨C,f,fd,ps,M,ok,G,b,m⟩:=F.ex;intro pins s σ H D J q;refine ps_try (R:=R) (tb:=λE=>dL1 (cP3 C (spI X.K X.mg C ks φ) [] E<|lA X.K t) (aA5 i)) (th:=lS X.K th) FB hstk hfr hex hc (λxe E pins s σ H D I pa h=> ?_) hsuite hgr hmr hR hd pins s σ H D J ?_
 .refine vA (wpAny_Assign_Name (thn (dQ2 (X:=X.wish xe) M (G.mono hk) hr hg m b pa (ha xe) I h hdb he hpl) λv s1 ⟨y',H1,I1,r1,q1⟩=> ?_) hs)
  exact aV1 (X:=X.wish xe) I1 hN hi hy r1 (λs2 I2=>pA ⟨_,H1,I2,q1⟩) hf
 .obtain⟨C0,ρ,D0,I,h,k⟩:=q;refine⟨λcls _ H'=> ∃n Cl ρ1,cls=Value.ref Cl/\X.mg n=some (.ref Cl)/\n∈names/\th D0 ρ1/\EOk X.K C0 ρ1 σ H',?_,?_⟩
  .exact dX5 (Q0:=λρ1 l=> ∀C,D0.nx<|ρ1.set i<|some<|.pu<|.obj C ks l) (Ex:=λρ1 n _=>n∈names/\th D0 ρ1) ok I h
    (λl ρ1 v H' q f s1 r=>k.nx _ _ _ (q C) ((I.frz f).store s1 (show vU X.K (Av C0 ρ1 σ) H H' (.pu<|.obj C ks l) v from r)<|hl pins σ H s J)) λn Cl ρ1 es o H' z hm' I' _=>⟨n,Cl,ρ1,rfl,hm',z.1,z.2,I'⟩
  .rintro Cl o H' ⟨n,Cl',ρ1,e1,hm',hn,ht,I'⟩;cases e1;exact⟨hu n hn Cl hm',C0,ρ1,D0,I',ht,k⟩
end
section
variable {K:Frag}{C:C0}{ρ ρ':Ev}{σ:L2.St}{H H':Hp}
theorem EOk.poke {x:Addr}{o:HO}(I:EOk K C ρ σ H)(ax:C.A0 x)(hx: ∀vs,C.H0 x≠some (.lst vs)):EOk K ⟨λb=>if b=x then some o else C.H0 b,C.A0⟩ ρ σ (upd H x o):=by
 have ne: ∀a,C.H0 a=none->a≠x:=λa z e=>by subst e;exact I.a0 a ax z
 have P:oC (Av C ρ σ) H (Av ⟨λb=>if b=x then some o else C.H0 b,C.A0⟩ ρ σ) (upd H x o):=λb u nb e=>⟨nb,by rw[cV λz=>nb (by subst z;exact .inl ax)];exact e⟩
 refine⟨I.len,?_,?_,I.inj,?_,?_,?_⟩
 .intro i d h;obtain⟨v,h1,h2⟩:=I.pu i d h;exact⟨v,h1,h2.mono P⟩
 .intro i l h;obtain⟨a,vs,h1,h2,h3,h4⟩:=I.ow i l h;have na:=ne a h3;exact⟨a,vs,h1,by rw[cV na];exact h2,by show(if a=x then some o else C.H0 a)=none;rw[a7 na];exact h3,h4.mono P⟩
 .intro i l h;obtain⟨a,vs,h1,h2,h3,h4⟩:=I.bo i l h;have na:a≠x:=λz=>by subst z;exact hx vs h3
  exact⟨a,vs,h1,h2,by show(if a=x then some o else C.H0 a)=_;rw[a7 na];exact h3,h4.mono P⟩
 .intro b u h
  by_cases c:b=x
  .subst c;have h':(if b=b then some o else C.H0 b)=some u:=h;rw[a8 rfl]at h';rw[jM];exact h'
  .have h':(if b=x then some o else C.H0 b)=some u:=h;rw[a7 c]at h';rw[cV c];exact I.ext b u h'
 .intro a z;show(if a=x then some o else C.H0 a)≠none;split
  .simp
  .exact I.a0 a z
theorem bG0 {x Cl:Addr}{fs:List (Str×V)}{f:Str}{te:UE}{Q0:B->Ev->Prop}{D:bO1}(I:EOk K C ρ σ H)(ax:C.A0 x)(hx:H x=some (.ins Cl dx fs))(h0:ρ[0]? =some (some<|.pu<|.adr x))(cl:Cls K Cl)(na:aA6 K Cl f)(hf:fs.length<1000)(h:te ρ Q0)
  (k: ∀b ρ1 w H',Q0 b ρ1->ρ1[0]? =some (some<|.pu<|.adr x)->(∀a o,a≠x->H a=some o->H' a=some o)->H' x=some (.ins Cl dx<|wV f w fs)->(∃C1:C0,C1.A0=C.A0/\EOk K C1 ρ1 σ H')->Rep K C.A0 H' b.d w->(∀d v,Rep K C.A0 H d v->Rep K C.A0 H' d v)->D.nx σ H') :
  d48 K (aR6 0) (lE K te) f D σ H:=by
 refine⟨C,ρ,Q0,I,h,λb ρ1 w H1 q fz s r=> ?_⟩
 have I1:=(I.frz fz).same s;have h1:ρ1[0]? =some (some<|.pu<|.adr x):=by
  rcases fz.2 0 with z| ⟨l,z,_⟩
  .rw[z];exact h0
  .rw[h0]at z;cases z
 obtain⟨v,e1,e2⟩:=I1.pu 0 _ h1;simp only[Rep]at e2;subst e2;have hx1:=s _ _ hx;have nl: ∀vs,C.H0 x≠some (.lst vs):=λvs z=>by
  have:=I.ext x _ z;rw[hx]at this;cases this
 have P:oC C.A0 H1 C.A0 (upd H1 x<|.ins Cl dx<|wV f w fs):=oC.upd ax;refine⟨.ref x,e1,x,Cl,dx,fs,rfl,hx1,cl,na,hf,k b ρ1 w _ q h1 (λa o ne e=>by rw[cV ne];exact s a o e) jM ⟨⟨λb=>if b=x then some (.ins Cl dx<|wV f w fs)else C.H0 b,C.A0⟩,rfl,I1.poke (o:= .ins Cl dx (wV f w fs)) ax nl⟩ ?_ λd v r'=> ?_⟩
 .exact((r.rep λa z=>I.avF fz z).mono<|.sub (.refl _) λa z=> .inl z).mono P
 .exact(r'.mono<|.same s).mono P
end
section
variable {X:Cx}{E:XK}{st:Stmt}{sts:List Stmt}{t u:USX}{tS:TS}
theorem dQ3 (h1:c07 X E st t)(h2:PSs X sts tS):PSs X (st::sts) (λD=>lSX X.K X.mg E t {D with nx:=tS D}):=zB h1 h2
theorem bB9 (h1:c07 X E st t)(h2:PSs X sts (λD=>lSX X.K X.mg E u {D with nx:=tS D})):PSs X (st::sts) (λD=>lSX X.K X.mg E (λEx=>aW (t Ex) (u Ex)) {D with nx:=tS D}):=
 bD6 (zB h1 h2) λD σ H ⟨C,ρ,D0,Ex,I,h,k,kx⟩=>⟨C,ρ,{D0 with nx:=u Ex D0},Ex,I,h,⟨λρ' σ' H' q I'=>⟨C,ρ',D0,Ex,I',q,k,kx⟩,k.rt,k.bk,k.ct⟩,kx⟩
def tS3 (K:Frag)(f1 f2 f3:Str)(t1 t2 t3:UE):TS:=tSeq (d48 K (aR6 0) (lE K t1) f1) (tSeq (d48 K (aR6 0) (lE K t2) f2)<|d48 K (aR6 0) (lE K t3) f3)
end
theorem dB5 {Cl:Addr}{ps:List Str}{φ:ΦM}{f3:Str}{t1 t2 t3:UE}(F:Fun K x qual st f fd)(S:bC N ps (aJ st))(ok:OkC K Cl [f1,f2,f3])(n1:f1≠f2)(n2:f1≠f3)(n3:f2≠f3)
  (len: ∀ds Q Ex,φ ds Q Ex->ds.length+1=ps.length) (hN:N≠[]) {t:USX}
  (der: ∀(cdv:Value) (A:Around) (outer:List Env) (s:Shared) (H:Hp) (E:XK),iX k (A.deeper<|envOfC qual (aJ st) s.heap.objs.size f cdv)->
   PSs (vT (CXr P w base) P w K mg base N qual (aJ st) f cdv A outer s H E) (eZ st) (λD=>lSX K mg E t {D with nx:=tS3 K f1 f2 f3 t1 t2 t3 D}))
  (rd: ∀a ds Q Ex,φ ds Q Ex->t Ex {nx:=λρ=>ρ[0]? =some (some<|.pu<|.adr a)/\t1 ρ λb1 ρ1=>t2 ρ1 λb2 ρ2=>t3 ρ2 λb3 _=>Q [b1.d,b2.d,b3.d],rt:=λ_=>False} (init N (.adr a::ds))) :
  uI P w K mg base (CXr P w base) (k+1) f fd ps (spI K mg Cl [f1,f2,f3] φ):=by
 obtain⟨oc,od,kV,doc,pm,an,cdv,ct,osl,rfl,lk,hcd⟩:=F.ex;refine d53 lk hcd S (λvs H Q E h=> ?_) λA outer s H vs Q E hr h=> ?_
 .obtain⟨x,dx,vs',A,ds,Q0,Ex,rfl,_,_,_,_,_,r,h,_⟩:=h;have:=len ds Q0 Ex h;rw[dP,<-r.length];exact this
 .obtain⟨x,dx,vs',A',ds,Q0,Ex,rfl,hx,hdx,nx,nd,hA,r,h,q,qx⟩:=h;have hA2: ∀a,(A' a\/a=x)->H a≠none:=λa z=>by
   rcases z with z|rfl
   .exact hA a z
   .rw[hx];simp
  have r2:cB K (λb=>A' b\/b=x) H (.adr x::ds) (.ref x::vs'):= .cons (by simp only[Rep]) r
  refine⟨_,der cdv A outer s H E hr,⟨H,λb=>A' b\/b=x⟩,init N (.adr x::ds),_,Ex,bZ1 hA2 r2,rd x ds Q0 Ex h,⟨λρ σ H' z I=> ?_,λ_ _ _ z=>z.elim,λ_ _ _ z=>z.elim,λ_ _ _ z=>z.elim⟩,λn Cl' es o H' ex hm sm xr=>qx n Cl' es o H' ex hm (λb o _ e=>sm b o e) (xr.mono<|.sub (.refl _) λa z=> .inl z)⟩
  obtain⟨z0,z⟩:=z;have hx':H' x=some (.ins Cl dx []):=I.ext x _ hx;refine bG0 (C:=⟨H,λb=>A' b\/b=x⟩) I (.inr rfl) hx' z0 ok.1 (ok.2 f1 ae) ac z ?_
  rintro b1 ρ1 w1 H1 z1 z0 k1 x1 ⟨C1,a1,I1⟩ r1 m1;refine bG0 (C:=C1) I1 (by rw[a1];exact .inr rfl) x1 z0 ok.1 (ok.2 f2 ae) (show 1<1000 by decide) z1 ?_
  rintro b2 ρ2 w2 H2 z2 z0 k2 x2 ⟨C2,a2,I2⟩ r2 m2;refine bG0 (C:=C2) I2 (by rw[a2,a1];exact .inr rfl) x2 z0 ok.1 (ok.2 f3 ae) (by simp[wV,n1]) z2 ?_
  rintro b3 ρ3 w3 H3 z3 z0 k3 x3 ⟨C3,a3,I3⟩ r3 m3;rw[a1]at m2 r2;rw[a2,a1]at m3 r3;refine q [b1.d,b2.d,b3.d] [w1,w2,w3] H3 z3 (λb o ne e=>k3 b o ne (k2 b o ne<|k1 b o ne<|I.ext b o e)) ?_ rfl (.cons (m3 _ _<|m2 _ _ r1)<|.cons (m3 _ _ r2)<|.cons r3 .nil)
  rw[x3];simp[wV,n1,n2,n3]
def c13 (s:Stmt):List Stmt:=match s with
 | .ClassDef _ _ _ b _ _ _ _ _ _ _=>b
 | _=>[]
section
variable {P:Program}{w:World}{K:Frag}{mg:Str->Option Value}{base:Heap}
theorem cS2 {an:Option Addr}{osl:Array (Option Value)}{kV doc pm cdv ct:Value}{nm:Str}{x0 x1 x2:Str}{p1 p3 p4 p5 p6 p7 p8:Pos}
  (l:K.lookup fI=some ⟨.type "function",od,.func<|fnOf nm qual (kJ st) (eZ st) (aJ st) .none kV doc pm an cdv ct,osl⟩) (c:codeIn K cdv qual=true) (k:keepIn K (.ref fI)=true)
  (hb:eZ st=[.Assign [.Attribute (.Name x0 p1) f1 p2] (.Name x1 p3) p4,.Assign [.Attribute (.Name x0 p5) f2 p6] (.Name x2 p7) p8]) (S:bC [x0,x1,x2] [x0,x1,x2] (aJ st))
  (l0:(aJ st).names.lookup x0=some .local) (l1:(aJ st).names.lookup x1=some .local) (l2:(aJ st).names.lookup x2=some .local) (d0:x0∪0) (d1:x1∪0) (d2:x2∪0)
  (bd: ∀(kV doc pm:Value) (an:Option Addr) (cdv ct:Value) (us:List Value),us.length=[x0,x1,x2].length->bindArgs (fnOf nm qual (kJ st) (eZ st) (aJ st) .none kV doc pm an cdv ct) ⟨us,[]⟩=pure ([x0,x1,x2].zip us))
  {cd:ClassData} (hc:clsIn K C=some cd) (hm:vZ cd.mro=true) (hd:cd.hasDict=true) (sa:findIn K (.ref C) "__setattr__"=some (some<|.builtin "object.__setattr__")) (n1:findIn K (.ref C) f1=some none) (n2:findIn K (.ref C) f2=some none) :
  c98 K C fI (fnOf nm qual (kJ st) (eZ st) (aJ st) .none kV doc pm an cdv ct) f1 f2:=
 ⟨⟨_,od,nm,qual,kJ st,aJ st,kV,doc,pm,an,cdv,ct,osl,x0,x1,x2,p1,p2,p3,p4,p5,p6,p7,p8,by rw[hb],l,rfl,c,S,l0,l1,l2,d0,d1,d2,(bD2 (st:=st) l c k).binds bd⟩,⟨cd,hc,hm,hd⟩,sa,n1,n2⟩
theorem aI6 {cd:ClassData}(h:excIn K C bmB newId=true\/ ∃fI,aB6 K C fI bmB newId=true)(hc:clsIn K C=some cd)(hm:cd.mro.contains (.ref R)=true):b33 K R C bmB newId:=⟨h,cd,hc,hm⟩
theorem Fn.mkA {ps:List Str}(F:Fun K y qual st f fd)(m:mg x=some (.ref f))(b:Binds K fd ps [])(S:bC N ps (aJ st))
  (len: ∀ds Q,φ ds Q->ds.length=ps.length) {t:US}
  (der: ∀(cdv:Value) (A:Around) (outer:List Env) (s:Shared) (H:Hp) (E:XK),iX k (A.deeper<|envOfC qual (aJ st) s.heap.objs.size f cdv)->tL (vT CX0 P w K mg base N qual (aJ st) f cdv A outer s H E).nox (eZ st) t)
  (rd: ∀ds Q,φ ds Q->t {Q with} (init N ds)):Fn<$>x ps (k+1) φ:=
 ⟨f,fd,bZ2 F S len λcdv A outer s H E hr=>⟨t,der cdv A outer s H E hr,rd⟩,b,F.kp,m⟩
end
end M
end
end
open L2
section
open PySem L2 M
local macro_rules| `(tactic| left)=> `(tactic| simp only[uSlT,gSlT,cQ8,cR0,gAny,bO6,D.isN,c86,bS9,d63,b30,cK8,bF8,aW7,bF7,aW,cE,eJ,vV,fU,dF,uOp,uC,aB,aL0,aQ,bD4,uV,uIx,gIx,kE,oE,aU,a6,aI,dY,bL,aR7,qC,kD,fH,M.gSub,iR,bO3,kX,dN3,gI2,sA,hG,isB,B.d,c75,uOr,bY5,uOrV,dM,dG,c77,uSl,jB,fV,gSl,cX9,gMax,gMin,cJ4,iV,aI1,g1,g2,dN4,cQ0,uIf,cY1,gSum,aV8,bD7,pP,eH,pO,pQ,aV4,cQ7,d88,d87,fS,dN8,qW,wW,dN9,bind_some,Option.bind_none,map_some,Option.map_none,Option.join,uU,List.getElem?_cons_succ,bC7,bC8,dP,List.length_nil,cR,j9,mU,v8,a04,iQ,gW,reduceCtorEq])
namespace M
local macro_rules|`(!$t)=>`(some (B.pu (D.int $t)))|`(~~~$t)=>`(some (B.pu $t))|`(↑$t)=>`(some (B.ow $t))|`(∅)=>`(Nat->Int)
abbrev Ra (a:Φ)(t:US)(N:List Str):Prop:=∀ds Q,a ds Q->t {Q with} (init N ds)
variable {j x k b v a e u c w s q m a' b' c' y g0:Int}{i last t0 n U:Nat}{ui:UI}{g:UG}{tb:US}{ρ:Ev}{ws ns p gs:List Int}{xs:List ((Nat×∅)×Nat)}{l:List D}{js:List Nat}{cap:List (Option Nat)}{te:UE}{Q:B->Ev->Prop}{t:List (List Int)}{f:∅}{F:Nat×∅}{P:Int->Prop}{E:UD}{Q':Nat->(Nat->D)->Ev->Prop}
def aB8:Φ:=λds Q=> ∃c k p:Int,ds=[.int c,.int k,.int p]/\0<=k/\k<4294967296/\0<p/\ ∀r:Int,0<=r->r<p->Q (.pu<|.int r)
def bG1:US:=(aW (cE 3<|uOp kX (uOp iR (uOp fH (uOp fH (uOp fH (aB 0)<|uOp iR (uOp iR @7<|aB 1)<|aB 1)<|uOp iR @13<|aB 1)<|@5)<|@48271)<|@2147483647)<|aW (cE 3<|uOp kX (uOp iR (aB 3)<|aB 3)<|@2147483629)<|eJ<|uOp kX (uOp iR (aB 3)<|@39373)<|aB 2)
theorem dZ (i:Int)(h:0<j):i.fmod j=i%j:=Int.fmod_eq_emod_of_nonneg i (Int.le_of_lt h)
theorem zM (i:Int)(h:0<j):i.fdiv j=i/j:=Int.fdiv_eq_ediv_of_nonneg i (Int.le_of_lt h)
theorem cmR {i:Int}(h1: -18446744073709551616<j)(h2:j<18446744073709551616):cH8 i j\/(Sm i/\Sm j):= .inl (.inr ⟨h1,h2⟩)
theorem cmL {i:Int}(h1: -18446744073709551616<i)(h2:i<18446744073709551616):cH8 i j\/(Sm i/\Sm j):= .inl (.inl ⟨h1,h2⟩)
theorem dB6: Ra aB8 bG1 ["c","k","p","f"]:=by
 rintro ds Q ⟨c,k,p,rfl,h0,h1,hp,h⟩;unfold bG1;show(aW _ _:US) _ [!c,!k,!p,none];left;rw[dZ _ (by decide:(0:Int)<2147483647),dZ _ (by decide:(0:Int)<2147483629),dZ _ hp]
 refine⟨cmL ac ac,cmR aa aa,cmL ac ac,cmR ac ac,ac,cmR aa aa,ac,cmR ac ac,aa,?_⟩
 exact h _ (dS _ aa) (dO _ hp)
theorem fE {D:UD}(n:Nat)(it:Nat->M.D)(ρ1:Ev)(hui: ∀Q:Nat->(Nat->M.D)->Ev->Prop,Q n it ρ1->ui ρ Q)(Pv:Nat->Ev->Prop)(h0:Pv 0 ρ1)
  (hs: ∀i ρ,i<n->Pv i ρ->g (.pu<|it i) ρ λρ2=>tb {D with nx:=Pv (i+1),ct:=Pv (i+1),bk:=D.nx} ρ2) (hd: ∀ρ,Pv n ρ->D.nx ρ):mK ui g tb D ρ:=hui _ ⟨Pv,h0,hs,hd⟩
theorem cS3 (h:i<ws.length):atI (ws.map D.int) (0+(i:Int))=some (.int ws[i]):=by
 rw[eE];exact dL (by rw[bX,aO h];rfl)
def Below (xs ws:List Int):Prop:=xs.length=ws.length/\ ∀(j:Nat) (x w:Int),xs[j]? =some x->ws[j]? =some w->0<=x/\x<w
theorem cpl {i:Int}(h1:0<=j)(h2:j<=1000000)(h3:i.natAbs<2^64):dL4 i j:=⟨h1,h2,h3⟩
def qF:Φ:=λds Q=> ∃(c:Int) (ws:List Int) (p:Int),ds=[.int c,.lst<|ws.map .int,.int p]/\ws.length<=1000/\0<p/\(∀w∈ws,0<w/\w<18446744073709551616)/\ ∀xs:List Int,Below xs ws->Q (.ow<|xs.map .int)
def bG2:US:=(aW (cE 3<|@0)<|aW (fU (dF<|uOp (sA λi j=>decide (j<=i)) (aB 0)<|uOp dN3 @10<|@18) (cE 3<|uOp M.gSub (aB 0)<|uOp dN3 @10<|@18) dG)<|aW (cE 4<|dY aI)<|aW (mK (pQ<|a6 (kE<|aQ 1) aI) (dM 5)<|fU (dF<|uOp (sA λi j=>decide (j<i)) (aB 3)<|@1) (aW (aR7 4<|uOp kX (aB 3)<|uIx (aQ 1)<|aB 5)<|cE 3<|uOp bO3 (aB 3)<|uIx (aQ 1)<|aB 5)<|aR7 4<|uOp kX (aU aB8<|a6 (aB 0)<|a6 (aB 5)<|a6 (aB 2) aI)<|uIx (aQ 1)<|aB 5)<|vV 4)
theorem cA2 {i:Int}(h1: -18446744073709551616<i)(h2:i<18446744073709551616):Sm i:=by
 unfold Sm;have h3:i.natAbs<18446744073709551616:=aa
 exact bI h3 af
theorem bG3 {xs:List Int}(h: ∀(j:Nat) (x w:Int),xs[j]? =some x->ws[j]? =some w->0<=x/\x<w)(hl:xs.length<ws.length)(h0:0<=x)(h1:x<ws[xs.length]) :
  ∀(j:Nat) (y w:Int),(xs++[x])[j]? =some y->ws[j]? =some w->0<=y/\y<w:=by
 intro j y w e1 e2
 by_cases hj:j<xs.length
 .rw[a03 hj]at e1;exact h j y w e1 e2
 .rw[uQ ad]at e1
  by_cases hj':j=xs.length
  .subst hj';simp at e1;subst e1;rw[aO hl]at e2;cases e2;exact⟨h0,h1⟩
  .have:j-xs.length≠0:=ad
   cases e:j-xs.length with
   | zero=>lia
   | succ n=>rw[e]at e1;simp at e1
theorem dB7: Ra qF bG2 ["c","w","p","l","f","k"]:=by
 rintro ds Q ⟨c,ws,p,rfl,hlen,hp,hw,h⟩;unfold bG2;have tail: ∀left:Int,(aW (cE 4<|dY aI) (aW (mK (pQ<|a6 (kE<|aQ 1) aI) (dM 5)<|fU (dF<|uOp (sA λi j=>decide (j<i)) (aB 3)<|@1) (aW (aR7 4<|uOp kX (aB 3)<|uIx (aQ 1)<|aB 5)<|cE 3<|uOp bO3 (aB 3)<|uIx (aQ 1)<|aB 5)<|aR7 4<|uOp kX (aU aB8<|a6 (aB 0)<|a6 (aB 5)<|a6 (aB 2) aI)<|uIx (aQ 1)<|aB 5)<|vV 4):US)
   {Q with} [!c,~~~.lst (ws.map .int),!p,!left,none,none]:=by
  intro left;rw[aW];left;refine⟨ac,?_⟩
  refine fE ws.length (λi=> .int (0+i)) [!c,~~~.lst (ws.map .int),!p,!left,↑[],none] ?_
   (λi ρ=> ∃(l:Int) (xs:List Int) (kk:Option B),ρ=[!c,~~~.lst (ws.map .int),!p,!l,↑(xs.map .int),kk]/\xs.length=i/\ ∀(j:Nat) (x w:Int),xs[j]? =some x->ws[j]? =some w->0<=x/\x<w)
   ⟨left,[],none,rfl,rfl,λj x w e=>by simp at e⟩ ?_ ?_
  .intro Q q;simp only[pQ];left;rw[aF];refine⟨⟨ad,ad⟩,?_⟩
   rw[jU];exact q
  .rintro i ρ hi ⟨l,xs,kk,rfl,hl,hb⟩;subst hl;obtain⟨w0,w1⟩:=hw _ (bY hi);left;refine⟨ac,?_⟩
   by_cases hc:1<l
   .rw[a8 hc];simp only[cS3 hi];rw[dZ _ w0,zM _ w0];refine⟨ad,?_,⟨ad,cA2 ad w1⟩,_,xs++[l%ws[xs.length]],_,by rw[bT];rfl,ae,bG3 hb hi (dS _ ad)<|dO _ w0⟩
    rw[aF];exact bI hi (aN hlen ac)
   .rw[a7 hc];refine⟨c,(0+(xs.length:Int)),p,rfl,ad,ad,hp,λr r0 r1=> ?_⟩
    simp only[cS3 hi];rw[dZ _ w0];refine⟨ad,?_,l,xs++[r%ws[xs.length]],_,by rw[bT];rfl,ae,bG3 hb hi (dS _ ad)<|dO _ w0⟩
    rw[aF];exact bI hi (aN hlen ac)
  .rintro ρ ⟨l,xs,kk,rfl,hl,hb⟩;left;exact h xs ⟨hl,hb⟩
 show(aW _ _:US) _ [!c,~~~.lst (ws.map .int),!p,none,none,none]
 refine(show dL4 10 18/\(if decide ((10:Int)^(18:Int).toNat<=c)=true then _ else _)from⟨cpl ac ac ac,?_⟩)
 split
 .exact⟨cpl ac ac ac,tail _⟩
 .exact tail _
theorem aW9 {d:D}:atI (d::l) 0=some d:=dL (j:=0) rfl
theorem cA3 (k:Nat)(z:Int):(replicate k [D.int z]).flatten=(replicate k z).map .int:=by
 induction k with
 | zero=>rfl
 | succ k ih=>rw[lD,oV,ih,lD];rfl
def a50:Φ:=λds Q=> ∃(ns:List Int) (k:Int),ds=[.rol<|ns.map .int,.int k]/\ns.length<=63/\0<=k/\k<4294967296/\ ∀r:Int,Q (.pu<|.int r)
def c14:US:=(aW (fU (dF<|uOp (hG false) (kE<|aQ 0)<|@0) (eJ<|uOp iR @7919<|uOp fH (aB 1)<|@1) dG)<|aW (fU (dF<|uOp (sA λi j=>decide (i<j)) (aB 1)<|kE<|aQ 0) (eJ<|uIx (aQ 0)<|aB 1) dG)<|eJ<|uOp fH (uIx (aQ 0)<|uOp kX (aB 1)<|kE<|aQ 0)<|uOp iR @104729<|aB 1)
theorem dB8 (h0:0<=k)(h1:k<ns.length): ∃z,atI (ns.map D.int) k=some (.int z):=by
 obtain⟨i,rfl⟩: ∃i:Nat,k=(i:Int):=⟨k.toNat,ad⟩
 have hi:i<ns.length:=ad
 exact⟨ns[i],dL (by rw[bX,aO hi];rfl)⟩
theorem dQ4: Ra a50 c14 ["s","k"]:=by
 rintro ds Q ⟨ns,k,rfl,hl,k0,k1,h⟩;unfold c14;show(aW _ _:US) _ [~~~.rol (ns.map .int),!k];left;rw[aF];split
 .exact⟨cmL ac ac,h _⟩
 .split
  .obtain⟨z,hz⟩:=dB8 (ns:=ns) k0 ad
   rw[hz];exact h z
  .refine⟨ad,?_⟩
   rw[dZ _ ad]
   obtain⟨z,hz⟩:=dB8 (ns:=ns) (k:=k%ns.length) (dS _ ad) (dO _ ad)
   rw[hz];exact⟨cmL ac ac,h _⟩
theorem c15:bootBuiltins "abs"=some (.builtin "abs"):=af
theorem bt_max:bootBuiltins "max"=some (.builtin "max"):=af
theorem bt_min:bootBuiltins "min"=some (.builtin "min"):=af
theorem bt_int:bootBuiltins "int"=some (.type "int"):=af
theorem oH:bootBuiltins "tuple"=some (.type "tuple"):=af
theorem bC0:bootBuiltins "list"=some (.type "list"):=af
theorem dQ5: ∀ds Q,bT1 ds Q->ds.length=1:=by rintro ds Q ⟨i,rfl,_⟩;rfl
theorem kK (t:UE)(D:UD)(ρ:Ev):eJ t D ρ=t ρ (λb _=>D.rt b):=rfl
theorem eB (φ:Φ)(t:UA)(ρ:Ev)(Q:B->Ev->Prop):aU φ t ρ Q=t ρ λds ρ1=>φ ds λb=>Q b ρ1:=rfl
theorem bS (t:UE)(u:UA)(ρ:Ev)(Q:List D->Ev->Prop):a6 t u ρ Q=t ρ λx ρ1=>u ρ1 λxs ρ2=>Q (x.d::xs) ρ2:=rfl
theorem aP (t u:US)(D:UD)(ρ:Ev):aW t u D ρ=t {D with nx:=u D} ρ:=rfl
theorem gK (i:Nat)(t:UE)(D:UD)(ρ:Ev):cE i t D ρ=t ρ λb ρ1=>D.nx (ρ1.set i<|some b):=rfl
theorem jJ (n:Nat)(it:Nat->D)(ρ1:Ev)(hui: ∀Q:Nat->(Nat->D)->Ev->Prop,Q n it ρ1->ui ρ Q)(hn:n<=1000000)
  (G:Option B->List D->Ev) (x0:Option B) (h0:qW (wW ρ1 js) cap last=G x0 []) (h1: ∀x l b,(G x l).set t0 (some b)=G (some b) l) (h1': ∀x l,t0< (G x l).length) (h2: ∀x l (Q:List D->Prop),Q l->qC (G x l) last Q) (h3: ∀x l l',(G x l).set last (↑l')=G x l')
  (f:Nat->D) (hte: ∀i l (Q':B->Ev->Prop),i<n->Q' (.pu<|f i) (G (~~~it i) l)->te (G (~~~it i) l) Q') (hq:Q (.ow<|(List.range n).map f) (wW ρ1 js)) :
  gD js cap last ui (dM t0) (λρ Q=>Q true ρ) te ρ Q:=by
 refine hui _ ⟨λi ρ'=> ∃x,ρ'=G x ((List.range i).map f),⟨x0,h0⟩,?_,?_⟩
 .rintro i ρ' hi ⟨x,rfl⟩;refine⟨h1' _ _,?_⟩;rw[h1];right;rw[a8 rfl];refine hte i _ _ hi (h2 _ _ _ ⟨?_,~~~it i,?_⟩)
  .rw[aF,a15];exact bI hi (aN hn ac)
  .rw[h3,gI,bT];rfl
 .rintro ρ' ⟨x,rfl⟩;exact h2 _ _ _ hq
nonrec def aX (r:List Int):D:= .tup (r.map .int)
nonrec def d01 (t:List (List Int)):D:= .tup (t.map aX)
theorem aS5 (l:List D)(i:Nat)(h:i<=l.length):cutD l none (some (i:Int))=l.take i:=by
 unfold cutD;rw[HT.sIx_none,HT.sIx_nat,vC h];simp
theorem zN (l:List D)(i:Nat)(h:i<=l.length):cutD l (some (i:Int)) none=l.drop i:=by
 unfold cutD;rw[HT.sIx_none,HT.sIx_nat,vC h];rw[aO3 (by rw[a17];exact aG _)]
def a51:Φ:=λds Q=> ∃(t:List (List Int)) (i:Nat),ds=[d01 t,.int (i:Int)]/\i<t.length/\2<=t.length/\t.length<=1000/\(∀r∈t,1<=r.length)/\Q (.pu<|d01<|(t.eraseIdx i).map List.tail)
def a52:US:=(eJ<|aU iV<|a6 (gD [] [none,none] 1 (fS<|uOp fH (uSl (aQ 0) fV<|jB<|aB 1)<|uSl (aQ 0) (jB<|uOp fH (aB 1)<|@1) fV) (dM 0) (λρ Q=>Q true ρ)<|uSl (aQ 0) (jB<|@1) fV) aI)
theorem dB9 (hi:i<t.length):cutD (t.map aX) none (some (i:Int))++cutD (t.map aX) (some<|(i:Int)+1) none=(t.eraseIdx i).map aX:=by
 have hl:(t.map aX).length=t.length:=aF _;have e1:cutD (t.map aX) none (some (i:Int))=(t.take i).map aX:=by rw[aS5 _ _ ad,jZ]
 have e2:cutD (t.map aX) (some<|(i:Int)+1) none=(t.drop<|i+1).map aX:=by
  have:=zN (t.map aX) (i+1) ad
  rw[a29]
  exact_mod_cast this
 rw[e1,e2,<-bT,<-List.eraseIdx_eq_take_drop_succ]
theorem cL9 (hi:i<t.length)(h1000:t.length<=1000)(hr: ∀r∈t,1<=r.length)(hui: ∀Q':Nat->(Nat->D)->Ev->Prop,Q' ((t.eraseIdx i).map aX).length (λk=>((t.eraseIdx i).map aX).getD k .non) ρ->ui ρ Q')(h:Q (.ow<|((t.eraseIdx i).map List.tail).map aX) ρ) :
  gD [] [none,none] 1 ui (dM 0) (λρ Q=>Q true ρ) (uSl (aQ 0) (jB<|@1) fV) ρ Q:=by
 have le:(t.eraseIdx i).length=t.length-1:=aN0 hi;refine jJ (t0:=0) ((t.eraseIdx i).map aX).length (λk=>((t.eraseIdx i).map aX).getD k .non) ρ hui (by rw[aF];lia)
  (λx l=>[x,↑l]) none rfl (λ_ _ _=>rfl) (λ_ _=>dR _) (λ_ _ _ q=>q) (λ_ _ _=>rfl) (λk=>aX (((t.eraseIdx i).getD k []).tail)) ?_ ?_
 .intro k l Q' hk q;rw[aF]at hk;have ek:((t.eraseIdx i).map aX).getD k .non=aX ((t.eraseIdx i).getD k []):=by
   rw[aL,aL,bX,aO hk];rfl
  have hm:1<=((t.eraseIdx i).getD k []).length:=by
   rw[aL,aO hk];exact hr _ (aN5<|bY hk)
  rw[ek]at q⊢;generalize (t.eraseIdx i).getD k []=r at hm q;simp only[aX]at q⊢;left;have lr:(r.map D.int).length=r.length:=aF _;have ec:cutD (r.map D.int) (some 1) none=r.tail.map D.int:=by
   have:=zN (r.map D.int) 1 ad
   rw[show((1:Nat):Int)=1 from rfl]at this
   rw[this,<-a29,List.drop_one]
  refine⟨?_,by rw[ec];exact q⟩
  rw[lr];have:HT.sIx r.length 0 (some 1)=min 1 r.length:=HT.sIx_nat r.length 0 1;rw[this];lia
 .have em:(List.range ((t.eraseIdx i).map aX).length).map (λk=>aX (((t.eraseIdx i).getD k []).tail))=((t.eraseIdx i).map List.tail).map aX:=by
   rw[aF];apply oZ
   .simp
   .intro k h1 h2;simp at h1;simp[h1,aL]
  rw[em];exact h
theorem c16: Ra a51 a52 ["t","i"]:=by
 rintro ds Q ⟨t,i,rfl,hi,h2,h1000,hr,h⟩;unfold a52;show(eJ _:US) _ [~~~d01 t,!(i:Int)];have hl:(t.map aX).length=t.length:=aF _;rw[kK,eB,bS];refine cL9 hi h1000 hr (λQ' q=> ?_) ?_
 .simp only[fS,d01];left;rw[<-cI,dB9 hi];refine⟨?_,?_,aN (show _<=2000 by rw[aF,aN0 hi];lia) ac,q⟩
  .rw[hl,HT.sIx_none,HT.sIx_nat];lia
  .rw[hl,HT.sIx_none];have:HT.sIx t.length 0 (some<|(i:Int)+1)=min (i+1) t.length:=by exact_mod_cast HT.sIx_nat t.length 0 (i+1)
   rw[this];lia
 .left
  exact h
nonrec def fW:Nat->List (List Int)->Int
 | 0,_=>0
 | n+1,t=>if t.length=1 then(t.getD 0 []).getD 0 0 else((List.range t.length).map λi=>(if i%2=0 then 1 else -1)*(t.getD i []).getD 0 0*fW n ((t.eraseIdx i).map List.tail)).sum
structure Sq (n:Nat)(t:List (List Int)):Prop where
 pos:1<=t.length
 le:t.length<=n
 row: ∀r∈t,r.length=t.length
 small: ∀r∈t,∀x∈r,x.natAbs<2^2000
def iC (n:Nat):Φ:=λds Q=> ∃t:List (List Int),ds=[d01 t]/\Sq n t/\Q (.pu<|.int<|fW n t)
def bG4 (iC:Φ):US:=(aW (fU (dF<|uOp (hG false) (kE<|aQ 0)<|@1) (eJ<|uIx (uV<|uIx (aQ 0)<|@0)<|@0) dG)<|aW (cE 1<|@0)<|aW (cE 2<|@1)<|aW (mK (pQ<|a6 (kE<|aQ 0) aI) (dM 3)<|aW (c77 1 (gI2 λi j Q=>Q (.pu<|.int<|i+j))<|uOp iR (uOp iR (aB 2)<|uIx (uV<|uIx (aQ 0)<|aB 3)<|@0)<|aU iC<|a6 (aU a51<|a6 (aB 0)<|a6 (aB 3) aI) aI)<|cE 2<|kD<|aB 2)<|vV 1)
theorem aI7 (n:Nat): ∀ds Q,iC n ds Q->ds.length=1:=by rintro ds Q ⟨a,rfl,_⟩;rfl
theorem Sq.less (h:Sq (n+1) t)(h2:t.length≠1)(hi:i<t.length):Sq n ((t.eraseIdx i).map List.tail):=by
 have le:(t.eraseIdx i).length=t.length-1:=aN0 hi;have hp:=h.pos;have hl:=h.le;refine⟨by rw[aF];lia,by rw[aF];lia,λr hr=> ?_,λr hr x hx=> ?_⟩
 .obtain⟨r',hr',rfl⟩:=cD.mp hr;rw[aF,List.length_tail,h.row r'<|aN5 hr',le]
 .obtain⟨r',hr',rfl⟩:=cD.mp hr;exact h.small r' (aN5 hr') x (List.mem_of_mem_tail hx)
theorem b34 (f:∅)(b:Nat): ∀n:Nat,(∀i,i<n->(f i).natAbs<=b)->(((List.range n).map f).sum).natAbs<=n*b
 | 0,_=>ae
 | n+1,h=>by
  rw[gI,bT,aR4];have h1:=b34 f b n λi hi=>h i (iK hi)
  have h2:=h n (rO n);have h3:((List.map f [n]).sum)=f n:=ae
  rw[h3,Nat.succ_mul];omega
theorem bU9: ∀(n:Nat) (t:List (List Int)),n<=4->Sq n t->(fW n t).natAbs<=2^(2010*n)
 | 0,t,_,h=>by have:=h.pos;have:=h.le;lia
 | n+1,t,hn,h=>by
  have entry: ∀i,i<t.length->((t.getD i []).getD 0 0).natAbs<=2^2000:=λi hi=>by
   have eg:t.getD i []=t[i]:=by rw[aL,aO hi];rfl
   rw[eg];have hr:=h.row _ (bY hi);have hp:=h.pos;have h0:0< (t[i]).length:=ad
   rw[aL,aO h0];exact rV (h.small _ (bY hi) _<|bY h0)
  unfold fW;split
  .have:=entry 0 (by have:=h.pos;lia)
   exact aN this (aP4 ac ad)
  .rename_i h1
   refine aN (b34 _ (2^2000*2^(2010*n)) _ λi hi=> ?_) ?_
   .rw[eC,eC];have e1:(if i%2=0 then(1:Int)else -1).natAbs=1:=by split<;>rfl
    rw[e1,Nat.one_mul];exact eV (entry i hi) (bU9 n _ ad<|h.less h1 hi)
   .have hl:=h.le;have e:2^(2010*(n+1))=2^10*(2^2000*2^(2010*n)):=by
     rw[<-pE,<-pE];congr 1;lia
    rw[e];exact uY _ ad
theorem Sm.pow {i:Int}{k:Nat}(h:i.natAbs<=2^k)(hk:k<9000):Sm i:=lF h (Nat.pow_lt_pow_right ac hk)
theorem cS4 (h:i<t.length):atI (t.map aX) (0+(i:Int))=some (aX<|t.getD i []):=by
 rw[eE];refine dL ?_;rw[bX,aO h,aL,aO h];rfl
theorem bG5 {r:List Int}(h:0<r.length):atI (r.map D.int) 0=some (.int<|r.getD 0 0):=by
 refine dL (j:=0) ?_
 rw[bX,aO h,aL,aO h];rfl
theorem aX0 (n:Nat)(hn:n<4): ∀ds Q,iC (n+1) ds Q->bG4 (iC n) {Q with} (init ["t","o","s","i"] ds):=by
 rintro ds Q ⟨t,rfl,sq,h⟩;have hp:=sq.pos;have hle:=sq.le;have lt:(t.map aX).length=t.length:=aF _;have lrow: ∀i,i<t.length->0< (t.getD i []).length:=λi hi=>by
  rw[aL,aO hi];have:=sq.row _ (bY hi);show 0< (t[i]).length
  lia
 unfold bG4;show(aW _ _:US) _ [~~~.tup (t.map aX),none,none,none];left;rw[lt];split
 .rename_i h1
  have h1':t.length=1:=ad
  have:=cS4 (t:=t) (i:=0) ad
  rw[show(0:Int)+((0:Nat):Int)=0 from rfl]at this
  rw[this];simp only[aX];rw[bG5<|lrow 0 ad]
  unfold fW at h;rw[a8 h1']at h;exact h
 .rename_i h1
  have h1':t.length≠1:=ad
  unfold fW at h;rw[a7 h1']at h;refine fE t.length (λi=> .int (0+i)) [~~~.tup (t.map aX),!0,!1,none] ?_ (λi ρ=> ∃x,ρ=[~~~.tup (t.map aX),some<|.pu<|.int ((List.range i).map λi=>(if i%2=0 then 1 else -1)*(t.getD i []).getD 0 0*fW n ((t.eraseIdx i).map List.tail)).sum,!if i%2=0 then 1 else -1,x]) ?_ ?_ ?_
  .intro Q' q;simp only[pQ];left;rw[lt];refine⟨⟨ad,ad⟩,?_⟩
   rw[jU];exact q
  .exact⟨none,rfl⟩
  .rintro i ρ hi ⟨x,rfl⟩;left;refine⟨ac,?_⟩
   rw[cS4 hi];simp only[aX];rw[bG5<|lrow i hi];have sg:Sm (if i%2=0 then(1:Int)else -1):=by split<;>exact cA2 ac ac
   have eg:t.getD i []=t[i]:=by rw[aL,aO hi];rfl
   have en:((t.getD i []).getD 0 0).natAbs<=2^2000:=by
    have h0:=lrow i hi;rw[eg]at h0⊢;rw[aL,aO h0];exact rV (sq.small _ (bY hi) _<|bY h0)
   have se:Sm ((t.getD i []).getD 0 0):=Sm.pow en ac
   refine⟨.inr ⟨sg,se⟩,t,i,by rw[eE];rfl,hi,ad,ad,λr hr=>by rw[sq.row r hr];exact hp,?_⟩
   refine⟨_,rfl,sq.less h1' hi,?_⟩
   have sd:Sm (fW n<|(t.eraseIdx i).map List.tail):=Sm.pow (bU9 n _ ad<|sq.less h1' hi) ad
   have sp:Sm ((if i%2=0 then(1:Int)else -1)*(t.getD i []).getD 0 0):=by
    refine Sm.pow (k:=2000) ?_ ac
    rw[eC];have e1:(if i%2=0 then(1:Int)else -1).natAbs=1:=by split<;>rfl
    rw[e1,Nat.one_mul];exact en
   left
   refine⟨.inr ⟨sp,sd⟩,!(0+(i:Int)),?_⟩
   have e2: -(if i%2=0 then(1:Int)else -1)=(if(i+1)%2=0 then 1 else -1):=by
    by_cases q:i%2=0
    .rw[a8 q,a7 ad]
    .rw[a7 q,a8 ad];rfl
   rw[e2,gI,bT,aR4];simp
  .rintro ρ ⟨x,rfl⟩;left;exact h
nonrec def n6 (p:List Int)(k:Nat)(sums:List Int):Int:=
 -(((List.range<|min (k-1)<|p.length-1).map λi=>p.getD (p.length-1-(i+1)) 0*sums.getD (k-(i+1)) 0).sum+(if k<=p.length-1 then(k:Int)*p.getD (p.length-1-k) 0 else 0))
nonrec def fO (p:List Int):Nat->List Int
 | 0=>[((p.length-1:Nat):Int)]
 | k+1=>fO p k++[n6 p (k+1)<|fO p k]
theorem w6 (p:List Int): ∀k,(fO p k).length=k+1
 | 0=>rfl
 | k+1=>by unfold fO;rw[cI,w6 p k];rfl
structure bC1 (p:List Int):Prop where
 lo:3<=p.length
 hi:p.length<=5
 small: ∀x∈p,x.natAbs<=499
theorem iS {l:List Int}{b:Nat}(h: ∀x∈l,x.natAbs<=b)(i:Nat):(l.getD i 0).natAbs<=b:=by
 rw[aL];cases e:l[i]? with
 | none=>exact dI _
 | some x=>exact h x (aP1 e)
theorem a53 {p:List Int}(hp:bC1 p): ∀k,k<=6-> ∀x∈fO p k,x.natAbs<=2^(15*k+3)
 | 0,_,x,hx=>by
  have:=hp.hi;have e:x=((p.length-1:Nat):Int):=by simpa[fO]using hx
  rw[e,Int.natAbs_natCast];have:(2:Nat)^(15*0+3)=8:=rfl;omega
 | k+1,hk,x,hx=>by
  have ih:=a53 hp k aa
  have ep:(2:Nat)^(15*(k+1)+3)=32768*2^(15*k+3):=by
   rw[show 15*(k+1)+3=15+(15*k+3)by omega,pE]
  have hb:8<=2^(15*k+3):=by
   rw[pE];have:1<=2^(15*k):=Nat.one_le_two_pow;omega
  unfold fO at hx;rcases bG.mp hx with hx|hx
  .have:=ih x hx;omega
  .have e:x=n6 p (k+1) (fO p k):=by exists hx
   rw[e];unfold n6;rw[rS];have hl:=hp.hi;have s1:=b34 (λi=>p.getD (p.length-1-(i+1)) 0*(fO p k).getD (k+1-(i+1)) 0) (499*2^(15*k+3)) (min (k+1-1)<|p.length-1) λi _=>by
    rw[eC];exact eV (iS hp.small _) (iS ih _)
   have s2:(if k+1<=p.length-1 then((k+1:Nat):Int)*p.getD (p.length-1-(k+1)) 0 else 0).natAbs<=4*499:=by
    split
    .rw[eC,Int.natAbs_natCast];exact eV aa (iS hp.small _)
    .exact dI _
   have s3:min (k+1-1) (p.length-1)*(499*2^(15*k+3))<=4*(499*2^(15*k+3)):=uY _ aa
   have s4:=a16 (((List.range<|min (k+1-1)<|p.length-1).map λi=>p.getD (p.length-1-(i+1)) 0*(fO p k).getD (k+1-(i+1)) 0).sum) (if k+1<=p.length-1 then((k+1:Nat):Int)*p.getD (p.length-1-(k+1)) 0 else 0)
   omega
def w8:Φ:=λds Q=> ∃(p:List Int) (m:Nat),ds=[aX p,.int (m:Int)]/\bC1 p/\1<=m/\m<=7/\Q (.ow<|(fO p<|m-1).map .int)
def wA:US:=(aW (cE 2<|uOp M.gSub (kE<|aQ 0)<|@1)<|aW (cE 3<|dY<|a6 (aB 2) aI)<|aW (mK (aV4<|a6 @1<|a6 (aB 1) aI) (dM 4)<|aW (cE 5<|aU gSum<|a6 (gD [2,4] [none,some 0,some 2,some 3,some 4,none] 5 (aV4<|a6 @1<|a6 (uOp fH (aU gMin<|a6 (uOp M.gSub (aB 4)<|@1)<|a6 (aB 2) aI)<|@1) aI) (dM 0) (λρ Q=>Q true ρ)<|uOp iR (uIx (aQ 1)<|uOp M.gSub (aB 2)<|aB 0)<|uIx (aQ 3)<|uOp M.gSub (aB 4)<|aB 0) aI)<|aW (fU (dF<|uOp (sA λi j=>decide (i<=j)) (aB 4)<|aB 2) (c77 5 (gI2 λi j Q=>Q (.pu<|.int<|i+j))<|uOp iR (aB 4)<|uIx (aQ 0)<|uOp M.gSub (aB 2)<|aB 4) dG)<|aR7 3<|kD<|aB 5)<|vV 3)
theorem aB9 {k:Nat}(h:k<ns.length):atI (ns.map D.int) (k:Int)=some (.int<|ns.getD k 0):=by
 refine dL ?_
 rw[bX,aO h,aL,aO h];rfl
theorem bG6: Ra w8 wA ["p","m","n","s","k","t"]:=by
 rintro ds Q ⟨p,m,rfl,hp,m1,m7,h⟩;have hlo:=hp.lo;have hhi:=hp.hi;have lp:(p.map D.int).length=p.length:=aF _;unfold wA;show(aW _ _:US) _ [~~~.tup (p.map .int),!(m:Int),none,none,none,none];rw[aP,gK];left;rw[lp];refine⟨ac,?_⟩
 have en:(p.length:Int)-1=((p.length-1:Nat):Int):=ad
 rw[en];refine fE (m-1) (λi=> .int (1+i)) [~~~.tup (p.map .int),!(m:Int),!((p.length-1:Nat):Int),↑((fO p 0).map .int),none,none] ?_
  (λi ρ=> ∃x4 x5,ρ=[~~~.tup (p.map .int),!(m:Int),!((p.length-1:Nat):Int),↑((fO p i).map .int),x4,x5]) ⟨none,none,rfl⟩ ?_ ?_
 .intro Q' q;simp only[aV4];left;refine⟨ad,?_⟩
  rw[show((m:Int)-1).toNat=m-1 by lia]
  exact q
 .rintro i ρ hi ⟨x4,x5,rfl⟩;have bn:=a53 hp i ad
  refine⟨by show 4<6;decide,?_⟩
  dsimp only[List.set_cons_succ,List.set_cons_zero];rw[aP,gK,eB,bS];refine jJ (t0:=0) (min i<|p.length-1) (λj=> .int (1+j)) [~~~.tup (p.map .int),!(m:Int),!((p.length-1:Nat):Int),↑((fO p i).map .int),!(1+(i:Int)),x5] ?_ ad
   (λx l=>[x,~~~.tup (p.map .int),!((p.length-1:Nat):Int),some<|.bo<|(fO p i).map .int,!(1+(i:Int)),↑l]) none rfl (λ_ _ _=>rfl) (λ_ _=>dR _) (λ_ _ _ q=>q) (λ_ _ _=>rfl)
   (λj=> .int (p.getD (p.length-1-(j+1)) 0*(fO p i).getD (i+1-(j+1)) 0)) ?_ ?_
  .intro Q' q;simp only[aV4];left;have e:(if((p.length-1:Nat):Int)<1+(i:Int)-1 then((p.length-1:Nat):Int)else 1+(i:Int)-1)=((min i (p.length-1):Nat):Int):=by split<;>lia
   rw[e];refine⟨ad,?_⟩
   rw[show(((min i (p.length-1):Nat):Int)+1-1).toNat=min i (p.length-1)by lia]
   exact q
  .intro j l Q' hj q;have hj1:j<i:=ad
   have hj2:j<p.length-1:=ad
   left
   rw[show((p.length-1:Nat):Int)-(1+(j:Int))=((p.length-1-(j+1):Nat):Int)by lia,show 1+(i:Int)-(1+(j:Int))=((i+1-(j+1):Nat):Int)by lia]
   rw[aB9 ad,aB9 (by rw[w6];lia)]
   exact⟨.inr ⟨Sm.pow (k:=9) (aN (iS hp.small _) ac) ac,Sm.pow (iS bn _) ad⟩,q⟩
  .have es:((List.range<|min i<|p.length-1).map λj=>D.int (p.getD (p.length-1-(j+1)) 0*(fO p i).getD (i+1-(j+1)) 0))=((List.range<|min i<|p.length-1).map λj=>p.getD (p.length-1-(j+1)) 0*(fO p i).getD (i+1-(j+1)) 0).map D.int:=by
    rw[dW];rfl
   rw[es];generalize hT:((List.range<|min i<|p.length-1).map λj=>p.getD (p.length-1-(j+1)) 0*(fO p i).getD (i+1-(j+1)) 0)=T
   left
   rw[cY0];right;have last: ∀z:Int,z= -(n6 p (i+1)<|fO p i)->(fO p i).map D.int++[D.int<|-z]=(fO p<|i+1).map D.int:=λz hz=>by
    rw[hz]
    conv=>rhs;unfold fO
    rw[bT];simp
   have lz:((fO p i).map D.int).length<sizeLine:=by
    rw[aF,w6];exact bI (show _<100 by lia) ac
   by_cases hk:i+1<=p.length-1
   .rw[a8 ad]
    rw[show((p.length-1:Nat):Int)-(1+(i:Int))=((p.length-1-(i+1):Nat):Int)by lia,aB9 ad]
    have hz1:T.sum+(1+(i:Int))*p.getD (p.length-1-(i+1)) 0= -(n6 p (i+1)<|fO p i):=by
     unfold n6;rw[Int.neg_neg,a8 hk,<-hT];rw[show i+1-1=i from rfl,show((i+1:Nat):Int)=1+(i:Int)by lia]
    right;rw[last _ hz1];exact⟨.inr ⟨cA2 ad ad,Sm.pow (k:=9) (aN (iS hp.small _) ac) ac⟩,lz,_,_,rfl⟩
   .rw[a7 ad]
    have hz1:T.sum= -(n6 p (i+1)<|fO p i):=by
     unfold n6;rw[Int.neg_neg,a7 hk,<-hT,eF];rfl
    rw[last _ hz1];exact⟨lz,_,_,rfl⟩
 .rintro ρ ⟨x4,x5,rfl⟩;left;exact h
theorem cM0: ∀ds Q,¬iC 0 ds Q:=by
 rintro ds Q ⟨t,rfl,sq,_⟩;have:=sq.pos;have:=sq.le;omega
theorem dC0 (t:UE)(D:UD)(ρ:Ev):aV8 t D ρ=t ρ (λ_ ρ1=>D.nx ρ1):=rfl
structure cY (p:List Int):Prop where
 ok:bC1 p
 one: ∃q,p=q++[1]
nonrec def cA4 (c:Int):Bool:=decide ((if c<0 then -c else c)<=499)
nonrec def dC1 (p:List Int):Bool:=decide (3<=p.length)&&(decide (p.length<=5)&&(decide (p.getD (p.length-1) 0=1)&&p.all cA4))
theorem b35: ∀(q:List Int) (x:Int),(q++[x]).getD ((q++[x]).length-1) 0=x:=λq x=>by
 rw[cI,aL,uQ ae]
 simp
theorem bG7 (p:List Int):dC1 p=true↔cY p:=by
 unfold dC1;simp only[bP,cR,cC];constructor
 .rintro⟨h1,h2,h3,h4⟩;refine⟨⟨h1,h2,λx hx=> ?_⟩,?_⟩
  .have:=fZ (h4 x hx);split at this<;>lia
  .rcases List.eq_nil_or_concat p with rfl| ⟨q,x,rfl⟩
   .simp at h1
   .rw[List.concat_eq_append]at h3⊢;rw[b35]at h3;exact⟨q,by rw[h3]⟩
 .intro h;refine⟨h.ok.lo,h.ok.hi,?_,λx hx=>bQ ?_⟩
  .obtain⟨q,rfl⟩:=h.one;exact b35 q 1
  .have:=h.ok.small x hx;split<;>lia
theorem dQ6 (h: ¬cY p):dC1 p=false:=a14.mpr λz=>h ((bG7 p).mp z)
theorem d02 (h:0<p.length):atI (p.map D.int) (-1)=some (.int<|p.getD (p.length-1) 0):=by
 rcases List.eq_nil_or_concat p with rfl| ⟨q,x,rfl⟩
 .simp at h
 .rw[List.concat_eq_append,b35,bT];exact d56 _ _
def mI:Φ:=λds Q=> ∃p:List Int,ds=[aX p]/\p.length<=1000/\Q (.pu<|.bl<|dC1 p)
def wB:US:=(eJ<|aU cY1<|a6 (gD [] [none,none] 1 (fS<|aB 0) (dM 0) (λρ Q=>Q true ρ)<|uOp (sA λi j=>decide (i<=j)) (aU cX9<|a6 (aB 0) aI)<|@499) aI)
def qG:US:=(aW (fU (uOr (dF<|uOp (sA λi j=>decide (i<j)) (kE<|aQ 0)<|@3)<|uOr (dF<|uOp (sA λi j=>decide (j<i)) (kE<|aQ 0)<|@5)<|dF<|uOp (hG true) (uIx (aQ 0)<|kD<|@1)<|@1) (eJ<|uC<|.bl false) dG) wB)
theorem aX1: Ra mI qG ["r"]:=by
 rintro ds Q ⟨p,rfl,hn,h⟩;have lp:(p.map D.int).length=p.length:=aF _;unfold qG;simp only[aX];show(aW _ _:US) _ [~~~.tup (p.map .int)];rw[aP];left;rw[lp];unfold dC1 at h
 by_cases h3:(p.length:Int)<3
 .rw[a8 h3];rw[bZ ad]at h
  exact h
 rw[a7 h3];rw[bQ<|show 3<=p.length by lia,vG]at h
 by_cases h5:(5:Int)< (p.length:Int)
 .rw[a8 h5];rw[bZ<|show ¬p.length<=5 by lia]at h
  exact h
 rw[a7 h5];rw[bQ<|show p.length<=5 by lia,vG]at h
 rw[d02 ad]
 right
 by_cases h1:p.getD (p.length-1) 0=1
 .rw[bQ h1,vG]at h;rw[a7 λz=>z h1]
  unfold wB;rw[kK,eB,bS];refine jJ (t0:=0) p.length (λk=>(p.map D.int).getD k .non) [~~~.tup (p.map .int)] ?_ ad (λx l=>[x,↑l]) none rfl (λ_ _ _=>rfl) (λ_ _=>dR _) (λ_ _ _ q=>q) (λ_ _ _=>rfl) (λk=> .bl (cA4<|p.getD k 0)) ?_ ?_
  .intro Q' q;simp only[fS];left;rw[lp];exact q
  .intro k l Q' hk q;have ek:(p.map D.int).getD k .non= .int (p.getD k 0):=by
    rw[aL,bX,aL,aO hk];rfl
   rw[ek]at q⊢;left;exact q
  .have e:((List.range p.length).map λk=>D.bl (cA4<|p.getD k 0))=(p.map cA4).map D.bl:=by
    rw[dW];refine oZ ae λi h1 h2=> ?_
    simp at h1
    simp[h1]
   rw[e];left;rw[a44];show Q (.pu<|.bl<|(p.map cA4).all id);rw[List.all_map];exact h
 .rw[bZ h1]at h;rw[a8 h1];exact h
def kL:Φ:=λds Q=> ∃p:List Int,ds=[aX p]/\cY p/\Q (.pu .non)
def nZ:US:=(fU (bY5<|dF<|aU mI<|a6 (aB 0) aI) (λ_ _=>False) dG)
theorem aK5: Ra kL nZ ["r"]:=by
 rintro ds Q ⟨p,rfl,hp,h⟩;have hi:=hp.ok.hi;unfold nZ;show(fU _ _ _:US) _ [~~~aX p];left;refine⟨p,rfl,ad,?_⟩
 rw[(bG7 p).mpr hp]
 exists h
nonrec def dJ (p:List Int):List (List Int):=(List.range<|p.length-1).map λi=>((fO p<|2*(p.length-1)-2).drop i).take (p.length-1)
def a54:Φ:=λds Q=> ∃p:List Int,ds=[aX p]/\cY p/\Q (.pu<|.int<|fW 4<|dJ p)
def a55:US:=(aW (aV8<|aU kL<|a6 (aB 0) aI)<|aW (cE 1<|uOp M.gSub (kE<|aQ 0)<|@1)<|aW (cE 2<|aU w8<|a6 (aB 0)<|a6 (uOp M.gSub (uOp iR @2<|aB 1)<|@1) aI)<|eJ<|aU (iC 4)<|a6 (aU iV<|a6 (gD [1] [none,some 2,some 1,none] 3 (pQ<|a6 (aB 1) aI) (dM 0) (λρ Q=>Q true ρ)<|aU iV<|a6 (uSl (aQ 1) (jB<|aB 0)<|jB<|uOp fH (aB 0)<|aB 2) aI) aI) aI)
theorem d03 (hp:bC1 p):Sq 4 (dJ p):=by
 have hlo:=hp.lo;have hhi:=hp.hi;have bn:=a53 hp (2*(p.length-1)-2) aa
 have nl:=w6 p (2*(p.length-1)-2);have hl:(dJ p).length=p.length-1:=by unfold dJ;simp
 refine⟨aa,aa,λr hr=> ?_,λr hr x hx=> ?_⟩
 .unfold dJ at hr;obtain⟨i,hi,rfl⟩:=cD.mp hr;have:=cJ.mp hi;rw[hl,jV,a17,nl];omega
 .unfold dJ at hr;obtain⟨i,hi,rfl⟩:=cD.mp hr;refine lF (bn x<|List.mem_of_mem_drop<|List.mem_of_mem_take hx) ?_;exact Nat.pow_lt_pow_right ac aa
theorem dQ7 (l:List D)(i n:Nat)(h:i+n<=l.length):cutD l (some (i:Int)) (some ((i+n:Nat):Int))=(l.drop i).take n:=by
 unfold cutD;rw[HT.sIx_nat,HT.sIx_nat,vC<|show i<=l.length by lia,vC h]
 congr 1
 lia
theorem c17: Ra a54 a55 ["p","n","s"]:=by
 rintro ds Q ⟨p,rfl,hp,h⟩;have hlo:=hp.ok.lo;have hhi:=hp.ok.hi;have lp:(p.map D.int).length=p.length:=aF _;have en:(p.length:Int)-1=((p.length-1:Nat):Int):=ad
 have nl:=w6 p (2*(p.length-1)-2);have fin:(eJ (aU (iC 4)<|a6 (aU iV<|a6 (gD [1] [none,some 2,some 1,none] 3 (pQ<|a6 (aB 1) aI) (dM 0) (λρ Q=>Q true ρ)<|aU iV<|a6 (uSl (aQ 1) (jB<|aB 0)<|jB<|uOp fH (aB 0)<|aB 2) aI) aI) aI):US) {Q with}
   [~~~.tup (p.map .int),!((p.length-1:Nat):Int),↑((fO p<|2*(p.length-1)-2).map .int)]:=by
  rw[kK,eB,bS,eB,bS];refine jJ (t0:=0) (p.length-1) (λi=> .int (0+i)) [~~~.tup (p.map .int),!((p.length-1:Nat):Int),↑((fO p<|2*(p.length-1)-2).map .int)] ?_ ad
   (λx l=>[x,some<|.bo<|(fO p<|2*(p.length-1)-2).map .int,!((p.length-1:Nat):Int),↑l]) none rfl (λ_ _ _=>rfl) (λ_ _=>dR _) (λ_ _ _ q=>q) (λ_ _ _=>rfl)
   (λi=>aX (((fO p<|2*(p.length-1)-2).drop i).take<|p.length-1)) ?_ ?_
  .intro Q' q;simp only[pQ];left;refine⟨ad,?_⟩
   rw[jU];exact q
  .intro i l Q' hi q;left;have e:cutD ((fO p<|2*(p.length-1)-2).map D.int) (some<|0+(i:Int)) (some<|0+(i:Int)+((p.length-1:Nat):Int))=(((fO p<|2*(p.length-1)-2).drop i).take<|p.length-1).map D.int:=by
    rw[eE,show(i:Int)+((p.length-1:Nat):Int)=((i+(p.length-1):Nat):Int)by lia,dQ7 _ _ _ (by rw[aF,nl];lia),jZ,a29]
   rw[e];exact q
  .simp only[iV,g1,B.d,aI,oE];refine⟨dJ p,?_,d03 hp.ok,h⟩;unfold d01 dJ;rw[dW];rfl
 unfold a55;show(aW _ _:US) _ [~~~.tup (p.map .int),none,none];rw[aP,dC0,eB,bS];simp only[aB,aL0,aI,B.d,uU];refine⟨p,rfl,hp,?_⟩;rw[aP,gK];simp only[uOp,kE,aQ,bD4,uC,oE,M.gSub,gI2,B.d,uU,lp,bC8,bC7,en];rw[aP,gK,eB];simp only[a6,aI,uOp,aB,aL0,uC,M.gSub,iR,gI2,B.d,uU,List.getElem?_cons_succ];refine⟨cmL ac ac,?_⟩
 refine⟨p,2*(p.length-1)-1,?_,hp.ok,ad,ad,?_⟩
 .rw[show(2:Int)*((p.length-1:Nat):Int)-1=((2*(p.length-1)-1:Nat):Int)by lia];rfl
 .rw[show 2*(p.length-1)-1-1=2*(p.length-1)-2 by lia]
  exact fin
nonrec def one4 (e d c b:Int):Int:=12*e-3*b*d+c*c
nonrec def two4 (e d c b:Int):Int:=72*c*e+9*b*c*d-27*d*d-27*b*b*e-2*c*c*c
nonrec def dQ8:List Int->Int
 | [c0,c1,_]=>c1*c1-4*c0
 | [d,c,b,_]=>b*b*c*c-4*c*c*c-4*b*b*b*d-27*d*d+18*b*c*d
 | [e,d,c,b,_]=>(4*one4 e d c b*one4 e d c b*one4 e d c b-two4 e d c b*two4 e d c b).fdiv 27
 | _=>0
theorem cY.cases {p:List Int}(h:cY p):(∃a b:Int,p=[a,b,1]/\a.natAbs<=499/\b.natAbs<=499)\/(∃a b c:Int,p=[a,b,c,1]/\a.natAbs<=499/\b.natAbs<=499/\c.natAbs<=499)\/
  ∃a b c d:Int,p=[a,b,c,d,1]/\a.natAbs<=499/\b.natAbs<=499/\c.natAbs<=499/\d.natAbs<=499:=by
 obtain⟨q,rfl⟩:=h.one;have lo:=h.ok.lo;have hi:=h.ok.hi;have sm: ∀x∈q,x.natAbs<=499:=λx hx=>h.ok.small x (gS _ hx)
 rw[cI,aO5]at lo hi
 match q,lo,hi,sm with
 | [a,b],_,_,sm=>exact .inl ⟨a,b,rfl,sm a ae,sm b ae⟩
 | [a,b,c],_,_,sm=>exact .inr (.inl ⟨a,b,c,rfl,sm a ae,sm b ae,sm c ae⟩)
 | [a,b,c,d],_,_,sm=>exact .inr (.inr ⟨a,b,c,d,rfl,sm a ae,sm b ae,sm c ae,sm d ae⟩)
 | [],lo,_,_=>simp at lo
 | [_],lo,_,_=>simp at lo
 | _::_::_::_::_::_,_,hi,_=>simp at hi
nonrec def d04 (a b c:Int):Int:=1*a*c+(-1*b*b+0)
nonrec def dQ9 (s t u v w:Int):Int:=1*s*d04 u v w+(-1*t*(1*t*w+(-1*v*u+0))+(1*u*(1*t*v+(-1*u*u+0))+0))
theorem hk2 (c b:Int):fW 4 (dJ [c,b,1])=d04 2 (-(0+1*b)) (-((b* -(0+1*b)+0)+2*c)):=by kernel_rfl
theorem id2 (c0 c1:Int):fW 4 (dJ [c0,c1,1])=c1*c1-4*c0:=by
 rw[hk2];unfold d04;grind
nonrec def c18 (b:Int):Int:= -(0+1*b)
nonrec def c19 (c b:Int):Int:= -((b*c18 b+0)+2*c)
nonrec def cA5 (d c b:Int):Int:= -((b*c19 c b+(c*c18 b+0))+3*d)
nonrec def hkNd (d c b:Int):Int:= -((b*cA5 d c b+(c*c19 c b+(d*c18 b+0)))+0)
theorem hk3 (d c b:Int):fW 4 (dJ [d,c,b,1])=dQ9 3 (c18 b) (c19 c b) (cA5 d c b) (hkNd d c b):=by kernel_rfl
theorem id3 (d c b:Int):fW 4 (dJ [d,c,b,1])=b*b*c*c-4*c*c*c-4*b*b*b*d-27*d*d+18*b*c*d:=by
 rw[hk3];unfold dQ9 d04 hkNd cA5 c19 c18;grind
nonrec def dR0 (e d c b:Int):Int:= -((b*cA5 d c b+(c*c19 c b+(d*c18 b+0)))+4*e)
nonrec def hkMe (e d c b:Int):Int:= -((b*dR0 e d c b+(c*cA5 d c b+(d*c19 c b+(e*c18 b+0))))+0)
nonrec def hkMf (e d c b:Int):Int:= -((b*hkMe e d c b+(c*dR0 e d c b+(d*cA5 d c b+(e*c19 c b+0))))+0)
nonrec def hkD4 (s0 s1 s2 s3 s4 s5 s6:Int):Int:=1*s0*dQ9 s2 s3 s4 s5 s6+(-1*s1*(1*s1*d04 s4 s5 s6+(-1*s3*(1*s2*s6+(-1*s5*s3+0))+(1*s4*(1*s2*s5+(-1*s4*s3+0))+0)))+(1*s2*(1*s1*(1*s3*s6+(-1*s5*s4+0))+(-1*s2*(1*s2*s6+(-1*s5*s3+0))+(1*s4*(1*s2*s4+(-1*s3*s3+0))+0)))+(-1*s3*(1*s1*(1*s3*s5+(-1*s4*s4+0))+(-1*s2*(1*s2*s5+(-1*s4*s3+0))+(1*s3*(1*s2*s4+(-1*s3*s3+0))+0)))+0)))
theorem hk4 (e d c b:Int):fW 4 (dJ [e,d,c,b,1])=hkD4 4 (c18 b) (c19 c b) (cA5 d c b) (dR0 e d c b) (hkMe e d c b) (hkMf e d c b):=by kernel_rfl
theorem id4 (e d c b:Int):27*fW 4 (dJ [e,d,c,b,1])=4*(12*e-3*b*d+c*c)*(12*e-3*b*d+c*c)*(12*e-3*b*d+c*c)-(72*c*e+9*b*c*d-27*d*d-27*b*b*e-2*c*c*c)*(72*c*e+9*b*c*d-27*d*d-27*b*b*e-2*c*c*c):=by
 rw[hk4];unfold hkD4 dQ9 d04 hkMf hkMe dR0 cA5 c19 c18;grind
nonrec def rts3 (a b c:Int):List Int:=[-(a*b*c),a*b+a*c+b*c,-a-b-c]
nonrec def sqIn (rs:List Int)(i:Nat)(t:Int):∅
 | 0=>t
 | j+1=>sqIn rs i t j*(rs.getD i 0-rs.getD j 0)*(rs.getD i 0-rs.getD j 0)
nonrec def sqK (rs:List Int):∅
 | 0=>1
 | i+1=>sqIn rs i (sqK rs i) i
nonrec def okR (q rs:List Int):Bool:=(q.all λx=>decide (x.natAbs<=499))&&decide (dQ8 (q++[1])=sqK rs rs.length)
nonrec def sh3 (a b c s:Int):List Int:=[a+s*b+s*s*c+s*s*s,b+2*s*c+3*s*s,c+3*s]
nonrec def sh4 (a b c d s:Int):List Int:=[a+s*b+s*s*c+s*s*s*d+s*s*s*s,b+2*s*c+3*s*s*d+4*s*s*s,c+3*s*d+6*s*s,d+4*s]
nonrec def dR1 (row:List Int)(r:Int):Nat->List Int
 | 0=>0::row
 | k+1=>(dR1 row r k).set k ((dR1 row r k).getD k 0-r*row.getD k 0)
nonrec def dX6 (rs:List Int):List Int:=rs.foldl (λrow r=>dR1 row r row.length) [1]
theorem fr3 (a b c:Int):dX6 [a,b,c]=rts3 a b c++[1]:=by
 simp[dX6,dR1,rts3]
 grind
nonrec def b36 (row:List Int)(s:Int):Nat->List Int
 | 0=>row
 | k+1=>(b36 row s k).set (row.length-2-k) ((b36 row s k).getD (row.length-2-k) 0+s*(b36 row s k).getD (row.length-1-k) 0)
nonrec def shK (p:List Int)(s:Int):Nat->List Int
 | 0=>p
 | low+1=>b36 (shK p s low) s (p.length-1-low)
theorem she3 (a b c s:Int):shK [a,b,c,1] s 3=sh3 a b c s++[1]:=by
 simp[shK,b36,sh3]
 grind
theorem she4 (a b c d s:Int):shK [a,b,c,d,1] s 4=sh4 a b c d s++[1]:=by
 simp[shK,b36,sh4]
 grind
nonrec def rwF (n:Nat)(f:∅):List Int:=(List.range n).map f
theorem a56 (n:Nat)(f:∅):(rwF n f).length=n:=by simp[rwF]
theorem cS5 (h:i<n):(rwF n f)[i]? =some (f i):=by simp[rwF,h]
theorem gQ (n:Nat)(f:∅):((rwF n f).map D.int).length=n:=by simp[rwF]
theorem zO (h:i<n):((rwF n f).map D.int)[i]? =some (.int<|f i):=by simp[rwF,h]
theorem aX2 (h:i<n):((rwF n f).map D.int).getD i .non= .int (f i):=by rw[aL,zO h];rfl
theorem b37 (h:i<n):atI ((rwF n f).map D.int) (i:Int)=some (.int<|f i):=dL (zO h)
theorem cS6 {j:Nat}(h:j<n):((rwF n f).map D.int).set j (.int v)=(rwF n λx=>if x=j then v else f x).map D.int:=by
 apply aQ1
 intro k
 by_cases hk:k<n
 .rw[zO hk]
  by_cases e:j=k
  .subst e;rw[kC (by rw[gQ];exact hk),a8 rfl]
  .rw[get_set_ne e,zO hk,a7 λz=>e z.symm]
 .rw[mO (by rw[gH,gQ];omega),mO (by rw[gQ];omega)]
theorem sC {g:∅}(h: ∀i,i<n->f i=g i):rwF n f=rwF n g:=by
 unfold rwF;apply iI;intro i hi;exact h i (cJ.mp hi)
theorem c20 (r:List Int):r=rwF r.length (λj=>r.getD j 0):=by
 apply aQ1
 intro k
 by_cases hk:k<r.length
 .rw[cS5 hk,aO hk,aL,aO hk];rfl
 .rw[mO aa,mO (by rw[a56];omega)]
theorem cA6 (n:Nat)(f:∅):(List.range n).map (λk=>D.int (f k))=(rwF n f).map D.int:=by
 unfold rwF;rw[dW];rfl
theorem dC2 (h:i<n):ixN n (i:Int)=some i:=by
 unfold ixN;have h2:(i:Int)< (n:Int):=aa
 simp[h,h2]
theorem sW (t:UE)(ρ:Ev)(Q:Bool->Ev->Prop):dF t ρ Q=t ρ (isB Q):=rfl
theorem kF (g:D->D->(B->Prop)->Prop)(ta tb:UE)(ρ:Ev)(Q:B->Ev->Prop):uOp g ta tb ρ Q=ta ρ λx ρ1=>tb ρ1 λy ρ2=>g x.d y.d λb=>Q b ρ2:=rfl
theorem sX (c:UT)(t u:US)(E:UD)(ρ:Ev):fU c t u E ρ=c ρ λb ρ1=>if b=true then t E ρ1 else u E ρ1:=rfl
theorem nO {d:D}(h:ρ[i]? =some (~~~d)):aB i ρ Q=Q (.pu d) ρ:=by unfold aB aL0;rw[h]
theorem cS7 (h:ρ[i]? =some (↑l)):aB i ρ Q=Q (.pu<|.lst l) (ρ.set i<|~~~.lst l):=by unfold aB aL0;rw[h]
theorem cA7: ∀r:List Int,pdL (r.map D.int)=some (r.map PyData.int)
 | []=>by simp[pdL]
 | a::r=>by simp[pdL,pd,cA7 r]
theorem cM1 (r:List Int):pd (aX r)=some (.tuple<|r.map .int):=by simp[aX,pd,cA7]
theorem bG8: ∀r:List Int,PyData.depthAll (r.map PyData.int)=0
 | []=>by simp[PyData.depthAll]
 | a::r=>by simp[PyData.depthAll,PyData.depth,bG8 r]
theorem dR2 (r:List Int):(PyData.tuple<|r.map .int).depth<=60:=by simp[PyData.depth,bG8]
theorem aX3 (a b:List Int):(PyData.tuple<|a.map .int).eqv (.tuple<|b.map .int)=decide (a=b):=by simp only[PyData.eqv];exact PySem.W.ked_eqvAll a b
theorem dC3 {neg:Bool}{a b:List Int}{Q:B->Prop}(h:Q (.pu<|.bl<|neg ^^ decide (a=b))):cK3 neg (aX a) (aX b) Q:=⟨_,_,cM1 a,cM1 b,dR2 a,by rw[aX3];exact h⟩
nonrec def gL (f:∅):Nat->Nat
 | 0=>0
 | n+1=>if f n=0 then gL f n else n+1
theorem xF (f:∅): ∀n,gL f n<=n
 | 0=>aG _
 | n+1=>by
  unfold gL;split
  .have:=xF f n;lia
  .exact aG _
theorem bV0 (f:∅): ∀n,gL f n=0\/f (gL f n-1)≠0
 | 0=> .inl rfl
 | n+1=>by
  unfold gL;split
  .exact bV0 f n
  .rename_i h
   exact .inr (by exists h)
theorem bV1 (f:∅): ∀n m,gL f n<=m->m<n->f m=0
 | n+1,m,h1,h2=>by
  unfold gL at h1;split at h1
  .rename_i h
   by_cases e:m=n
   .rw[e];exact h
   .exact bV1 f n m h1 ad
  .lia
theorem uK {f:∅}{k:Nat}: ∀{n:Nat},k<=n->(∀m,k<=m->m<n->f m=0)->(k=0\/f (k-1)≠0)->gL f n=k
 | 0,h,_,_=>by have:k=0:=ad
               rw[this];rfl
 | n+1,h,hz,hl=>by
  unfold gL
  by_cases e:k=n+1
  .subst e;rw[a7];rcases hl with h0|h0
   .lia
   .exists h0
  .rw[a8<|hz n ad ad]
   exact uK ad (λm h1 h2=>hz m h1 ad) hl
theorem bG9 {f g:∅}: ∀{n:Nat},(∀m,m<n->f m=g m)->gL f n=gL g n
 | 0,_=>rfl
 | n+1,h=>by
  unfold gL;rw[h n<|rO n,bG9 λm hm=>h m (iK hm)]
theorem dC4 (n k:Nat)(f:∅)(h:k<=n):(rwF n f).take k=rwF k f:=by
 unfold rwF;rw[<-jZ,List.take_range,vC h]
def aC0:Φ:=λds Q=> ∃(n:Nat) (f:∅),ds=[aX<|rwF n f]/\n<=1000/\Q (.pu<|aX<|rwF (gL f n) f)
def bH0:US:=(aW (cE 1<|kE<|aQ 0)<|aW (bY8 (c75 (dF<|uOp (sA λi j=>decide (j<i)) (aB 1)<|@0)<|dF<|uOp (hG false) (uIx (aQ 0)<|uOp M.gSub (aB 1)<|@1)<|@0)<|c77 1 (gI2 λi j Q=>Q (.pu<|.int<|i-j))<|@1)<|eJ<|uSlT (aB 0) fV<|jB<|aB 1)
theorem dC5: Ra aC0 bH0 ["r","s"]:=by
 rintro ds Q ⟨n,f,rfl,hn,h⟩;unfold bH0;simp only[aX];show(aW _ _:US) _ [~~~.tup ((rwF n f).map .int),none];rw[aP];left;rw[gQ];refine⟨λm ρ=>ρ=[~~~.tup ((rwF n f).map .int),!(m:Int)]/\m<=n/\gL f m=gL f n,⟨n,rfl,aG _,rfl⟩,?_⟩
 rintro m ρ ⟨rfl,hm,hc⟩;left;have fin:gL f m=m->Q (.pu<|.tup<|cutD ((rwF n f).map D.int) none<|some (m:Int)):=λe=>by
  rw[aS5 _ _ (by rw[gQ];exact hm),<-jZ,dC4 _ _ _ hm]
  rw[<-hc,e]at h;exact h
 split
 .rename_i h0
  obtain⟨m',rfl⟩: ∃m',m=m'+1:=⟨m-1,ad⟩
  rw[show((m'+1:Nat):Int)-1=(m':Int)by lia,b37<|show m'<n by lia]
  right;split
  .rename_i h1
   refine⟨m',ad,?_,ad,?_⟩
   .simp
   .rw[<-hc];show _=if f m'=0 then gL f m' else m'+1;rw[a8 h1]
  .rename_i h1
   refine fin ?_
   show(if f m'=0 then gL f m' else m'+1)=m'+1
   rw[a7 h1]
 .have:m=0:=ad
  subst this;exact fin rfl
nonrec def shF (b:∅)(n m:Nat):Int:=if n<=m then b (m-n)else 0
nonrec def divS (b:∅)(d n:Nat)(f:∅):∅:=λm=>f m-f (n+d)*shF b n m
nonrec def divL (b:∅)(d:Nat):Nat->∅->∅
 | 0,f=>f
 | n+1,f=>divL b d n (divS b d n f)
nonrec def divQ (b:∅)(d:Nat):Nat->∅->∅
 | 0,_=>λ_=>0
 | n+1,f=>λx=>if x=n then f (n+d)else divQ b d n (divS b d n f) x
structure dC6 (L d a e:Nat)(f b:∅):Prop where
 L9:L<=100
 d9:d<=100
 one:b d=1
 beyond: ∀j,d<j->b j=0
 fb: ∀m,m<L->(f m).natAbs<=2^a
 bb: ∀j,(b j).natAbs<=2^e
 room:a+(e+1)*L<8000
 e8:e<8000
theorem cM2 {b:∅}{d a e L:Nat}(hn:n+d<L)(hf: ∀m,m<L->(f m).natAbs<=2^a)(hb: ∀j,(b j).natAbs<=2^e): ∀m,m<L->(divS b d n f m).natAbs<=2^(a+(e+1)):=by
 intro m hm;unfold divS;have h1:=hf m hm;have h2:=hf (n+d) hn;have h3:(shF b n m).natAbs<=2^e:=by
  unfold shF;split
  .exact hb _
  .simp
 have h4:(f (n+d)*shF b n m).natAbs<=2^a*2^e:=by rw[eC];exact eV h2 h3
 have h5:=Int.natAbs_sub_le (f m) (f (n+d)*shF b n m);have e1:2^(a+(e+1))=2^a*2^e+2^a*2^e:=by rw[<-vH,pow_succ,pE];lia
 have h6:2^a<=2^a*2^e:=Nat.le_mul_of_pos_right _ (Nat.pow_pos ac)
 lia
theorem d05 (k:Nat):(replicate k [D.int 0]).flatten=(rwF k λ_=>0).map .int:=by
 rw[cA3]
 congr 1
 apply oZ<;>simp[rwF]
def hV:Φ:=λds Q=> ∃(L d a e:Nat) (f b:∅),ds=[aX<|rwF L f,aX<|rwF (d+1) b]/\dC6 L d a e f b/\
 Q (.pu<|.tup [aX<|rwF (gL (divQ b d (L-d) f)<|L-d)<|divQ b d (L-d) f,aX<|rwF (gL (divL b d (L-d) f) L)<|divL b d (L-d) f])
def xG:US:=(eJ<|bL<|a6 (aU aC0<|a6 (aU iV<|a6 (aB 5) aI) aI)<|a6 (aU aC0<|a6 (aU iV<|a6 (aB 4) aI) aI) aI)
def xH:US:=(aW (mK (d88<|a6 (aB 3) aI) (dM 6)<|aW (cE 7<|uIx (aQ 4)<|uOp fH (aB 6)<|aB 2)<|aW (cQ0 5 (aB 7)<|aB 6)<|mK (d87<|a6 (aB 1) aI) (pP<|eH 8<|eH 9 pO)<|d85 4 (λi j=>i-j) (uOp fH (aB 6)<|aB 8)<|uOp iR (aB 7)<|aB 9) xG)
def sD:US:=(aW (cE 2<|uOp M.gSub (kE<|aQ 1)<|@1)<|aW (cE 3<|aU gMax<|a6 @0<|a6 (uOp M.gSub (kE<|aQ 0)<|aB 2) aI)<|aW (cE 4<|aU aI1<|a6 (aB 0) aI)<|aW (cE 5<|uOp iR (dY<|a6 @0 aI)<|aB 3) xH)
theorem b38: Ra hV sD ["f","g","d","s","l","q","a","m","j","c"]:=by
 rintro ds Q ⟨L,d,a,e,f,b,rfl,ok,h⟩;have L9:=ok.L9;have d9:=ok.d9;have room:=ok.room;unfold sD;simp only[aX]at h⊢;show(aW _ _:US) _ [~~~.tup ((rwF L f).map .int),~~~.tup ((rwF (d+1) b).map .int),none,none,none,none,none,none,none,none];left;rw[gQ,gQ];obtain⟨N,hN⟩: ∃N:Nat,N=L-d:=⟨_,rfl⟩;have e1:((d+1:Nat):Int)-1=(d:Int):=ad
 have e2:(if(L:Int)-(d:Int)>0 then(L:Int)-(d:Int)else 0)=(N:Int):=by split<;>lia
 rw[e1,e2,jU,d05];refine⟨ac,⟨ad,ad,aN (show 1*N<=100 by lia) ac⟩,?_⟩
 unfold xH;rw[aP];rw[<-hN]at h;refine fE N (λk=> .int (((N:Int))-1-k)) [~~~.tup ((rwF L f).map .int),~~~.tup ((rwF (d+1) b).map .int),!(d:Int),!(N:Int),↑((rwF L f).map .int),some<|.ow<|(rwF N λ_=>0).map .int,none,none,none,none] ?_
  (λk ρ=> ∃g q z6 z7 z8 z9,ρ=[~~~.tup ((rwF L f).map .int),~~~.tup ((rwF (d+1) b).map .int),!(d:Int),!(N:Int),↑((rwF L g).map .int),↑((rwF N q).map .int),z6,z7,z8,z9]/\
   divL b d (N-k) g=divL b d N f/\(∀x,x<N->divQ b d N f x=if x<N-k then divQ b d (N-k) g x else q x)/\ ∀m,m<L->(g m).natAbs<=2^(a+(e+1)*k))
  ⟨f,λ_=>0,none,none,none,none,rfl,rfl,λx hx=>by rw[a33,a8 hx],λm hm=>by simpa using ok.fb m hm⟩ ?_ ?_
 .intro Q' q;left;refine⟨⟨ad,ad⟩,?_⟩
  rw[jU];exact q
 .rintro k ρ hk ⟨g,q,z6,z7,z8,z9,rfl,hL,hQ,hb⟩;obtain⟨i,hi⟩: ∃i:Nat,i=N-1-k:=⟨_,rfl⟩;have ei:(N:Int)-1-(k:Int)=(i:Int):=ad
  have hiN:i<N:=ad
  have hid:i+d<L:=ad
  rw[ei];have c1:(i:Int)+(d:Int)=((i+d:Nat):Int):=ad
  left
  rw[c1,b37 hid];right;rw[gQ,dC2 hiN];right;rw[cS6 hiN];refine⟨ae,?_⟩
  have smg:Sm (g<|i+d):=Sm.pow (hb _ hid) (by
   have:(e+1)*k<=(e+1)*L:=v6 _ ad
   lia)
  refine fE (d+1) (λj=> .tup [.int (j:Int),((rwF (d+1) b).map D.int).getD j .non]) [~~~.tup ((rwF L f).map .int),~~~.tup ((rwF (d+1) b).map .int),!(d:Int),!(N:Int),↑((rwF L g).map .int),some<|.ow<|(rwF N λx=>if x=i then g (i+d)else q x).map .int,!(i:Int),!g (i+d),z8,z9] ?_
   (λj ρ=> ∃z8 z9,ρ=[~~~.tup ((rwF L f).map .int),~~~.tup ((rwF (d+1) b).map .int),!(d:Int),!(N:Int),some<|.ow<|(rwF L λm=>if m<i+j then divS b d i g m else g m).map .int,some<|.ow<|(rwF N λx=>if x=i then g (i+d)else q x).map .int,!(i:Int),!g (i+d),z8,z9]) ⟨z8,z9,?_⟩ ?_ ?_
  .intro Q' qq;left;rw[gQ];exact qq
  .have:(rwF L λm=>if m<i+0 then divS b d i g m else g m)=rwF L g:=by
    apply sC
    intro m hm
    by_cases c:m<i+0
    .rw[a8 c];unfold divS shF;rw[a7 ad]
     lia
    .rw[a7 c]
   rw[this]
  .rintro j ρ hj ⟨z8,z9,rfl⟩;rw[aX2 hj];have hij:i+j<L:=ad
   have c2:(i:Int)+(j:Int)=((i+j:Nat):Int):=ad
   simp only[d85];left;rw[c2,gQ];refine⟨ae,ae,trivial,_,i+j,g<|i+j,rfl,dC2 hij,by rw[zO hij,a7 ad],.inr ⟨smg,Sm.pow (ok.bb j) (by have:=ok.e8;lia)⟩,_,rfl,!(j:Int),!b j,?_⟩
   rw[cS6 hij];have:(rwF L λx=>if x=i+j then g (i+j)-g (i+d)*b j else if x<i+j then divS b d i g x else g x)=rwF L λm=>if m<i+(j+1)then divS b d i g m else g m:=by
    apply sC
    intro m hm
    by_cases c:m=i+j
    .subst c;rw[a8 rfl,a8 ad]
     unfold divS shF;rw[a8 ad,show i+j-i=j by lia]
    .rw[a7 c]
     by_cases c3:m<i+j
     .rw[a8 c3,a8 ad]
     .rw[a7 c3,a7 ad]
   rw[this]
  .rintro ρ ⟨z8,z9,rfl⟩;have eg:(rwF L λm=>if m<i+(d+1)then divS b d i g m else g m)=rwF L (divS b d i g):=by
    apply sC
    intro m hm
    by_cases c:m<i+(d+1)
    .rw[a8 c]
    .rw[a7 c];unfold divS shF;rw[a8 ad,ok.beyond _ ad]
     lia
   rw[eg];have en:N-k=i+1:=ad
   have en2:N-(k+1)=i:=ad
   rw[en]at hL hQ;refine⟨_,_,_,_,_,_,rfl,by rw[en2];exact hL,λx hx=> ?_,?_⟩
   .rw[en2,hQ x hx]
    by_cases c:x<i
    .rw[a8 c,a8 ad]
     show(if x=i then _ else divQ b d i (divS b d i g) x)=_
     rw[a7 ad]
    .rw[a7 c]
     by_cases c2:x=i
     .subst c2;rw[a8 ad,a8 rfl]
      show(if x=x then _ else _)=_
      rw[a8 rfl]
     .rw[a7 ad,a7 c2]
   .have:=cM2 hid hb ok.bb;rw[show a+(e+1)*(k+1)=a+(e+1)*k+(e+1)by rw[mul_succ];lia]
    exact this
 .rintro ρ ⟨g,q,z6,z7,z8,z9,rfl,hL,hQ,hb⟩;right;unfold xG;rw[sub_self]at hL hQ;have hg:g=divL b d N f:=hL;have hq: ∀x,x<N->divQ b d N f x=q x:=λx hx=>by rw[hQ x hx,a7 ad]
  left
  refine⟨N,q,rfl,ad,?_⟩
  refine⟨L,g,rfl,ad,?_⟩
  left
  refine⟨ac,?_⟩
  have e3:gL (divQ b d N f) N=gL q N:=bG9 λm hm=>hq m hm
  have e4:rwF (gL q N) (divQ b d N f)=rwF (gL q N) q:=sC λm hm=>hq m (by have:=xF q N;lia)
  rw[e3,e4,<-hg]at h;exact h
nonrec def conv (u b:∅):Nat->∅
 | 0,_=>0
 | n+1,m=>conv u b n m+u n*shF b n m
theorem pU {u b:∅}{d:Nat}(hb: ∀j,d<j->b j=0): ∀(n m:Nat),n+d<=m->conv u b n m=0
 | 0,m,_=>rfl
 | n+1,m,h=>by
  show conv u b n m+u n*shF b n m=0
  rw[pU hb n m ad]
  unfold shF;rw[a8 ad,hb _ ad]
  lia
theorem bH1 {u b low:∅}{d:Nat}(h1:b d=1)(hb: ∀j,d<j->b j=0)(hl: ∀m,d<=m->low m=0): ∀(n:Nat),divL b d n (λm=>conv u b n m+low m)=low/\ ∀x,x<n->divQ b d n (λm=>conv u b n m+low m) x=u x
 | 0=>⟨by funext m;show 0+low m=low m;lia,λx hx=>ad⟩
 | n+1=>by
  have top:conv u b (n+1) (n+d)+low (n+d)=u n:=by
   show conv u b n (n+d)+u n*shF b n (n+d)+low (n+d)=u n
   rw[pU hb n _<|aG _,hl _ ad]
   unfold shF;rw[a8 ad,show n+d-n=d by lia,h1]
   lia
  have st:divS b d n (λm=>conv u b (n+1) m+low m)=λm=>conv u b n m+low m:=by
   funext m
   show(conv u b (n+1) m+low m)-(conv u b (n+1) (n+d)+low (n+d))*shF b n m=_
   rw[top];show conv u b n m+u n*shF b n m+low m-u n*shF b n m=_
   lia
  obtain⟨i1,i2⟩:=bH1 (u:=u) h1 hb hl n;refine⟨?_,λx hx=> ?_⟩
  .show divL b d n (divS b d n _)=low
   rw[st];exact i1
  .show(if x=n then _ else divQ b d n (divS b d n _) x)=u x
   rw[st]
   by_cases c:x=n
   .rw[a8 c,c];exact top
   .rw[a7 c];exact i2 x ad
theorem cA8 (h:0<n):atI ((rwF n f).map D.int) (-1)=some (.int<|f<|n-1):=by
 unfold L2.atI;have e:ixN ((rwF n f).map D.int).length (-1)=some (n-1):=by
  unfold ixN;rw[gQ,a7 ac,a8 ad]
  congr 1
  lia
 rw[e];exact zO ad
theorem cM3 (hf: ∀m,n<=m->f m=0): ∀m,gL f n<=m->f m=0:=λm hm=>by
 by_cases c:m<n
 .exact bV1 f n m hm c
 .exact hf m ad
nonrec def md (p:Int)(f:∅):∅:=λj=>f j%p
nonrec def bH2 (c p:Int):∅
 | 0=>1
 | n+1=>bH2 c p n*c%p
theorem bH3 {c p:Int}(hp:2<=p): ∀n,0<=bH2 c p n/\bH2 c p n<p
 | 0=>⟨by show(0:Int)<=1;lia,by show(1:Int)<p;lia⟩
 | n+1=>⟨dS _ ad,dO _ ad⟩
structure Pr (p:Int):Prop where
 lo:2<=p
 hi:p<200
 inv: ∀c:Int,0<c->c<p->bH2 c p (p.toNat-2)*c%p=1
def Cg (p:Int)(f g:∅):Prop:= ∀m,f m%p=g m%p
theorem Cg.divS {p:Int}{b f g:∅}{d n:Nat}(h:Cg p f g):Cg p (divS b d n f) (divS b d n g):=λm=>by
 show(f m-f (n+d)*shF b n m)%p=(g m-g (n+d)*shF b n m)%p
 have h1:=h m;have h2:f (n+d)*shF b n m%p=g (n+d)*shF b n m%p:=by rw[gU,h<|n+d,<-gU]
 rw[vJ,h1,h2,<-vJ]
theorem Cg.divL {p:Int}{b:∅}{d:Nat}: ∀(n:Nat) {f g:∅},Cg p f g->Cg p (divL b d n f) (divL b d n g)
 | 0,_,_,h=>h
 | n+1,_,_,h=>Cg.divL n h.divS
theorem Cg.divQ {p:Int}{b:∅}{d:Nat}: ∀(n:Nat) {f g:∅},Cg p f g->Cg p (divQ b d n f) (divQ b d n g)
 | 0,_,_,h=>λ_=>rfl
 | n+1,f,g,h=>λx=>by
  show(if x=n then f (n+d)else M.divQ b d n (M.divS b d n f) x)%p=(if x=n then g (n+d)else M.divQ b d n (M.divS b d n g) x)%p
  by_cases c:x=n
  .rw[a8 c,a8 c];exact h _
  .rw[a7 c,a7 c];exact Cg.divQ n h.divS x
theorem b71 {b:∅}{d:Nat}: ∀(n:Nat) (f:∅) (x:Nat),n<=x->divQ b d n f x=0
 | 0,_,_,_=>rfl
 | n+1,f,x,h=>by
  show(if x=n then f (n+d)else divQ b d n (divS b d n f) x)=0
  rw[a7 ad]
  exact b71 n _ x ad
theorem aX4 {p:Int}{u u' b b':∅}(h: ∀i j,u' i*b' j%p=u i*b j%p): ∀n,Cg p (conv u' b' n) (conv u b n)
 | 0,_=>rfl
 | n+1,m=>by
  show(conv u' b' n m+u' n*shF b' n m)%p=(conv u b n m+u n*shF b n m)%p
  have h1:=aX4 h n m;have h2:u' n*shF b' n m%p=u n*shF b n m%p:=by
   unfold shF
   by_cases c:n<=m
   .rw[a8 c,a8 c];exact h _ _
   .rw[a7 c,a7 c,aY,aY]
  rw[jA,h1,h2,<-jA]
theorem bH4 {u b:∅}{d:Nat}(hb: ∀j,d<j->b j=0):conv u b (U+1) (U+d)=u U*b d:=by
 show conv u b U (U+d)+u U*shF b U (U+d)=_
 rw[pU hb U _<|aG _];unfold shF;rw[a8 ad,show U+d-U=d by lia]
 lia
theorem dC7 {p t:Int}{B0 u low A:∅}{d:Nat}(hp:2<=p)(hB: ∀j,d<j->B0 j=0)(hU:U=0\/u (U-1)≠0)(uR: ∀j,0<=u j/\u j<p)(uz: ∀j,U<=j->u j=0)(lz: ∀j,d<=j->low j=0)(lR: ∀j,0<=low j/\low j<p)
  (ht:t*B0 d%p=1) (hA: ∀m,A m=(conv u B0 U m+low m)%p) (hn:U+d<=n) :
  let b:=λj=>t*B0 j%p
  let LA:=gL A n
  LA<=U+d/\(∀j,t*divQ b d (LA-d) A j%p=u j)/\(∀j,divL b d (LA-d) A j%p=low j)/\(∀m,LA<=m->divL b d (LA-d) A m%p=0):=by
 intro b LA;have b1:b d=1:=ht;have bz: ∀j,d<j->b j=0:=λj hj=>by
  show t*B0 j%p=0
  rw[hB j hj,aY,dD]
 have tc: ∀x:Int,t*(B0 d*x)%p=x%p:=λx=>by
  rw[<-gT,gU,ht,vL,k8]
 have cg:Cg p A (λm=>conv (λi=>B0 d*u i) b U m+low m):=λm=>by
  rw[hA m,k8];have:=aX4 (p:=p) (u:=u) (b:=B0) (u':=λi=>B0 d*u i) (b':=b) (λi j=>by
   show B0 d*u i*(t*B0 j%p)%p=u i*B0 j%p
   rw[gU,k8,<-gU];have e:B0 d*u i*(t*B0 j)=t*(B0 d*(u i*B0 j)):=by
    simp only[mW,Int.mul_left_comm,gT]
   rw[e,tc]) U m
  show(conv u B0 U m+low m)%p=(conv (λi=>B0 d*u i) b U m+low m)%p
  rw[jA,<-this,<-jA]
 obtain⟨e1,e2⟩:=bH1 (u:=λi=>B0 d*u i) (low:=low) b1 bz lz U
 have Az: ∀m,U+d<=m->A m=0:=λm hm=>by
  rw[hA m,pU hB U m hm,lz m ad]
  exact dD _
 have hL:(U=0/\LA<=d)\/(0<U/\LA=U+d):=by
  have hle:LA<=U+d:=by
   rcases bV0 A n with h|h
   .show gL A n<=U+d
    lia
   .exact uS λq=>h (Az _ (by show U+d<=LA-1;lia))
  by_cases c:U=0
  .exact .inl ⟨c,ad⟩
  .refine .inr ⟨ad,?_⟩
   refine uK hn (λm m1 m2=>Az m m1) (.inr λq=> ?_)
   obtain⟨U',rfl⟩: ∃U',U=U'+1:=⟨U-1,ad⟩
   rw[show U'+1+d-1=U'+d by lia,hA,bH4 hB,lz _ ad,eF]at q
   have h1:=tc (u U');rw[gU,show B0 d*u U'=u U'*B0 d from mW _ _,q,aY,dD,fN (uR _).1 (uR _).2]at h1
   rcases hU with h|h
   .lia
   .exact h (by exists h1.symm)
 have hN:LA-d=U:=ad
 have r: ∀j,divL b d U A j%p=low j:=λj=>by
  rw[Cg.divL U cg j,e1,fN (lR j).1 (lR j).2]
 refine⟨ad,λj=> ?_,λj=>by rw[hN];exact r j,λm hm=> ?_⟩
 .rw[hN]
  by_cases c:j<U
  .have h1:=Cg.divQ (b:=b) (d:=d) U cg j;rw[e2 j c]at h1;rw[gU,h1,<-gU];show t*(B0 d*u j)%p=u j;rw[tc,fN (uR _).1 (uR _).2]
  .rw[b71 U A j ad,uz j ad,aY,dD]
 .rw[hN];rcases hL with⟨h1,h2⟩| ⟨h1,h2⟩
  .subst h1;show A m%p=0;rw[cM3 (λm hm=>Az m ad) m hm]
   exact dD _
  .rw[r m];exact lz m ad
def kG:Φ:=λds Q=> ∃(n:Nat) (f:∅) (p:Int),ds=[aX<|rwF n f,.int p]/\n<=1000/\0<p/\Q (.pu<|aX<|rwF (gL (md p f) n)<|md p f)
def y9:US:=(eJ<|aU aC0<|a6 (aU iV<|a6 (gD [1] [none,some 1,none] 2 (fS<|aB 0) (dM 0) (λρ Q=>Q true ρ)<|uOp kX (aB 0)<|aB 1) aI) aI)
theorem dR3 (Q:B->Ev->Prop)(n:Nat)(f:∅)(p:Int)(hn:n<=1000)(hp:0<p)(k:Nat->D)(iA:Ev)(x0:D)(hx:x0=aX (rwF n f)\/x0= .lst ((rwF n f).map .int))(h:Q (.ow<|(rwF n<|md p f).map .int) (some (.pu x0)::some (.pu<|.int p)::iA)) :
  (gD [1] [none,some 1,none] 2 (fS<|aB 0) (dM 0) (λρ Q=>Q true ρ) (uOp kX (aB 0)<|aB 1):UE) (some (.pu x0)::some (.pu<|.int p)::iA) Q:=by
 refine jJ (t0:=0) n (λk=>((rwF n f).map D.int).getD k .non) (some (.pu x0)::some (.pu<|.int p)::iA) ?_ ad (λx l=>[x,!p,↑l]) none rfl (λ_ _ _=>rfl) (λ_ _=>dR _) (λ_ _ _ q=>q) (λ_ _ _=>rfl) (λk=> .int (md p f k)) ?_ ?_
 .intro Q' q;rcases hx with rfl|rfl
  .simp only[aX]at q⊢;left;rw[gQ];exact q
  .left
   rw[gQ];exact q
 .intro k l Q' hk q;rw[aX2 hk]at q⊢;left;refine⟨ad,?_⟩
  rw[dZ _ hp];exact q
 .rw[cA6];exact h
theorem bP0: Ra kG y9 ["r","p"]:=by
 rintro ds Q ⟨n,f,p,rfl,hn,hp,h⟩;unfold y9;show(eJ _:US) _ [~~~aX (rwF n f),!p];rw[kK,eB,bS,eB,bS];refine dR3 _ n f p hn hp (λ_=> .non) [] _ (.inl rfl) ?_
 left
 exact⟨n,md p f,rfl,hn,h⟩
theorem aX5 {u b:∅}{U:Nat}: ∀n,(∀j,U<=j->j<n->u j=0)->U<=n-> ∀m,conv u b n m=conv u b U m
 | 0,h,h2,m=>by rw[show U=0 by lia]
 | n+1,h,h2,m=>by
  by_cases c:U=n+1
  .rw[c]
  .show conv u b n m+u n*shF b n m=_
   rw[h n ad ad,aX5 n (λj a c=>h j a ad) ad m]
   lia
theorem md_nat {p:Int}(h1:2<=p)(h2:p<200)(f:∅)(j:Nat):(md p f j).natAbs<=2^8:=by
 unfold md;have a1:=dS (f j) (show p≠0 by lia)
 have a2:=dO (f j) (show 0<p by lia)
 show _<=256
 lia
def xI:Φ:=λds Q=> ∃(n:Nat) (f:∅) (k p:Int),ds=[aX<|rwF n f,.int k,.int p]/\n<=1000/\0<=k/\k<200/\0<p/\Q (.pu<|aX<|rwF (gL (λj=>k*f j%p) n) λj=>k*f j%p)
def aC1:US:=(eJ<|aU kG<|a6 (aU iV<|a6 (gD [1] [none,some 1,none] 2 (fS<|aB 0) (dM 0) (λρ Q=>Q true ρ)<|uOp iR (aB 1)<|aB 0) aI)<|a6 (aB 2) aI)
theorem cA9: Ra xI aC1 ["f","k","p"]:=by
 rintro ds Q ⟨n,f,k,p,rfl,hn,k0,k9,hp,h⟩;unfold aC1;show(eJ _:US) _ [~~~aX (rwF n f),!k,!p];rw[kK,eB,bS,eB,bS]
 refine jJ (t0:=0) n (λi=>((rwF n f).map D.int).getD i .non) [~~~aX (rwF n f),!k,!p] ?_ ad (λx l=>[x,!k,↑l]) none rfl (λ_ _ _=>rfl) (λ_ _=>dR _) (λ_ _ _ q=>q) (λ_ _ _=>rfl) (λi=> .int (k*f i)) ?_ ?_
 .intro Q' q;simp only[aX]at q⊢;left;rw[gQ];exact q
 .intro i l Q' hk q;rw[aX2 hk]at q⊢;left;exact⟨cmL ad ad,q⟩
 .rw[cA6];left;exact⟨n,λi=>k*f i,p,rfl,hn,hp,h⟩
def tM:Φ:=λds Q=> ∃c p:Int,ds=[.int c,.int p]/\0<=c/\c<p/\2<=p/\p<200/\Q (.pu<|.int<|bH2 c p<|p.toNat-2)
def tN:US:=(aW (cE 2<|@1)<|aW (mK (pQ<|a6 (uOp M.gSub (aB 1)<|@2) aI) (dM 3)<|cE 2<|uOp kX (uOp iR (aB 2)<|aB 0)<|aB 1)<|vV 2)
theorem b93: Ra tM tN ["c","p","v","s"]:=by
 rintro ds Q ⟨c,p,rfl,c0,c1,p2,p9,h⟩;unfold tN;show(aW _ _:US) _ [!c,!p,none,none];left;refine fE (p.toNat-2) (λk=> .int (0+k)) [!c,!p,!1,none] ?_
  (λk ρ=> ∃z,ρ=[!c,!p,!bH2 c p k,z]) ⟨none,rfl⟩ ?_ ?_
 .intro Q' q;left;refine⟨⟨ad,ad⟩,?_⟩
  rw[show(p-2).toNat=p.toNat-2 by lia]
  exact q
 .rintro k ρ hk ⟨z,rfl⟩;have:=bH3 (c:=c) p2 k;left;refine⟨ae,cmL ad ad,ad,!(0+(k:Int)),?_⟩
  rw[dZ _ ad]
  rfl
 .rintro ρ ⟨z,rfl⟩;left;exact h
def tO:Φ:=λds Q=> ∃(n k d:Nat) (f g:∅) (p:Int),ds=[aX<|rwF n f,aX<|rwF k g,.int p]/\n<=50/\k<=50/\Pr p/\(∀j,k<=j->g j=0)/\d<k/\(∀j,d<j->md p g j=0)/\md p g d≠0/\
 ∀t,t*md p g d%p=1->0<=t->t<p->
  let b:=λj=>t*md p g j%p
  let LA:=gL (md p f) n
  let q:=divQ b d (LA-d) (md p f)
  let r:=divL b d (LA-d) (md p f)
  Q (.pu<|.tup [aX<|rwF (gL (λj=>t*q j%p)<|gL q<|LA-d) λj=>t*q j%p,aX<|rwF (gL (md p r)<|gL r LA)<|md p r])
def zP:US:=(eJ<|bL<|a6 (aU xI<|a6 (aB 5)<|a6 (aB 4)<|a6 (aB 2) aI)<|a6 (aU kG<|a6 (aB 6)<|a6 (aB 2) aI) aI)
def sE:US:=(aW (bD7 (aU hV<|a6 (aU kG<|a6 (aB 0)<|a6 (aB 2) aI)<|a6 (aU xI<|a6 (aB 3)<|a6 (aB 4)<|a6 (aB 2) aI) aI)<|pP<|eH 5<|eH 6 pO) zP)
def tP:US:=(aW (cE 3<|aU kG<|a6 (aB 1)<|a6 (aB 2) aI)<|aW (cE 4<|aU tM<|a6 (uIx (aQ 3)<|kD<|@1)<|a6 (aB 2) aI) sE)
theorem b94: Ra tO tP ["a","b","p","l","t","q","r"]:=by
 rintro ds Q ⟨n,k,d,f,g,p,rfl,hn,hk,pp,gz,dk,dz,d0,h⟩;have p2:=pp.lo;have p9:=pp.hi;unfold tP;show(aW _ _:US) _ [~~~aX (rwF n f),~~~aX (rwF k g),!p,none,none,none,none];have ed:gL (md p g) k=d+1:=uK ad (λm m1 m2=>dz m ad) (.inr<|by exists d0)
 have c1:=dS (g d) (show p≠0 by lia)
 have c2:=dO (g d) (show 0<p by lia)
 have c3:0<md p g d:=by
  have:md p g d=g d%p:=rfl
  lia
 have tR:=bH3 (c:=md p g d) p2 (p.toNat-2);have ht:=pp.inv _ c3 c2;generalize et:bH2 (md p g d) p (p.toNat-2)=t at tR ht;have bA: ∀j,0<=t*md p g j%p/\t*md p g j%p<p:=λj=>⟨dS _ ad,dO _ ad⟩
 have hc:gL (λj=>t*md p g j%p) (d+1)=d+1:=uK (aG _) (λm a b=>ad) (.inr (by
  show t*md p g d%p≠0
  rw[ht];decide))
 have LA9:=xF (md p f) n;have low:aX (rwF (gL (md p g) k)<|md p g)= .tup ((rwF (d+1)<|md p g).map .int):=by rw[ed];rfl
 left
 refine⟨k,g,p,rfl,ad,ad,?_⟩
 rw[low];left;rw[cA8 ad]
 left
 refine⟨md p g d,p,rfl,ad,c2,p2,p9,?_⟩
 rw[et];show sE _ [~~~aX (rwF n f),~~~aX (rwF k g),!p,~~~aX (rwF (d+1) (md p g)),!t,none,none];unfold sE;left;refine⟨n,f,p,rfl,ad,ad,?_⟩
 refine⟨d+1,md p g,t,p,rfl,ad,ad,ad,ad,?_⟩
 rw[hc];refine⟨gL (md p f) n,d,8,8,md p f,λj=>t*md p g j%p,rfl,⟨ad,ad,ht,λj hj=>by
  show t*md p g j%p=0
  rw[dz j hj,aY,dD],λm _=>md_nat p2 p9 f m,λj=>by
   have:=bA j;show(t*md p g j%p).natAbs<=256
   lia,ad,ac⟩,?_⟩
 have hh:=h t ht tR.1 tR.2;have q9:=xF (divQ (λj=>t*md p g j%p) d (gL (md p f) n-d)<|md p f) (gL (md p f) n-d)
 have r9:=xF (divL (λj=>t*md p g j%p) d (gL (md p f) n-d)<|md p f) (gL (md p f) n)
 simp only[]at hh;left;refine⟨ae,ae,trivial,?_⟩
 unfold zP;left;refine⟨_,_,t,p,rfl,ad,ad,ad,ad,?_⟩
 refine⟨_,_,p,rfl,ad,ad,?_⟩
 left
 exact⟨ac,hh⟩
theorem aX6 {tt:UT}(n:Nat)(it:Nat->D)(ρ1:Ev)(hui: ∀Q:Nat->(Nat->D)->Ev->Prop,Q n it ρ1->ui ρ Q)(hn:n<=1000)
  (G:Option B->List D->Ev) (x0:Option B) (h0:qW (wW ρ1 js) cap last=G x0 []) (h1: ∀x l b,(G x l).set t0 (some b)=G (some b) l) (h1': ∀x l,t0< (G x l).length) (h2: ∀x l (Q:List D->Prop),Q l->qC (G x l) last Q) (h3: ∀x l l',(G x l).set last (↑l')=G x l')
  (c:Nat->Bool) (f:Nat->D) (htt: ∀i l (Q':Bool->Ev->Prop),i<n->Q' (c i) (G (~~~it i) l)->tt (G (~~~it i) l) Q')
  (hte: ∀i l (Q':B->Ev->Prop),i<n->Q' (.pu<|f i) (G (~~~it i) l)->te (G (~~~it i) l) Q') (hq:Q (.ow<|((List.range n).filter c).map f) (wW ρ1 js)) :
  gD js cap last ui (dM t0) tt te ρ Q:=by
 refine hui _ ⟨λi ρ'=> ∃x,ρ'=G x (((List.range i).filter c).map f),⟨x0,h0⟩,?_,?_⟩
 .rintro i ρ' hi ⟨x,rfl⟩;refine⟨h1' _ _,?_⟩;rw[h1];right;refine htt i _ _ hi ?_
  by_cases hc:c i=true
  .rw[a8 hc];refine hte i _ _ hi (h2 _ _ _ ⟨?_,~~~it i,?_⟩)
   .rw[aF];exact lF (a07 ..) (by rw[a15];exact bI hi (aN hn ac))
   .rw[h3,gI,mS,bT];simp[hc];rfl
  .rw[a7 hc];refine⟨~~~it i,?_⟩;rw[gI,mS,bT];simp[hc]
 .rintro ρ' ⟨x,rfl⟩;exact h2 _ _ _ hq
theorem atI_in (h0:0<=k)(h1:k<ns.length): ∃z∈ns,atI (ns.map D.int) k=some (.int z):=by
 obtain⟨i,rfl⟩: ∃i:Nat,k=(i:Int):=⟨k.toNat,ad⟩
 have hi:i<ns.length:=ad
 exact⟨ns[i],bY hi,dL (by rw[bX,aO hi];rfl)⟩
nonrec def prB (i k:Nat):Bool:=if(2:Int)+(i:Int)=2+(k:Int)then true else not<|decide (((2:Int)+(i:Int))%(2+(k:Int))=0)
nonrec def prC (i:Nat):Bool:=((List.range 13).map<|prB i).all id
nonrec def prL:List Int:=((List.range 198).filter prC).map λi:Nat=>(2:Int)+(i:Int)
theorem cB0 {c p:Nat}(hp:2<=p): ∀n,bH2 (c:Int) (p:Int) n=((c^n%p:Nat):Int)
 | 0=>by
  show(1:Int)=_
  rw[Nat.pow_zero,Nat.mod_eq_of_lt ad]
  rfl
 | n+1=>by
  show bH2 (c:Int) (p:Int) n*(c:Int)%(p:Int)=_
  rw[cB0 hp n,<-a23,<-Int.natCast_emod,pow_succ,Nat.mod_mul_mod]
theorem pr_all:prL.all (λp=>decide (2<=p)&&decide (p<200)&&(List.range p.toNat).all λc=>decide (c=0)||decide (c^(p.toNat-2)%p.toNat*c%p.toNat=1))=true:=af
theorem kH {p:Int}(h:p∈prL):Pr p:=by
 have h1:=cC.mp pr_all p h;simp only[bP,cR,cC,cJ,vD]at h1;obtain⟨⟨a,b⟩,c⟩:=h1;refine⟨a,b,λx x0 x1=> ?_⟩
 obtain⟨q,rfl⟩: ∃q:Nat,p=(q:Int):=⟨p.toNat,ad⟩
 obtain⟨y,rfl⟩: ∃y:Nat,x=(y:Int):=⟨x.toNat,ad⟩
 have h2:=c y ad
 rw[jU]at h2⊢;rw[cB0 ad,<-a23,<-Int.natCast_emod]
 rcases h2 with h2|h2
 .lia
 .rw[h2];rfl
nonrec def T_SMALL_PRIMES:List Int:=[2,3,5,7,11,13,17,19,23,29,31,37,41,43,47,53,59,61,67,71,73,79,83,89,97,101,103,107,109,113,127,131,137,139,149,151,157,163,167,173,179,181,191,193,197,199]
theorem tp_ok: ∀p∈T_SMALL_PRIMES,2<=p/\p<200:=af
theorem cM4:T_SMALL_PRIMES.Pairwise (λa b=>a<b):=af
theorem bH5:T_SMALL_PRIMES.length=46:=rfl
def mJ:Φ:=λds Q=>ds=[]/\Q (.ow<|T_SMALL_PRIMES.map .int)
def qH:US:=(eJ<|aU aI1<|a6 (uC<|.tup<|T_SMALL_PRIMES.map .int) aI)
theorem aX7: Ra mJ qH []:=by
 rintro ds Q ⟨rfl,h⟩;unfold qH;show(eJ _:US) _ [];left;exact h
theorem aC2:prL=T_SMALL_PRIMES:=af
nonrec def ps (f:∅)(z:Int):∅
 | 0=>0
 | n+1=>ps f z n+f n*z^n
nonrec def hor (f:∅)(n:Nat)(z:Int):∅
 | 0=>0
 | k+1=>hor f n z k*z+f (n-1-k)
theorem dC8 (f:∅)(n:Nat)(z:Int): ∀k,k<=n->hor f n z k*z^(n-k)+ps f z (n-k)=ps f z n
 | 0,_=>by show(0:Int)*_+_=_;rw[fB,eE];rfl
 | k+1,h=>by
  have ih:=dC8 f n z k ad
  obtain⟨m,hm⟩: ∃m,n-k=m+1:=⟨n-k-1,ad⟩
  have e1:n-(k+1)=m:=ad
  have e2:n-1-k=m:=ad
  rw[hm]at ih;show(hor f n z k*z+f (n-1-k))*z^(n-(k+1))+ps f z (n-(k+1))=_;rw[e1,e2,<-ih];show _=hor f n z k*z^(m+1)+(ps f z m+f m*z^m);rw[rW,a36];have e3:hor f n z k*z*z^m=hor f n z k*(z^m*z):=by rw[gT,mW z]
  lia
theorem dR4 (f:∅)(n:Nat)(z:Int):hor f n z n=ps f z n:=by
 have:=dC8 f n z n (aG _);rw[sub_self]at this;have e:hor f n z n*z^0+ps f z 0=hor f n z n:=by
  show hor f n z n*z^0+0=_
  rw[kA,kB,eF]
 lia
theorem bV2 {f:∅}{n a b:Nat}{z:Int}(hf: ∀j,(f j).natAbs<=2^a)(hz:z.natAbs<=2^b): ∀k,(hor f n z k).natAbs<=2^(a+(b+1)*k)
 | 0=>by simp[hor]
 | k+1=>by
  show(hor f n z k*z+f (n-1-k)).natAbs<=_
  have ih:=bV2 (n:=n) hf hz k;have h1:(hor f n z k*z).natAbs<=2^(a+(b+1)*k)*2^b:=by rw[eC];exact eV ih hz
  have h2:=hf (n-1-k);have h3:=a16 (hor f n z k*z) (f<|n-1-k);have e1:2^(a+(b+1)*(k+1))=2^(a+(b+1)*k)*2^b+2^(a+(b+1)*k)*2^b:=by
   rw[mul_succ,<-vH,<-vH,pow_succ,pE 2 (a+(b+1)*k) b];lia
  have h4:2^a<=2^(a+(b+1)*k)*2^b:=by
   rw[<-pE];exact aP4 ac ad
  lia
theorem dC9 (f g:∅)(z:Int): ∀n,ps (λj=>f j+g j) z n=ps f z n+ps g z n
 | 0=>rfl
 | n+1=>by
  show ps (λj=>f j+g j) z n+(f n+g n)*z^n=ps f z n+f n*z^n+(ps g z n+g n*z^n)
  rw[dC9 f g z n,a36]
  lia
theorem dD0 (c:Int)(f:∅)(z:Int): ∀n,ps (λj=>c*f j) z n=c*ps f z n
 | 0=>by show(0:Int)=c*0;rw[aY]
 | n+1=>by
  show ps (λj=>c*f j) z n+c*f n*z^n=c*(ps f z n+f n*z^n)
  rw[dD0 c f z n,rY,gT]
theorem bH6 {f:∅}{z:Int}{n:Nat}: ∀m,n<=m->(∀j,n<=j->j<m->f j=0)->ps f z m=ps f z n
 | 0,h,_=>by rw[show n=0 by lia]
 | m+1,h,hz=>by
  by_cases c:n=m+1
  .rw[c]
  .show ps f z m+f m*z^m=_
   rw[hz m ad ad,fB,eF]
   exact bH6 m ad λj a b=>hz j a ad
theorem bV3 (b:∅)(z:Int)(U:Nat): ∀n,n<=U->ps (shF b U) z n=0
 | 0,_=>rfl
 | n+1,h=>by
  show ps (shF b U) z n+shF b U n*z^n=0
  rw[bV3 b z U n aa]
  unfold shF;rw[a7 aa,fB]
  rfl
theorem cB1 (b:∅)(z:Int)(U:Nat): ∀m,ps (shF b U) z (U+m)=z^U*ps b z m
 | 0=>by rw[Nat.add_zero,bV3 b z U U<|aG _];show(0:Int)=z^U*0;rw[aY]
 | m+1=>by
  show ps (shF b U) z (U+m)+shF b U (U+m)*z^(U+m)=z^U*(ps b z m+b m*z^m)
  rw[cB1 b z U m];unfold shF;rw[a8 ad,show U+m-U=m by lia,Int.pow_add,rY,Int.mul_left_comm]
theorem c21 {u b:∅}{z:Int}{V:Nat}(hb: ∀j,V<=j->b j=0): ∀U N,U+V<=N->ps (conv u b U) z N=ps u z U*ps b z V
 | 0,N,_=>by
  have:ps (conv u b 0) z N=0:=by
   have e:ps (conv u b 0) z N=ps (conv u b 0) z 0:=bH6 N (dI _) λ_ _ _=>rfl
   rw[e];rfl
  rw[this];show(0:Int)=0*_;rw[fB]
 | U+1,N,h=>by
  have e:conv u b (U+1)=λm=>conv u b U m+u U*shF b U m:=rfl
  rw[e,dC9 (conv u b U) λm=>u U*shF b U m,c21 hb U N ad,dD0]
  obtain⟨m,rfl⟩: ∃m,N=U+m:=⟨N-U,ad⟩
  rw[cB1,bH6 (n:=V) m ad λj a _=>hb j a]
  show _=(ps u z U+u U*z^U)*ps b z V
  rw[a36,gT<|u U]
structure HorOk (n a b:Nat)(f:∅)(z:Int):Prop where
 fb: ∀j,(f j).natAbs<=2^a
 zb:z.natAbs<=2^b
 room:a+(b+1)*n<8000
 b8:b<8000
 n9:n<=200
def qI:Φ:=λds Q=> ∃(n a b:Nat) (f:∅) (z:Int),ds=[aX<|rwF n f,.int z]/\HorOk n a b f z/\Q (.pu<|.int<|ps f z n)
def a57:US:=(aW (cE 2<|@0)<|aW (mK (cQ8<|a6 (aB 0) aI) (dM 3)<|cE 2<|uOp fH (uOp iR (aB 2)<|aB 1)<|aB 3)<|vV 2)
theorem aX8: Ra qI a57 ["f","z","v","c"]:=by
 rintro ds Q ⟨n,a,b,f,z,rfl,ok,h⟩;unfold a57;simp only[aX];show(aW _ _:US) _ [~~~.tup ((rwF n f).map .int),!z,none,none];left;refine fE n (λk=>((rwF n f).map D.int).getD (n-1-k) .non) [~~~.tup ((rwF n f).map .int),!z,!0,none] ?_
  (λk ρ=> ∃c,ρ=[~~~.tup ((rwF n f).map .int),!z,!hor f n z k,c]) ⟨none,rfl⟩ ?_ ?_
 .intro Q' q;left;rw[gQ];exact q
 .rintro k ρ hk ⟨c,rfl⟩;rw[aX2 aa]
  left
  have room:=ok.room;have:(b+1)*k<=(b+1)*n:=v6 _ aa
  exact⟨ae,.inr ⟨Sm.pow (bV2 ok.fb ok.zb k) aa,Sm.pow ok.zb (by have:=ok.b8;omega)⟩,_,rfl⟩
 .rintro ρ ⟨c,rfl⟩;left;rw[dR4];exact h
theorem cS8 (f g:∅)(n m:Nat):shF (λj=>f j+g j) n m=shF f n m+shF g n m:=by
 unfold shF;right;split<;>lia
theorem cS9 (c:Int)(f:∅)(n m:Nat):shF (λj=>c*f j) n m=c*shF f n m:=by
 unfold shF;right;split
 .rfl
 .rw[aY]
theorem dD1 (h:∅)(n k m:Nat):shF (shF h n) k m=shF h (n+k) m:=by
 unfold shF
 by_cases c:k<=m
 .rw[a8 c]
  by_cases d:n<=m-k
  .rw[a8 d,a8 ad,show m-k-n=m-(n+k)by lia]
  .rw[a7 d,a7 ad]
 .rw[a7 c,a7 ad]
theorem bV4 (f g b:∅)(m:Nat): ∀n,conv (λj=>f j+g j) b n m=conv f b n m+conv g b n m
 | 0=>rfl
 | n+1=>by
  show conv (λj=>f j+g j) b n m+(f n+g n)*shF b n m=conv f b n m+f n*shF b n m+(conv g b n m+g n*shF b n m)
  rw[bV4 f g b m n,a36]
  lia
theorem aI8 (c:Int)(f b:∅)(m:Nat): ∀n,conv (λj=>c*f j) b n m=c*conv f b n m
 | 0=>by show(0:Int)=c*0;rw[aY]
 | n+1=>by
  show conv (λj=>c*f j) b n m+c*f n*shF b n m=c*(conv f b n m+f n*shF b n m)
  rw[aI8 c f b m n,rY,gT]
theorem cB2 (f b:∅)(k m:Nat): ∀n,conv (shF f k) b (k+n) m=shF (conv f b n) k m
 | 0=>by
  have e: ∀j,j<=k->conv (shF f k) b j m=0:=by
   intro j
   induction j with
   | zero=>intro _;rfl
   | succ j ih=>
    intro hj;show conv (shF f k) b j m+shF f k j*shF b j m=0;rw[ih ad]
    unfold shF;rw[a7 ad,fB]
    rfl
  rw[Nat.add_zero,e k<|aG _];unfold shF;split<;>rfl
 | n+1=>by
  show conv (shF f k) b (k+n) m+shF f k (k+n)*shF b (k+n) m=shF (λm=>conv f b n m+f n*shF b n m) k m
  rw[cB2 f b k m n,cS8,cS9,dD1,add_comm n k]
  congr 2
  unfold shF;rw[a8 ad,show k+n-k=n by lia]
theorem bH7 {u b c:∅}{V:Nat}(hb: ∀j,V<=j->b j=0)(m:Nat): ∀U,conv u (conv b c V) U m=conv (conv u b U) c (U+V) m
 | 0=>by
  have e: ∀n,conv (conv u b 0) c n m=0:=by
   intro n
   induction n with
   | zero=>rfl
   | succ n ih=>
    show conv (conv u b 0) c n m+0*shF c n m=0
    rw[ih,fB];rfl
  rw[e];rfl
 | U+1=>by
  show conv u (conv b c V) U m+u U*shF (conv b c V) U m=conv (λm=>conv u b U m+u U*shF b U m) c (U+1+V) m
  rw[bV4,aI8,bH7 hb m U];have z1: ∀j,U+V<=j->j<U+1+V->conv u b U j=0:=λj h1 h2=>by
   have: ∀i,V<i+1->b i=0:=λi hi=>hb i ad
   by_cases v:V=0
   .subst v;have e:b=λ_=>0:=funext λj=>hb j (dI _)
    rw[e];have nul: ∀n,conv u (λ_=>0) n j=0:=by
     intro n
     induction n with
     | zero=>rfl
     | succ n ih=>
      show conv u (λ_=>0) n j+u n*shF (λ_=>0) n j=0
      rw[ih];unfold shF;split<;>rw[aY]<;>rfl
    exact nul U
   .exact pU (d:=V-1) (λi hi=>hb i ad) U j ad
  rw[aX5 (u:=conv u b U) (b:=c) (U:=U+V) (U+1+V) z1 ad]
  have z2: ∀j,U+V<=j->j<U+1+V->shF b U j=0:=λj h1 h2=>by
   unfold shF;rw[a8 ad]
   exact hb _ ad
  rw[aX5 (u:=shF b U) (b:=c) (U:=U+V) (U+1+V) z2 ad,cB2]
theorem aI9 (u f g:∅)(m:Nat): ∀n,conv u (λj=>f j+g j) n m=conv u f n m+conv u g n m
 | 0=>rfl
 | n+1=>by
  show conv u (λj=>f j+g j) n m+u n*shF (λj=>f j+g j) n m=conv u f n m+u n*shF f n m+(conv u g n m+u n*shF g n m)
  rw[aI9 u f g m n,cS8,rY]
  lia
theorem aC3 {u:∅}(c:Int)(k:Nat)(hu: ∀j,n<=j->u j=0)(m:Nat):conv u (λj=>if j=k then c else 0) n m=c*shF u k m:=by
 have e: ∀n,conv u (λj=>if j=k then c else 0) n m=if k<=m/\m-k<n then c*u (m-k)else 0:=by
  intro n
  induction n with
  | zero=>rw[a7 aa];rfl
  | succ n ih=>
   show conv u (λj=>if j=k then c else 0) n m+u n*shF (λj=>if j=k then c else 0) n m=_
   have sh:shF (λj=>if j=k then c else 0) n m=if n<=m/\m-n=k then c else 0:=by
    unfold shF;right
    by_cases h3:n<=m
    .rw[a8 h3]
     by_cases h4:m-n=k
     .rw[a8 h4,a8 ⟨h3,h4⟩]
     .rw[a7 h4,a7 λz=>h4 z.2]
    .rw[a7 h3,a7 λz=>h3 z.1]
   rw[ih,sh]
   by_cases h1:k<=m/\m-k<n
   .rw[a8 h1,a7<|show ¬(n<=m/\m-n=k)by omega,a8<|show k<=m/\m-k<n+1 by omega,aY,eF]
   .rw[a7 h1]
    by_cases h2:k<=m/\m-k=n
    .rw[a8<|show n<=m/\m-n=k by omega,a8<|show k<=m/\m-k<n+1 by omega,h2.2,eE,mW]
    .rw[a7<|show ¬(n<=m/\m-n=k)by omega,a7<|show ¬(k<=m/\m-k<n+1)by omega,aY]
     rfl
 rw[e n];unfold shF
 by_cases h1:k<=m
 .rw[a8 h1]
  by_cases h2:m-k<n
  .rw[a8 ⟨h1,h2⟩]
  .rw[a7 aa,hu _ aa,aY]
 .rw[a7 h1,a7 aa,aY]
theorem d06 {u b:∅}{V:Nat}(hu: ∀j,U<=j->u j=0)(hb: ∀j,V<=j->b j=0)(m:Nat):conv u b U m=conv b u V m:=by
 have e: ∀n,conv u b n m=conv b (λj=>if j<n then u j else 0) V m:=by
  intro n
  induction n with
  | zero=>
   have:(λj=>if j<0 then u j else 0)=λj=>if j=0 then(0:Int)else 0:=funext λj=>ae
   rw[this,aC3 0 0 hb,fB];rfl
  | succ n ih=>
   have:(λj=>if j<n+1 then u j else 0)=λj=>(if j<n then u j else 0)+(if j=n then u n else 0):=funext λj=>by
    by_cases h1:j<n
    .rw[a8 ad,a8 h1,a7 ad,eF]
    .by_cases h2:j=n
     .subst h2;rw[a8 ad,a7 h1,a8 rfl,eE]
     .rw[a7 ad,a7 h1,a7 h2];rfl
   rw[this,aI9 b (λj=>if j<n then u j else 0) λj=>if j=n then u n else 0,aC3 _ _ hb,<-ih]
   rfl
 rw[e U]
 congr 1
 funext j
 by_cases h:j<U
 .rw[a8 h]
 .rw[a7 h,hu j ad]
theorem emL (a b p:Int):a%p*b%p=a*b%p:=by rw[gU,k8,<-gU]
theorem emR (a b p:Int):a*(b%p)%p=a*b%p:=by rw[gU,k8,<-gU]
structure MP (p:Int)(n:Nat)(f:∅):Prop where
 top:f n=1
 hi: ∀j,n<j->f j=0
 rng: ∀j,0<=f j/\f j<p
theorem MP.z {p:Int}(h:MP p n f): ∀j,n+1<=j->f j=0:=λj hj=>h.hi j hj
nonrec def tm (p:Int)(a b:Nat×∅):Nat×∅:=(a.1+b.1,md p<|conv a.2 b.2 (a.1+1))
theorem cB3 {p:Int}(u b:∅)(n m:Nat):conv (md p u) b n m%p=conv u b n m%p:=aX4 (λi j=>by show u i%p*b j%p=_;rw[emL]) n m
theorem dD2 {p:Int}(u b:∅)(n m:Nat):conv u (md p b) n m%p=conv u b n m%p:=aX4 (λi j=>by show u i*(b j%p)%p=_;rw[emR]) n m
theorem MP.tm {p:Int}{a b:Nat×∅}(hp:2<=p)(ha:MP p a.1 a.2)(hb:MP p b.1 b.2):MP p (M.tm p a b).1 (M.tm p a b).2:=by
 refine⟨?_,λj hj=> ?_,λj=>⟨dS _ ad,dO _ ad⟩⟩
 .show conv a.2 b.2 (a.1+1) (a.1+b.1)%p=1
  rw[bH4 hb.hi,ha.top,hb.top];exact fN ac ad
 .show conv a.2 b.2 (a.1+1) j%p=0
  have hj':a.1+b.1<j:=hj;rw[pU (d:=b.1) hb.hi (a.1+1) j ad,dD]
theorem aC4 {p:Int}{a b c:Nat×∅}(hb: ∀j,b.1<j->b.2 j=0):tm p a (tm p b c)=tm p (tm p a b) c:=by
 refine gJ (vH _ _ _).symm (funext λm=> ?_)
 show conv a.2 (md p<|conv b.2 c.2 (b.1+1)) (a.1+1) m%p=conv (md p<|conv a.2 b.2 (a.1+1)) c.2 (a.1+b.1+1) m%p
 rw[dD2,cB3,bH7 (V:=b.1+1) (λj hj=>hb j hj) m<|a.1+1]
 rw[aX5 (u:=conv a.2 b.2 (a.1+1)) (b:=c.2) (U:=a.1+b.1+1) (a.1+1+(b.1+1)) (λj h1 h2=>pU (d:=b.1) hb (a.1+1) j ad) ad]
theorem a58 {p:Int}{a b:Nat×∅}(ha: ∀j,a.1<j->a.2 j=0)(hb: ∀j,b.1<j->b.2 j=0):tm p a b=tm p b a:=by
 refine gJ (add_comm _ _) (funext λm=> ?_)
 show conv a.2 b.2 (a.1+1) m%p=conv b.2 a.2 (b.1+1) m%p
 rw[d06 (U:=a.1+1) (V:=b.1+1) (λj hj=>ha j hj) λj hj=>hb j hj]
nonrec def i8:Nat×∅:=(0,λj=>if j=0 then 1 else 0)
theorem MP.one {p:Int}(hp:2<=p):MP p i8.1 i8.2:=⟨rfl,λj hj=>a7 (by have:0<j:=hj;lia),λj=>by show 0<=(if j=0 then(1:Int)else 0)/\(if j=0 then(1:Int)else 0)<p;split<;>lia⟩
theorem b39 {p:Int}{a:Nat×∅}(ha:MP p a.1 a.2):tm p i8 a=a:=by
 refine gJ (Nat.zero_add _) (funext λm=> ?_)
 show(0+(if(0:Nat)=0 then(1:Int)else 0)*shF a.2 0 m)%p=a.2 m
 rw[a8 rfl,vL,eE];unfold shF;rw[a8<|dI _,a33];exact fN (ha.rng m).1 (ha.rng m).2
nonrec def gP (c:Int):Nat×∅:=(1,λj=>if j=0 then c else if j=1 then 1 else 0)
theorem MP.lin {p:Int}(hp:2<=p)(h0:0<=c)(h1:c<p):MP p (gP c).1 (gP c).2:=⟨rfl,λj hj=>by
  have:1<j:=hj;show(if j=0 then c else if j=1 then 1 else 0)=0;rw[a7 ad,a7 ad],λj=>by
  show 0<=(if j=0 then c else if j=1 then 1 else 0)/\(if j=0 then c else if j=1 then 1 else 0)<p
  split
  .lia
  .split<;>lia⟩
nonrec def va (p:Int)(a:Nat×∅)(z:Int):Int:=ps a.2 z (a.1+1)%p
theorem dX7 (p:Int)(f:∅)(z:Int): ∀n,ps (md p f) z n%p=ps f z n%p
 | 0=>rfl
 | n+1=>by
  show(ps (md p f) z n+f n%p*z^n)%p=(ps f z n+f n*z^n)%p
  rw[jA,dX7 p f z n,emL,<-jA]
theorem dD3 {p:Int}{a b:Nat×∅}(hb: ∀j,b.1<j->b.2 j=0)(z:Int):va p (tm p a b) z=va p a z*va p b z%p:=by
 show ps (md p<|conv a.2 b.2 (a.1+1)) z (a.1+b.1+1)%p=ps a.2 z (a.1+1)%p*(ps b.2 z (b.1+1)%p)%p
 rw[dX7,<-gU];have h:=c21 (u:=a.2) (b:=b.2) (z:=z) (V:=b.1+1) (λj hj=>hb j hj) (a.1+1) (a.1+1+(b.1+1)) (aG _)
 rw[<-h,bH6 (n:=a.1+b.1+1) (a.1+1+(b.1+1)) ad λj h1 h2=>pU (d:=b.1) hb (a.1+1) j ad]
nonrec def hqA (c:Int)(f:∅)(n:Nat):∅
 | 0=>f n
 | k+1=>f (n-1-k)-c*hqA c f n k
nonrec def hq (c:Int)(f:∅)(n:Nat):∅:=λj=>if j<n then hqA c f n (n-1-j)else 0
theorem cT0 (hf: ∀j,n<j->f j=0)(j:Nat)(hj:1<=j):f j=hq c f n (j-1)+c*hq c f n j:=by
 unfold hq
 by_cases h1:j<n
 .rw[a8<|show j-1<n by lia,a8 h1,show n-1-(j-1)=(n-1-j)+1 by lia]
  show f j=f (n-1-(n-1-j))-c*hqA c f n (n-1-j)+c*hqA c f n (n-1-j)
  rw[show n-1-(n-1-j)=j by lia]
  lia
 .by_cases h2:j=n
  .subst h2;rw[a8<|show j-1<j by lia,a7 h1,show j-1-(j-1)=0 by lia,aY,eF]
   rfl
  .rw[a7<|show ¬j-1<n by lia,a7 h1,hf j ad,aY]
   rfl
theorem dX8 {c:Int}{f:∅}{n:Nat}(hf: ∀j,n<j->f j=0): ∀m,ps f (-c) (m+1)=f 0-c*hq c f n 0+c*hq c f n m*(-c)^m
 | 0=>by
  show 0+f 0*(-c)^0=_
  rw[kA,kB,kB]
  lia
 | m+1=>by
  show ps f (-c) (m+1)+f (m+1)*(-c)^(m+1)=_
  rw[dX8 hf m,cT0 (c:=c) hf (m+1) ad,jT,rW]
  grind
theorem hq_at (hf: ∀j,n<j->f j=0):ps f (-c) (n+1)=f 0-c*hq c f n 0:=by
 rw[dX8 hf n];have:hq c f n n=0:=by unfold hq;rw[a7<|dU _]
 rw[this,aY,fB,eF]
theorem aX9 {u:∅}(c:Int)(hu: ∀j,n<=j->u j=0)(m:Nat):conv u (gP c).2 n m=c*u m+(if m=0 then 0 else u (m-1)):=by
 have e:(gP c).2=λj=>(if j=0 then c else 0)+(if j=1 then 1 else 0):=funext λj=>by
  show(if j=0 then c else if j=1 then 1 else 0)=_
  by_cases h0:j=0
  .subst h0;simp
  .rw[a7 h0,a7 h0,eE]
 rw[e,aI9 u (λj=>if j=0 then c else 0) λj=>if j=1 then 1 else 0,aC3 c 0 hu,aC3 1 1 hu,vL]
 unfold shF;rw[a8<|dI _,a33]
 congr 1
 by_cases h0:m=0
 .rw[a8 h0,a7 ad]
 .rw[a7 h0,a8 ad]
theorem dR5 (hf: ∀j,n<j->f j=0)(m:Nat):f m=conv (hq c f n) (gP c).2 n m+(if m=0 then f 0-c*hq c f n 0 else 0):=by
 rw[aX9 c (λj hj=>by unfold hq;rw[a7 ad])]
 by_cases h0:m=0
 .subst h0;rw[a8 rfl,a8 rfl];lia
 .rw[a7 h0,a7 h0,cT0 (c:=c) hf m ad];lia
nonrec def powT (p:Int)(a g:Nat×∅):Nat->Nat×∅
 | 0=>a
 | k+1=>tm p (powT p a g k) g
theorem MP.powT {p:Int}{a g:Nat×∅}(hp:2<=p)(ha:MP p a.1 a.2)(hg:MP p g.1 g.2): ∀k,MP p (M.powT p a g k).1 (M.powT p a g k).2
 | 0=>ha
 | k+1=>MP.tm hp (MP.powT hp ha hg k) hg
theorem oJ (p:Int)(a g:Nat×∅): ∀k,(powT p a g k).1=a.1+g.1*k
 | 0=>rfl
 | k+1=>by
  show(powT p a g k).1+g.1=_
  rw[oJ p a g k,mul_succ,vH]
nonrec def allT (p:Int)(a:Nat×∅):List ((Nat×∅)×Nat)->Nat×∅
 | []=>a
 | x::l=>allT p (powT p a x.1 x.2) l
theorem n8 (p:Int): ∀(l m:List ((Nat×∅)×Nat)) (a:Nat×∅),allT p a (l++m)=allT p (allT p a l) m
 | [],m,a=>rfl
 | x::l,m,a=>n8 p l m _
theorem MP.allT {p:Int}(hp:2<=p): ∀(l:List ((Nat×∅)×Nat)) {a:Nat×∅},MP p a.1 a.2->(∀x∈l,MP p x.1.1 x.1.2)->MP p (M.allT p a l).1 (M.allT p a l).2
 | [],a,ha,_=>ha
 | x::l,a,ha,h=>MP.allT hp l (MP.powT hp ha (h x<|.head _) x.2) λy hy=>h y (.tail _ hy)
theorem cB4 (p:Int): ∀(l:List ((Nat×∅)×Nat)) (a:Nat×∅) (x:(Nat×∅)×Nat),x∈l->a.1+x.1.1*x.2<=(allT p a l).1
 | y::l,a,x,hx=>by
  show _<=(allT p (powT p a y.1 y.2) l).1
  have mono: ∀(l:List ((Nat×∅)×Nat)) (a:Nat×∅),a.1<=(allT p a l).1:=by
   intro l
   induction l with
   | nil=>intro a;exact aG _
   | cons z l ih=>intro a;exact aN (by rw[oJ];lia) (ih<|powT p a z.1 z.2)
  rcases aT.mp hx with rfl|hx
  .have:=mono l (powT p a x.1 x.2);rw[oJ]at this;exact this
  .have:=cB4 p l (powT p a y.1 y.2) x hx;rw[oJ]at this
   lia
nonrec def aC5 (x:(Nat×∅)×Nat):D:= .tup [aX<|rwF (x.1.1+1) x.1.2,.int (x.2:Int)]
nonrec def lnP (x:Int×Nat):(Nat×∅)×Nat:=(gP x.1,x.2)
structure LK (p:Int)(F:Nat×∅)(C:Nat)(cs:List (Int×Nat))(L:Nat×∅):Prop where
 prod:F=tm p (allT p i8<|cs.map lnP) L
 mp:MP p L.1 L.2
 asc:cs.Pairwise λa b=>a.1<b.1
 mem: ∀x∈cs,0<=x.1/\x.1< (C:Int)/\1<=x.2
 nr: ∀c:Nat,c<C->va p L (-(c:Int))≠0
 len:cs.length<=C
theorem cT1 {p:Int}(hp:2<=p){cs:List (Int×Nat)}(h: ∀x∈cs,0<=x.1/\x.1<p): ∀y∈cs.map lnP,MP p y.1.1 y.1.2:=by
 intro y hy;obtain⟨x,hx,rfl⟩:=cD.mp hy;exact MP.lin hp (h x hx).1 (h x hx).2
def wC:Φ:=λds Q=> ∃(n:Nat) (f:∅) (p:Int),ds=[aX<|rwF (n+1) f,.int p]/\n<=40/\Pr p/\MP p n f/\ ∀cs L,LK p (n,f) p.toNat cs L->Q (.pu<|.tup [.lst<|cs.map λx=>aC5 (lnP x),aX<|rwF (L.1+1) L.2])
def a85:US:=(eJ<|bL<|a6 (aB 2)<|a6 (aB 3) aI)
def a86:US:=(aW (mK (pQ<|a6 (aB 1) aI) (dM 4)<|aW (cE 5<|@0)<|aW (bY8 (dF<|uOp (hG false) (uOp kX (aU qI<|a6 (aB 3)<|a6 (kD<|aB 4) aI)<|aB 1)<|@0)<|aW (cE 3<|uIx (uV<|aU tO<|a6 (aB 3)<|a6 (bL<|a6 (aB 4)<|a6 @1 aI)<|a6 (aB 1) aI)<|@0)<|c77 5 (gI2 λi j Q=>Q (.pu<|.int<|i+j))<|@1)<|fU (dF<|uOp (sA λi j=>decide (j<i)) (aB 5)<|@0) (aR7 2<|bL<|a6 (bL<|a6 (aB 4)<|a6 @1 aI)<|a6 (aB 5) aI) dG) a85)
def a87:US:=(aW (cE 3<|aB 0) a86)
def wD:US:=(aW (cE 2<|dY aI) a87)
theorem dD4 {p:Int}(pp:Pr p){L:Nat×∅}(mp:MP p L.1 L.2)(c0:0<=c)(c1:c<p)(hz:va p L (-c)=0){t:Int}(ht:t*md p (gP c).2 1%p=1)(t0:0<=t)(t1:t<p) :
  1<=L.1/\ ∃u:∅,MP p (L.1-1) u/\L=tm p (L.1-1,u) (gP c)/\
   (let b:=λj=>t*md p (gP c).2 j%p
    let LA:=gL (md p L.2) (L.1+1)
    let q:=divQ b 1 (LA-1) (md p L.2)
    rwF (gL (λj=>t*q j%p)<|gL q<|LA-1) (λj=>t*q j%p)=rwF L.1 u):=by
 have p2:=pp.lo;have mdL:md p L.2=L.2:=funext λj=>fN (mp.rng j).1 (mp.rng j).2
 have ml:=MP.lin p2 c0 c1;have mdG:md p (gP c).2=(gP c).2:=funext λj=>fN (ml.rng j).1 (ml.rng j).2
 have l1:1<=L.1:=by
  refine Nat.pos_of_ne_zero λz=> ?_
  unfold va at hz;rw[z]at hz;have e:ps L.2 (-c) (0+1)=L.2 0*(-c)^0:=by show 0+L.2 0*(-c)^0=_;lia
  have e2:L.2 0=1:=by have:=mp.top;rw[z]at this;exact this
  rw[e,e2,kA,kB,fN ac ad]at hz
  cases hz
 have r0:(L.2 0-c*hq c L.2 L.1 0)%p=0:=by rw[<-hq_at mp.hi];exact hz
 have fm: ∀m,L.2 m=conv (md p<|hq c L.2 L.1) (gP c).2 L.1 m%p:=λm=>by
  have h:=dR5 (c:=c) mp.hi m;rw[cB3];have e:L.2 m%p=L.2 m:=fN (mp.rng m).1 (mp.rng m).2;rw[<-e]
  conv=>lhs;rw[h]
  by_cases h0:m=0
  .rw[a8 h0,jA,r0,eF,k8]
  .rw[a7 h0,eF]
 have ut:md p (hq c L.2 L.1) (L.1-1)=1:=by
  show hq c L.2 L.1 (L.1-1)%p=1
  unfold hq;rw[a8 ad,sub_self]
  show L.2 L.1%p=1
  rw[mp.top];exact fN ac ad
 have uz: ∀j,L.1<=j->md p (hq c L.2 L.1) j=0:=λj hj=>by
  show hq c L.2 L.1 j%p=0
  unfold hq;rw[a7 ad,dD]
 have ur: ∀j,0<=md p (hq c L.2 L.1) j/\md p (hq c L.2 L.1) j<p:=λj=>⟨dS _ ad,dO _ ad⟩
 refine⟨l1,md p<|hq c L.2 L.1,⟨ut,λj hj=>uz j ad,ur⟩,?_,?_⟩
 .refine gJ (show L.1=L.1-1+1 by lia) (funext λm=> ?_)
  show L.2 m=conv (md p<|hq c L.2 L.1) (gP c).2 (L.1-1+1) m%p
  rw[show L.1-1+1=L.1 by lia]
  exact fm m
 .have mm:=dC7 (p:=p) (t:=t) (B0:=md p (gP c).2) (u:=md p (hq c L.2 L.1)) (low:=λ_=>0) (A:=md p L.2) (d:=1) (U:=L.1) (n:=L.1+1) p2 (λj hj=>by rw[mdG];exact ml.hi j hj) (.inr (by rw[ut];decide)) ur uz (λ_ _=>rfl) (λ_=>⟨ac,ad⟩) ht (λm=>by rw[mdL,mdG,eF];exact fm m) (aG _)
  obtain⟨_,e1,_,_⟩:=mm;have eLA:gL (md p L.2) (L.1+1)=L.1+1:=uK (aG _) (λm h1 h2=>ad) (.inr (by rw[mdL,jT,mp.top];decide))
  rw[eLA]at e1⊢;have eu:(λj=>t*divQ (λj=>t*md p (gP c).2 j%p) 1 (L.1+1-1) (md p L.2) j%p)=md p (hq c L.2 L.1):=funext e1
  right;rw[eu];have eq:gL (divQ (λj=>t*md p (gP c).2 j%p) 1 (L.1+1-1)<|md p L.2) (L.1+1-1)=L.1:=by
   rw[jT];refine uK (aG _) (λm h1 h2=>ad) (.inr λz=> ?_)
   have h:=e1 (L.1-1);rw[jT]at h;rw[z,aY,dD,ut]at h;cases h
  rw[eq,uK (k:=L.1) (aG _) (λm h1 h2=>ad)<|.inr (by rw[ut];decide)]
theorem dD5 {p:Int}{a b:Nat×∅}(hb: ∀j,b.1<j->b.2 j=0){z:Int}(h:va p (tm p a b) z≠0):va p a z≠0/\va p b z≠0:=by
 rw[dD3 hb]at h;refine⟨λe=>h ?_,λe=>h ?_⟩
 .rw[e,fB,dD]
 .rw[e,aY,dD]
theorem dD6 {p:Int}(pp:Pr p)(h:MP p n f)(j:Nat):(f j).natAbs<=2^8:=by
 have h1:=h.rng j;have h2:=pp.hi;have:(2:Nat)^8=256:=rfl
 lia
theorem bH8: Ra wC wD ["f","p","a","l","c","o"]:=by
 rintro ds Q ⟨n,f,p,rfl,n4,pp,mp,h⟩;have p2:=pp.lo;have p3:=pp.hi;unfold wD;show(aW _ _:US) _ [~~~aX (rwF (n+1) f),!p,none,none,none,none];rw[aP];left;refine⟨ac,?_⟩
 unfold a87;rw[aP];left;unfold a86;rw[aP];refine fE p.toNat (λi=> .int (0+i)) [~~~aX (rwF (n+1) f),!p,↑[],~~~aX (rwF (n+1) f),none,none] ?_
  (λi ρ=> ∃(cs:List (Int×Nat)) (L:Nat×∅) (x y:Option B),ρ=[~~~aX (rwF (n+1) f),!p,some<|.ow<|cs.map λx=>aC5 (lnP x),~~~aX (rwF (L.1+1) L.2),x,y]/\LK p (n,f) i cs L)
  ⟨[],(n,f),none,none,rfl,(b39 (p:=p) (a:=(n,f)) mp).symm,mp,.nil,ae,ae,aG _⟩ ?_ ?_
 .intro Q' q;left;refine⟨⟨ad,ad⟩,?_⟩
  exact q
 .rintro i ρ hi ⟨cs,L,x,y,rfl,lk⟩;have hLn:L.1<=n:=by
   have:=bO Prod.fst lk.prod;have e:n=(allT p i8<|cs.map lnP).1+L.1:=this
   lia
  have mcs:=cT1 p2 (cs:=cs) (λx hx=>⟨(lk.mem x hx).1,by have:=(lk.mem x hx).2.1;lia⟩)
  have mA:=MP.allT p2 (cs.map lnP) (MP.one p2) mcs;have mlin:=MP.lin p2 (c:=(i:Int)) ad ad
  rw[eE];left;refine⟨ae,?_⟩
  refine⟨λk ρ=> ∃(o:Nat) (L':Nat×∅),ρ=[~~~aX (rwF (n+1) f),!p,some<|.ow<|cs.map λx=>aC5 (lnP x),~~~aX (rwF (L'.1+1) L'.2),!(i:Int),!(o:Int)]/\k=L'.1/\L'.1<=n/\(n,f)=tm p (powT p (allT p i8<|cs.map lnP) (gP (i:Int)) o) L'/\MP p L'.1 L'.2/\ ∀c:Nat,c<i->va p L' (-(c:Int))≠0,⟨L.1,0,L,rfl,rfl,hLn,lk.prod,lk.mp,lk.nr⟩,?_⟩
  rintro k ρ ⟨o,L',rfl,rfl,hL',e,mp',nr⟩;left;refine⟨L'.1+1,8,8,L'.2,-(i:Int),rfl,⟨dD6 pp mp',by have:(2:Nat)^8=256:=rfl;lia,ad,ac,ad⟩,?_⟩
  left
  refine⟨ad,?_⟩
  rw[dZ _ ad]
  by_cases c:va p L' (-(i:Int))=0
  .rw[a8<|show ps L'.2 (-(i:Int)) (L'.1+1)%p=0 from c]
   refine⟨ac,L'.1+1,2,1,L'.2,(gP (i:Int)).2,p,rfl,ad,ac,pp,λj hj=>mlin.hi j hj,ac,λj hj=>by show(gP (i:Int)).2 j%p=0;rw[mlin.hi j hj,dD],by show(1:Int)%p≠0;rw[fN ac ad];decide,λt ht t0 t1=> ?_⟩
   obtain⟨l1,u,mu,eu,er⟩:=dD4 pp mp' (c:=(i:Int)) ad ad c ht t0 t1
   dsimp only at er⊢;rw[er,aW9];right;have eL:rwF L'.1 u=rwF (L'.1-1+1) u:=by rw[show L'.1-1+1=L'.1 by lia]
   rw[eL];refine⟨L'.1-1,ad,o+1,(L'.1-1,u),by rw[Int.natCast_succ],rfl,by show L'.1-1<=n;lia,?_,mu,λc' hc'=> ?_⟩
   .show(n,f)=tm p (tm p (powT p (allT p i8<|cs.map lnP) (gP (i:Int)) o)<|gP (i:Int)) (L'.1-1,u)
    rw[e]
    conv=>lhs;rw[eu]
    rw[a58 (a:=(L'.1-1,u)) (λj hj=>mu.hi j hj) mlin.hi,aC4 mlin.hi]
   .have:=nr c' hc';rw[eu]at this;exact(dD5 mlin.hi this).1
  .rw[a7<|show ¬ps L'.2 (-(i:Int)) (L'.1+1)%p=0 from c]
   have nr': ∀c:Nat,c<i+1->va p L' (-(c:Int))≠0:=λc' hc'=>by
    by_cases h1:c'<i
    .exact nr c' h1
    .rw[show c'=i by lia];exact c
   by_cases c2:(0:Int)< (o:Int)
   .rw[a8 c2];refine⟨ac,ac,?_,cs++[((i:Int),o)],L',_,_,by rw[bT];rfl,?_,mp',?_,?_,nr',?_⟩
    .rw[aF];exact lF lk.len (bI hi<|aN (show p.toNat<=200 by lia) ac)
    .rw[bT,n8];exact e
    .rw[uZ];refine⟨lk.asc,uW _ _,λa ha b hb=> ?_⟩
     rw[eQ.mp hb];exact(lk.mem a ha).2.1
    .intro z hz;rcases bG.mp hz with hz|hz
     .have:=lk.mem z hz;exact⟨this.1,ad,this.2.2⟩
     .rw[eQ.mp hz];exact⟨by show(0:Int)<=(i:Int);lia,by show(i:Int)< ((i+1:Nat):Int);lia,by show 1<=o;lia⟩
    .rw[cI];exact Nat.succ_le_succ lk.len
   .rw[a7 c2];have o0:o=0:=ad
    subst o0;exact⟨cs,L',_,_,rfl,e,mp',lk.asc,λz hz=>⟨(lk.mem z hz).1,by have:=(lk.mem z hz).2.1;lia,(lk.mem z hz).2.2⟩,nr',a13 lk.len⟩
 .rintro ρ ⟨cs,L,x,y,rfl,lk⟩;right;unfold a85;left;exact⟨ac,h cs L lk⟩
nonrec def quF (v u:Int):Nat×∅:=(2,λj=>if j=0 then v else if j=1 then u else if j=2 then 1 else 0)
theorem MP.qu {p:Int}(hp:2<=p)(v0:0<=v)(v1:v<p)(u0:0<=u)(u1:u<p):MP p (quF v u).1 (quF v u).2:=⟨rfl,λj hj=>by
  have:2<j:=hj;show(if j=0 then v else if j=1 then u else if j=2 then 1 else 0)=0;rw[a7 ad,a7 ad,a7 ad],λj=>by
  show 0<=(if j=0 then v else if j=1 then u else if j=2 then 1 else 0)/\(if j=0 then v else if j=1 then u else if j=2 then 1 else 0)<p
  split
  .lia
  .split
   .lia
   .split<;>lia⟩
theorem c22 (v u w s:Int):conv (quF v u).2 (quF w s).2 3 0=v*w/\conv (quF v u).2 (quF w s).2 3 1=v*s+u*w/\conv (quF v u).2 (quF w s).2 3 2=v+u*s+w/\conv (quF v u).2 (quF w s).2 3 3=u+s:=by
 refine⟨?_,?_,?_,?_⟩<;>simp[conv,shF,quF]
theorem dX9 {p:Int}(mp:MP p 4 f)(m1:MP p (quF v u).1 (quF v u).2)(m2:MP p (quF w s).1 (quF w s).2)(hp:2<=p) :
  ((4,f):Nat×∅)=tm p (quF v u) (quF w s)↔f 0=v*w%p/\f 1=(v*s+u*w)%p/\f 2=(v+u*s+w)%p/\f 3=(u+s)%p:=by
 obtain⟨e0,e1,e2,e3⟩:=c22 v u w s;have mt:=MP.tm hp m1 m2;constructor
 .intro e;have h: ∀m,f m=conv (quF v u).2 (quF w s).2 3 m%p:=λm=>congrFun (bO Prod.snd e) m
  exact⟨by rw[h 0,e0],by rw[h 1,e1],by rw[h 2,e2],by rw[h 3,e3]⟩
 .rintro⟨h0,h1,h2,h3⟩;refine gJ rfl (funext λm=> ?_)
  show f m=conv (quF v u).2 (quF w s).2 3 m%p
  match m with
  | 0=>rw[h0,e0]
  | 1=>rw[h1,e1]
  | 2=>rw[h2,e2]
  | 3=>rw[h3,e3]
  | 4=>exact mp.top.trans mt.top.symm
  | m+5=>exact(mp.hi _ ad).trans (mt.hi (m+5)<|show 2+2<m+5 by lia).symm
def NoQ (p:Int)(F:Nat×∅):Prop:= ∀v u w s:Int,0<=v->v<p->0<=u->u<p->0<=w->w<p->0<=s->s<p->F≠tm p (quF v u) (quF w s)
def tQ:Φ:=λds Q=> ∃(f:∅) (p:Int),ds=[aX<|rwF 5 f,.int p]/\Pr p/\MP p 4 f/\
 (∀v u w s:Int,0<=v->v<p->0<=u->u<p->0<=w->w<p->0<=s->s<p->((4,f):Nat×∅)=tm p (quF v u) (quF w s)->Q (.ow [aX [v,u,1],aX [w,s,1]]))/\(NoQ p (4,f)->Q (.ow []))
def zQ:US:=(eJ<|dY aI)
def tT:US:=(aW (mK (pQ<|a6 (aB 1) aI) (dM 2)<|aW (cE 3<|uOp kX (uOp M.gSub (uIx (aQ 0)<|@3)<|aB 2)<|aB 1)<|aW (cE 4<|uOp M.gSub (uIx (aQ 0)<|@2)<|uOp iR (aB 2)<|aB 3)<|mK (pQ<|a6 (aB 1) aI) (dM 5)<|aW (cE 6<|uOp kX (uOp M.gSub (aB 4)<|aB 5)<|aB 1)<|fU (c75 (dF<|uOp (hG false) (uOp kX (uOp iR (aB 5)<|aB 6)<|aB 1)<|uIx (aQ 0)<|@0)<|dF<|uOp (hG false) (uOp kX (uOp fH (uOp iR (aB 2)<|aB 6)<|uOp iR (aB 5)<|aB 3)<|aB 1)<|uIx (aQ 0)<|@1) (eJ<|dY<|a6 (bL<|a6 (aB 5)<|a6 (aB 2)<|a6 @1 aI)<|a6 (bL<|a6 (aB 6)<|a6 (aB 3)<|a6 @1 aI) aI) dG) zQ)
def d07 (p:Int)(f:∅)(u v:Int):Prop:=v*((f 2-u*((f 3-u)%p)-v)%p)%p=f 0/\(u*((f 2-u*((f 3-u)%p)-v)%p)+v*((f 3-u)%p))%p=f 1
theorem cB5 {p:Int}(h0:0<=a)(h1:a<p)(h:x=(a+b)%p):(x-b)%p=a:=by
 rw[h,vJ,k8,<-vJ,Int.add_sub_cancel];exact fN h0 h1
theorem b95: Ra tQ tT ["f","p","u","s","t","v","w"]:=by
 rintro ds Q ⟨f,p,rfl,pp,mp,yes,no⟩;have p2:=pp.lo;have p3:=pp.hi;have a0:atI ((rwF 5 f).map D.int) 0=some (.int<|f 0):=b37 (i:=0) ac
 have a1:atI ((rwF 5 f).map D.int) 1=some (.int<|f 1):=b37 (i:=1) ac
 have a2:atI ((rwF 5 f).map D.int) 2=some (.int<|f 2):=b37 (i:=2) ac
 have a3:atI ((rwF 5 f).map D.int) 3=some (.int<|f 3):=b37 (i:=3) ac
 unfold tT;simp only[aX];show(aW _ _:US) _ [~~~.tup ((rwF 5 f).map .int),!p,none,none,none,none,none];rw[aP];refine fE p.toNat (λi=> .int (0+i)) [~~~.tup ((rwF 5 f).map .int),!p,none,none,none,none,none] ?_
  (λi ρ=> ∃x y z a b,ρ=[~~~.tup ((rwF 5 f).map .int),!p,x,y,z,a,b]/\ ∀u v:Nat,u<i->v<p.toNat-> ¬d07 p f (u:Int) (v:Int))
  ⟨none,none,none,none,none,rfl,λu v hu=>ad⟩ ?_ ?_
 .intro Q' q;left;refine⟨⟨ad,ad⟩,?_⟩
  exact q
 .rintro i ρ hi ⟨x,y,z,a,b,rfl,nh⟩;rw[eE];left;rw[a3];right;refine⟨ae,ad,?_⟩
  rw[dZ _ ad,a2]
  right;have s0:=dS (f 3-(i:Int)) (show p≠0 by lia)
  have s1:=dO (f 3-(i:Int)) (show 0<p by lia)
  generalize hS:(f 3-(i:Int))%p=S at *;refine⟨cmL ad ad,?_⟩
  refine fE p.toNat (λi=> .int (0+i)) [~~~.tup ((rwF 5 f).map .int),!p,!(i:Int),!S,!(f 2-(i:Int)*S),a,b] ?_
   (λj ρ=> ∃a b,ρ=[~~~.tup ((rwF 5 f).map .int),!p,!(i:Int),!S,!(f 2-(i:Int)*S),a,b]/\ ∀v:Nat,v<j-> ¬d07 p f (i:Int) (v:Int))
   ⟨a,b,rfl,λv hv=>ad⟩ ?_ ?_
  .intro Q' q;left;refine⟨⟨ad,ad⟩,?_⟩
   exact q
  .rintro j ρ hj ⟨a,b,rfl,nj⟩;rw[eE];left;refine⟨ae,ad,?_⟩
   rw[dZ _ ad]
   have w0:=dS (f 2-(i:Int)*S-(j:Int)) (show p≠0 by lia)
   have w1:=dO (f 2-(i:Int)*S-(j:Int)) (show 0<p by lia)
   generalize hW:(f 2-(i:Int)*S-(j:Int))%p=W at *;refine⟨cmL ad ad,ad,?_⟩
   rw[dZ _ ad,a0]
   right
   have step: ¬d07 p f (i:Int) (j:Int)-> ∃a b,[some<|B.pu<|.tup<|(rwF 5 f).map .int,!p,!(i:Int),!S,!(f 2-(i:Int)*S),!(j:Int),!W]=[~~~.tup ((rwF 5 f).map .int),!p,!(i:Int),!S,!(f 2-(i:Int)*S),a,b]/\ ∀v:Nat,v<j+1-> ¬d07 p f (i:Int) (v:Int):=λnh'=>⟨_,_,rfl,λv hv=>by
    by_cases h1:v<j
    .exact nj v h1
    .rw[show v=j by lia];exact nh'⟩
   by_cases c1:(j:Int)*W%p=f 0
   .rw[a8 c1];refine⟨cmL ad ad,cmL ad ad,ad,?_⟩
    rw[dZ _ ad,a1]
    right
    by_cases c2:((i:Int)*W+(j:Int)*S)%p=f 1
    .rw[a8 c2];refine⟨ac,ac,ac,yes (j:Int) (i:Int) W S ad ad ad ad w0 w1 s0 s1<|(dX9 mp (MP.qu p2 ad ad ad ad) (MP.qu p2 w0 w1 s0 s1) p2).mpr ⟨c1.symm,by rw[<-c2,a34],?_,?_⟩⟩
     .rw[<-hW,jA,k8,<-jA];have:(j:Int)+(i:Int)*S+(f 2-(i:Int)*S-(j:Int))=f 2:=ad
      rw[this];exact(fN (mp.rng 2).1 (mp.rng 2).2).symm
     .rw[<-hS,jA,k8,<-jA];have:(i:Int)+(f 3-(i:Int))=f 3:=ad
      rw[this];exact(fN (mp.rng 3).1 (mp.rng 3).2).symm
    .rw[a7 c2];exact step λz=>c2 (by have:=z.2;unfold d07 at z;rw[hS,hW]at this;exact this)
   .rw[a7 c1];exact step λz=>c1 (by have:=z.1;rw[hS,hW]at this;exact this)
  .rintro ρ ⟨a,b,rfl,nj⟩;refine⟨_,_,_,_,_,rfl,λu v hu hv=> ?_⟩
   by_cases h1:u<i
   .exact nh u v h1 hv
   .rw[show u=i by lia];exact nj v hv
 .rintro ρ ⟨x,y,z,a,b,rfl,nh⟩;right;unfold zQ;left;refine⟨ac,no ?_⟩
  intro v u w s v0 v1 u0 u1 w0 w1 s0 s1 e;obtain⟨h0,h1,h2,h3⟩:=(dX9 mp (MP.qu p2 v0 v1 u0 u1) (MP.qu p2 w0 w1 s0 s1) p2).mp e;obtain⟨v',rfl⟩: ∃v':Nat,v=(v':Int):=⟨v.toNat,ad⟩
  obtain⟨u',rfl⟩: ∃u':Nat,u=(u':Int):=⟨u.toNat,ad⟩
  refine nh u' v' ad ad ?_
  have es:(f 3-(u':Int))%p=s:=cB5 s0 s1 (by rw[h3,a34])
  have ew:(f 2-(u':Int)*s-(v':Int))%p=w:=by
   have:=cB5 (x:=f 2) (b:=(v':Int)+(u':Int)*s) w0 w1 (by rw[h2,a34 w])
   rw[<-this]
   congr 1
   lia
  unfold d07;rw[es,ew];exact⟨h0.symm,by rw[h1,a34]⟩
theorem at0 {a b:D}:atI [a,b] 0=some a:=dL (j:=0) rfl
theorem at1 {a b:D}:atI [a,b] 1=some b:=dL (j:=1) rfl
def NoR (p:Int)(F:Nat×∅):Prop:= ∀c:Nat,c<p.toNat->va p F (-(c:Int))≠0
def ltP (x y:(Nat×∅)×Nat):Prop:=x.1.1<y.1.1\/(x.1.1=y.1.1/\ltL (rwF (x.1.1+1) x.1.2) (rwF (y.1.1+1) y.1.2)=true)
structure RL (p:Int)(F:Nat×∅)(rs:List ((Nat×∅)×Nat)):Prop where
 prod: ∀a:Nat×∅,MP p a.1 a.2->allT p a rs=tm p a F
 mem: ∀x∈rs,MP p x.1.1 x.1.2/\2<=x.1.1/\x.1.1<=4/\1<=x.2/\x.2<=2/\NoR p x.1/\(x.1.1=4->NoQ p x.1)
 ord:rs.Pairwise ltP
 len:rs.length<=2
theorem c23 {p:Int}(hp:2<=p){a:Nat×∅}(ha:MP p a.1 a.2):tm p a i8=a:=by
 rw[a58 ha.hi (MP.one hp).hi,b39 ha]
theorem RL.single {p:Int}(mp:MP p F.1 F.2)(h2:2<=F.1)(h4:F.1<=4)(nr:NoR p F)(nq:F.1=4->NoQ p F):RL p F [(F,1)]:=
 ⟨λa _=>rfl,λx hx=>by rw[eQ.mp hx];exact⟨mp,h2,h4,aG _,show 1<=2 by decide,nr,nq⟩,uW _ _,show 1<=2 by decide⟩
theorem row_lt (h: ¬(v=w/\u=s)):ltL [w,s,1] [v,u,1]=false->ltL [v,u,1] [w,s,1]=true:=by
 unfold ltL
 by_cases c:v=w
 .rw[a8 c,a8 c.symm];unfold ltL;have:u≠s:=λz=>h ⟨c,z⟩
  rw[a7 this,a7 λz=>this z.symm]
  simp only[a04,cR]
  lia
 .rw[a7 c,a7 λz=>c z.symm]
  simp only[a04,cR]
  lia
def o7:Φ:=λds Q=> ∃(n:Nat) (f:∅) (p:Int),ds=[aX<|rwF (n+1) f,.int p]/\n<=4/\Pr p/\MP p n f/\NoR p (n,f)/\ ∀rs,RL p (n,f) rs->Q (.ow<|rs.map aC5)
def tD:US:=(eJ<|gD [] [none,none] 1 (fS<|aU cK8<|a6 (aB 2) aI) (dM 0) (λρ Q=>Q true ρ)<|bL<|a6 (aB 0)<|a6 @1 aI)
def tE:US:=(aW (fU (dF<|uOp (cK3 false) (uIx (aQ 2)<|@0)<|uIx (aQ 2)<|@1) (eJ<|dY<|a6 (bL<|a6 (uIx (aQ 2)<|@0)<|a6 @2 aI) aI) dG) tD)
def jP:US:=(aW (fU (dF<|uOp (hG false) (kE<|aQ 2)<|@0) (eJ<|dY<|a6 (bL<|a6 (aB 0)<|a6 @1 aI) aI) dG) tE)
def tF:US:=(aW (cE 2<|uIf (dF<|uOp (hG false) (kE<|aQ 0)<|@5) (aU tQ<|a6 (aB 0)<|a6 (aB 1) aI)<|dY aI) jP)
def o8:US:=(aW (fU (dF<|uOp (hG false) (kE<|aQ 0)<|@1) (eJ<|dY aI) dG) tF)
theorem dD7 {p:Int}(pp:Pr p)(mp:MP p F.1 F.2)(h1:F.1=1)(nr:NoR p F):False:=by
 have p2:=pp.lo;have r:=mp.rng 0;refine nr (F.2 0).toNat ad ?_
 unfold va;rw[h1,show(((F.2 0).toNat:Nat):Int)=F.2 0 by lia]
 have t:F.2 1=1:=by have:=mp.top;rw[h1]at this;exact this
 show(0+F.2 0*(-F.2 0)^0+F.2 1*(-F.2 0)^1)%p=0
 rw[t,kA,rW,kA];have:0+F.2 0*1+1*(1* -F.2 0)=0:=ad
 rw[this,dD]
theorem aK6: Ra o7 o8 ["f","p","a"]:=by
 rintro ds Q ⟨n,f,p,rfl,n4,pp,mp,nr,h⟩;have p2:=pp.lo;unfold o8;simp only[aX];show(aW _ _:US) _ [~~~.tup ((rwF (n+1) f).map .int),!p,none];rw[aP];left;rw[gQ]
 by_cases n0:n=0
 .rw[a8 ad]
  subst n0;refine⟨ac,h [] ⟨λa ha=> ?_,ae,.nil,ac⟩⟩
  have e:((0,f):Nat×∅)=i8:=gJ rfl (funext λj=>by
   show f j=if j=0 then 1 else 0
   by_cases c:j=0
   .rw[a8 c,c];exact mp.top
   .rw[a7 c];exact mp.hi j ad)
  rw[e,c23 p2 ha];rfl
 rw[a7 ad]
 have n1:n≠1:=λz=>dD7 pp (F:=(n,f)) mp z nr
 have alone:(n=4->NoQ p (n,f))->jP {Q with} [~~~.tup ((rwF (n+1) f).map .int),!p,↑[]]:=λnq=>by
  unfold jP;rw[aP];left;rw[a8<|by rfl]
  exact⟨ac,ac,h [((n,f),1)]<|RL.single mp (by show 2<=n;lia) n4 nr nq⟩
 unfold tF;rw[aP];left;simp only[uIf,kE,aQ,bD4,uC,isB,B.d,oE,hG,uU,gQ]
 by_cases c:n=4
 .subst c;rw[a8<|by rfl]
  refine⟨f,p,rfl,pp,mp,λv u w s v0 v1 u0 u1 w0 w1 s0 s1 e=> ?_,λnq=> ?_⟩
  .have m1:=MP.qu p2 v0 v1 u0 u1;have m2:=MP.qu p2 w0 w1 s0 s1;have k1:NoR p (quF v u):=λc hc=>by have:=nr c hc;rw[e]at this;exact(dD5 m2.hi this).1
   have k2:NoR p (quF w s):=λc hc=>by have:=nr c hc;rw[e]at this;exact(dD5 m2.hi this).2
   right;simp only[aX];unfold jP;rw[aP];left;rw[a7 ac]
   unfold tE;rw[aP];left;rw[at0,at1];right;refine dC3 ?_
   by_cases c:[v,u,(1:Int)]=[w,s,1]
   .have c1:v=w:=by simp at c;exact c.1
    have c2:u=s:=by simp at c;exact c.2
    subst c1 c2;rw[bQ rfl];right;rw[a8 ac]
    refine⟨ac,ac,h [(quF v u,2)] ⟨λa ha=> ?_,λx hx=> ?_,uW _ _,show 1<=2 by decide⟩⟩
    .show tm p (tm p a<|quF v u) (quF v u)=tm p a (4,f)
     rw[e,aC4 m1.hi]
    .rw[eQ.mp hx];exact⟨m1,aG _,show 2<=4 by decide,show 1<=2 by decide,aG _,k1,λz=>by cases z⟩
   .rw[bZ c];right;rw[a7 ac]
    have nc: ¬(v=w/\u=s):=λz=>c (by rw[z.1,z.2])
    unfold tD;rw[kK];have fin2: ∀(v u w s:Int),MP p (quF v u).1 (quF v u).2->MP p (quF w s).1 (quF w s).2->NoR p (quF v u)->NoR p (quF w s)->((4,f):Nat×∅)=tm p (quF v u) (quF w s)->ltL [v,u,1] [w,s,1]=true->Q (.ow [.tup [.tup<|[v,u,1].map D.int,.int 1],.tup [.tup<|[w,s,1].map D.int,.int 1]]):=λv u w s m1 m2 k1 k2 e lt=>by
     refine h [(quF v u,1),(quF w s,1)] ⟨λa ha=> ?_,λx hx=> ?_,?_,aG _⟩
     .show tm p (tm p a<|quF v u) (quF w s)=tm p a (4,f)
      rw[e,aC4 m1.hi]
     .rcases aT.mp hx with rfl|hx
      .exact⟨m1,aG _,show 2<=4 by decide,aG _,show 1<=2 by decide,k1,λz=>by cases z⟩
      .rw[eQ.mp hx];exact⟨m2,aG _,show 2<=4 by decide,aG _,show 1<=2 by decide,k2,λz=>by cases z⟩
     .refine iJ.mpr ⟨λy hy=> ?_,uW _ _⟩
      rw[eQ.mp hy];exact .inr ⟨rfl,lt⟩
    refine jJ (t0:=0) 2 (λk=>(if ltL [w,s,1] [v,u,1]=true then [D.tup<|[w,s,1].map D.int,.tup<|[v,u,1].map D.int]else [.tup<|[v,u,1].map D.int,.tup<|[w,s,1].map D.int]).getD k .non) [~~~.tup ((rwF (4+1) f).map .int),!p,~~~.lst [.tup<|[v,u,1].map D.int,.tup<|[w,s,1].map D.int]] ?_ ac (λx l'=>[x,↑l']) none rfl (λ_ _ _=>rfl) (λ_ _=>dR _) (λ_ _ _ q=>q) (λ_ _ _=>rfl)
     (λk=> .tup [(if ltL [w,s,1] [v,u,1]=true then [D.tup<|[w,s,1].map D.int,.tup<|[v,u,1].map D.int]else [.tup<|[v,u,1].map D.int,.tup<|[w,s,1].map D.int]).getD k .non,.int 1]) ?_ ?_
    .intro Q' q;left;refine⟨v,w,[u,1],[s,1],rfl,?_⟩;cases l:ltL [w,s,1] [v,u,1]
     .rw[l]at q;exact q
     .rw[l]at q;exact q
    .intro k l' Q' hk q;left;exact⟨ac,q⟩
    .cases l:ltL [w,s,1] [v,u,1]
     .exact fin2 v u w s m1 m2 k1 k2 e (row_lt nc l)
     .exact fin2 w s v u m2 m1 k2 k1 (by rw[e,a58 m1.hi m2.hi]) l
  .exact alone λ_=>nq
 .rw[a7 (by simp;lia)]
  refine⟨ac,?_⟩
  exact alone λz=>absurd z c
structure SP (p:Int)(F:Nat×∅)(xs:List ((Nat×∅)×Nat)):Prop where
 prod:allT p i8 xs=F
 mem: ∀x∈xs,MP p x.1.1 x.1.2/\1<=x.1.1/\x.1.1<=4/\1<=x.2/\x.2<=4/\(2<=x.1.1->NoR p x.1)/\(x.1.1=4->NoQ p x.1)
 ord:xs.Pairwise ltP
 len:xs.length<=300
theorem SP.of {p:Int}(pp:Pr p){L:Nat×∅}{cs:List (Int×Nat)}{rs:List ((Nat×∅)×Nat)}(h4:F.1<=4)(lk:LK p F p.toNat cs L)(rl:RL p L rs):SP p F (cs.map lnP++rs):=by
 have p2:=pp.lo;have p3:=pp.hi;have rg: ∀x∈cs,0<=x.1/\x.1<p:=λx hx=>⟨(lk.mem x hx).1,by have:=(lk.mem x hx).2.1;lia⟩
 have mcs:=cT1 p2 rg;have mA:=MP.allT p2 (cs.map lnP) (MP.one p2) mcs;refine⟨by rw[n8,rl.prod _ mA];exact lk.prod.symm,λx hx=> ?_,?_,?_⟩
 .rcases bG.mp hx with hx|hx
  .obtain⟨y,hy,rfl⟩:=cD.mp hx;have hd:=cB4 p (cs.map lnP) i8 (lnP y) hx;have e:F.1=(allT p i8<|cs.map lnP).1+L.1:=bO Prod.fst lk.prod;have hd':0+1*y.2<=(allT p i8<|cs.map lnP).1:=hd;refine⟨mcs _ hx,aG _,show 1<=4 by decide,(lk.mem y hy).2.2,show y.2<=4 by lia,λz=> ?_,λz=> ?_⟩
   .have:2<=1:=z
    lia
   .have:1=4:=z
    lia
  .obtain⟨a,b,c,d,e,f,g⟩:=rl.mem x hx;exact⟨a,ad,c,d,ad,λ_=>f,g⟩
 .rw[uZ];refine⟨?_,rl.ord,λx hx y hy=> ?_⟩
  .rw[v9];refine lk.asc.imp λ{a b} h=> .inr ⟨rfl,?_⟩
   show ltL [a.1,1] [b.1,1]=true
   unfold ltL;rw[a7 ad,bQ h]
  .obtain⟨z,hz,rfl⟩:=cD.mp hx;have:=(rl.mem y hy).2.1;exact .inl (show 1<y.1.1 by lia)
 .have a:=lk.len;have b:=rl.len;rw[cI,aF]
  lia
def yA:Φ:=λds Q=> ∃(n:Nat) (g:∅) (p:Int),ds=[aX<|rwF (n+1) g,.int p]/\n<=4/\p∈prL/\MP p n (md p g)/\ ∀xs,SP p (n,md p g) xs->Q (.ow<|xs.map aC5)
def aC6:US:=(eJ<|uOp fH (aB 2)<|aU o7<|a6 (aB 3)<|a6 (aB 1) aI)
def aC7:US:=(aW (bD7 (aU wC<|a6 (aU kG<|a6 (aB 0)<|a6 (aB 1) aI)<|a6 (aB 1) aI)<|pP<|eH 2<|eH 3 pO) aC6)
def yB:US:=(aW (fU (dF<|uOp (gIn true) (aB 1)<|aU mJ aI) (λ_ _=>False) dG) aC7)
theorem bP1: Ra yA yB ["f","p","a","l"]:=by
 rintro ds Q ⟨n,g,p,rfl,n4,hp,mp,h⟩;have pp:=kH hp;have p2:=pp.lo;unfold yB;show(aW _ _:US) _ [~~~aX (rwF (n+1) g),!p,none,none];rw[aP];left;refine⟨rfl,p,T_SMALL_PRIMES,rfl,.inr<|.inl rfl,?_⟩;rw[bQ (show p∈T_SMALL_PRIMES by rw[<-aC2];exact hp)]
 right;rw[a7 ac]
 unfold aC7;rw[aP];left;refine⟨n+1,g,p,rfl,ad,ad,?_⟩
 left
 have e:gL (md p g) (n+1)=n+1:=uK (aG _) (λm h1 h2=>ad) (.inr (by rw[jT,mp.top];decide))
 rw[e];refine⟨n,md p g,p,rfl,ad,pp,mp,λcs L lk=> ?_⟩
 left
 refine⟨ac,ac,trivial,?_⟩
 unfold aC6;rw[kK,kF];left;have hL:L.1<=4:=by
  have e:n=(allT p i8<|cs.map lnP).1+L.1:=bO Prod.fst lk.prod
  lia
 refine⟨L.1,L.2,p,rfl,hL,pp,lk.mp,lk.nr,λrs rl=> ?_⟩
 have sp:=SP.of pp (F:=(n,md p g)) n4 lk rl;have e2:(cs.map λx=>aC5 (lnP x))++rs.map aC5=(cs.map lnP++rs).map aC5:=by rw[bT,dW];rfl
 left
 rw[e2];refine⟨?_,h _ sp⟩;rw[<-cI,e2,aF];exact aN sp.len ac
nonrec def stB (xs:List ((Nat×∅)×Nat)):Bool:=match xs with
 | [x]=>decide (x.2=1)
 | _=>false
theorem bV5 {p:Int}(hp:2<=p){g a h:Nat×∅}(ma:MP p a.1 a.2)(mh:MP p h.1 h.2): ∀k,powT p (tm p g a) h k=tm p g (powT p a h k)
 | 0=>rfl
 | k+1=>by
  show tm p (powT p (tm p g a) h k) h=tm p g (tm p (powT p a h k) h)
  rw[bV5 hp ma mh k,aC4 (MP.powT hp ma mh k).hi]
theorem zR {p:Int}(hp:2<=p){g:Nat×∅}: ∀(l:List ((Nat×∅)×Nat)) {a:Nat×∅},MP p a.1 a.2->(∀x∈l,MP p x.1.1 x.1.2)->allT p (tm p g a) l=tm p g (allT p a l)
 | [],a,_,_=>rfl
 | x::l,a,ma,h=>by
  show allT p (powT p (tm p g a) x.1 x.2) l=tm p g (allT p (powT p a x.1 x.2) l)
  rw[bV5 hp ma<|h x<|.head _,zR hp l (MP.powT hp ma (h x<|.head _) x.2) λy hy=>h y (.tail _ hy)]
theorem mp_two {p:Int}(mp:MP p F.1 F.2)(h2:F.1=2):F=quF (F.2 0) (F.2 1):=by
 refine gJ h2 (funext λj=> ?_)
 show F.2 j=if j=0 then F.2 0 else if j=1 then F.2 1 else if j=2 then 1 else 0
 by_cases c0:j=0
 .rw[a8 c0,c0]
 .by_cases c1:j=1
  .rw[a7 c0,a8 c1,c1]
  .by_cases c2:j=2
   .rw[a7 c0,a7 c1,a8 c2,c2];have:=mp.top;rw[h2]at this;exact this
   .rw[a7 c0,a7 c1,a7 c2];exact mp.hi j ad
theorem cB6 {t1:Nat}(n:Nat)(it i1 i2:Nat->D)(hit: ∀i,i<n->it i= .tup [i1 i,i2 i])(ρ1:Ev)(hui: ∀Q:Nat->(Nat->D)->Ev->Prop,Q n it ρ1->ui ρ Q)(hn:n<=1000000)
  (G:Option B->Option B->List D->Ev) (x0 y0:Option B) (h0:qW (wW ρ1 js) cap last=G x0 y0 []) (h1: ∀x y l b c,((G x y l).set t0<|some b).set t1 (some c)=G (some b) (some c) l) (h1': ∀x y l,t0< (G x y l).length/\t1< (G x y l).length)
  (h2: ∀x y l (Q:List D->Prop),Q l->qC (G x y l) last Q) (h3: ∀x y l l',(G x y l).set last (↑l')=G x y l')
  (f:Nat->D) (hte: ∀i l (Q':B->Ev->Prop),i<n->Q' (.pu<|f i) (G (~~~i1 i) (~~~i2 i) l)->te (G (~~~i1 i) (~~~i2 i) l) Q') (hq:Q (.ow<|(List.range n).map f) (wW ρ1 js)) :
  gD js cap last ui (pP<|eH t0<|eH t1 pO) (λρ Q=>Q true ρ) te ρ Q:=by
 refine hui _ ⟨λi ρ'=> ∃x y,ρ'=G x y ((List.range i).map f),⟨x0,y0,h0⟩,?_,?_⟩
 .rintro i ρ' hi ⟨x,y,rfl⟩;rw[hit i hi];refine⟨(h1' _ _ _).1,by rw[gH];exact(h1' _ _ _).2,rfl,?_⟩
  rw[h1];right;rw[a8 rfl];refine hte i _ _ hi (h2 _ _ _ _ ⟨?_,~~~i1 i,~~~i2 i,?_⟩)
  .rw[aF,a15];exact bI hi (aN hn ac)
  .rw[h3,gI,bT];rfl
 .rintro ρ' ⟨x,y,rfl⟩;exact h2 _ _ _ _ hq
inductive bH9 (c:Nat->Bool) (R:Nat->D->Prop):Nat->List D->Prop
 | nil:bH9 c R 0 []
 | yes {i:Nat} {l:List D} {d:D} (h:bH9 c R i l) (hc:c i=true) (hd:R i d):bH9 c R (i+1) (l++[d])
 | no {i:Nat} {l:List D} (h:bH9 c R i l) (hc:c i=false):bH9 c R (i+1) l
theorem bH9.fn {c:Nat->Bool}{R:Nat->D->Prop}(h:bH9 c R n l): ∃g:Nat->D,(∀i,i<n->c i=true->R i (g i))/\l=((List.range n).filter c).map g:=by
 induction h with
 | nil=>exact⟨λ_=> .non,λi hi=>absurd hi (rP _),rfl⟩
 | @yes i l d h hc hd ih=>
  obtain⟨g,g1,g2⟩:=ih;refine⟨λj=>if j=i then d else g j,λj hj cj=> ?_,?_⟩
  .by_cases e:j=i
   .show R j (if j=i then d else g j)
    rw[a8 e,e];exact hd
   .show R j (if j=i then d else g j)
    rw[a7 e];exact g1 j ad cj
  .rw[gI,mS,bT,g2]
   congr 1
   .refine iI λj hj=> ?_
    have:=cJ.mp (eS.mp hj).1;rw[a7 ad]
   .simp[hc]
 | @no i l h hc ih=>
  obtain⟨g,g1,g2⟩:=ih;refine⟨g,λj hj cj=> ?_,?_⟩
  .by_cases e:j=i
   .rw[e,hc]at cj;cases cj
   .exact g1 j ad cj
  .rw[gI,mS,bT,g2];simp[hc]
theorem bH9.len {c:Nat->Bool}{R:Nat->D->Prop}(h:bH9 c R n l):l.length<=n:=by
 induction h with
 | nil=>exact aG _
 | yes h hc hd ih=>rw[cI];exact Nat.succ_le_succ ih
 | no h hc ih=>exact a13 ih
theorem d08 {tt:UT}(n:Nat)(it:Nat->D)(ρ1:Ev)(hui: ∀Q:Nat->(Nat->D)->Ev->Prop,Q n it ρ1->ui ρ Q)(hn:n<=1000)
  (G:Option B->List D->Ev) (x0:Option B) (h0:qW (wW ρ1 js) cap last=G x0 []) (h1: ∀x l b,(G x l).set t0 (some b)=G (some b) l) (h1': ∀x l,t0< (G x l).length) (h2: ∀x l (Q:List D->Prop),Q l->qC (G x l) last Q) (h3: ∀x l l',(G x l).set last (↑l')=G x l')
  (c:Nat->Bool) (R:Nat->D->Prop) (htt: ∀i l (Q':Bool->Ev->Prop),i<n->Q' (c i) (G (~~~it i) l)->tt (G (~~~it i) l) Q')
  (hte: ∀i l (Q':B->Ev->Prop),i<n->c i=true->(∀d,R i d->Q' (.pu d) (G (~~~it i) l))->te (G (~~~it i) l) Q') (hq: ∀l:List D,bH9 c R n l->Q (.ow l) (wW ρ1 js)) :
  gD js cap last ui (dM t0) tt te ρ Q:=by
 refine hui _ ⟨λi ρ'=> ∃x l,bH9 c R i l/\ρ'=G x l,⟨x0,[],.nil,h0⟩,?_,?_⟩
 .rintro i ρ' hi ⟨x,l,hl,rfl⟩;refine⟨h1' _ _,?_⟩;rw[h1];right;refine htt i _ _ hi ?_
  by_cases hc:c i=true
  .rw[a8 hc];refine hte i _ _ hi hc λd hd=>h2 _ _ _ ⟨?_,~~~it i,l++[d],.yes hl hc hd,?_⟩
   .exact lF hl.len (bI hi<|aN hn ac)
   .rw[h3];rfl
  .rw[a7 hc];exact⟨~~~it i,l,.no hl<|by simpa using hc,rfl⟩
 .rintro ρ' ⟨x,l,hl,rfl⟩;exact h2 _ _ _ (hq l hl)
nonrec def zS (n:Nat)(f:∅)(g:Nat×∅):List Int:=rwF (gL (divL g.2 g.1 (n+1-g.1) f)<|n+1) (divL g.2 g.1 (n+1-g.1) f)
nonrec def ptD (n:Nat)(f:∅)(x:(Nat×∅)×Nat):D:= .tup [aX<|rwF (x.1.1+1) x.1.2,.int (x.2:Int),aX<|zS n f x.1]
def yC:Φ:=λds Q=> ∃(n:Nat) (f:∅) (p:Int),ds=[aX<|rwF (n+1) f,.int p]/\n<=4/\p∈prL/\MP p n (md p f)/\(∀j,(f j).natAbs<=2^9)/\ ∀xs,SP p (n,md p f) xs->Q (.ow<|xs.map<|ptD n f)
def yD:US:=(eJ<|gD [0] [none,none,some 0,none] 3 (fS<|aU yA<|a6 (aB 0)<|a6 (aB 1) aI) (pP<|eH 0<|eH 1 pO) (λρ Q=>Q true ρ)<|bL<|a6 (aB 0)<|a6 (aB 1)<|a6 (uIx (uV<|aU hV<|a6 (aB 2)<|a6 (aB 0) aI)<|@1) aI)
theorem cT2 {p:Int}(pp:Pr p)(n4:n<=4)(fb: ∀j,(f j).natAbs<=2^9){g:Nat×∅}(mg:MP p g.1 g.2)(g4:g.1<=4):dC6 (n+1) g.1 9 8 f g.2:=
 ⟨ad,ad,mg.top,mg.hi,λm _=>fb m,λj=>dD6 pp mg j,ad,ac⟩
theorem bP2: Ra yC yD ["f","p"]:=by
 rintro ds Q ⟨n,f,p,rfl,n4,hp,mp,fb,h⟩;have pp:=kH hp;unfold yD;show(eJ _:US) _ [~~~aX (rwF (n+1) f),!p];rw[kK]
 have key: ∀xs,SP p (n,md p f) xs->gD [0] [none,none,some 0,none] 3 (λρ Q=>Q (xs.map aC5).length (λi=>(xs.map aC5).getD i .non) ρ) (pP<|eH 0<|eH 1 pO) (λρ Q=>Q true ρ) (bL<|a6 (aB 0)<|a6 (aB 1)<|a6 (uIx (uV<|aU hV<|a6 (aB 2)<|a6 (aB 0) aI)<|@1) aI) [~~~aX (rwF (n+1) f),!p] λb _=>Q b:=by
  intro xs sp
  refine cB6 (t0:=0) (t1:=1) xs.length (λi=>(xs.map aC5).getD i .non) (λi=>aX (rwF ((xs.getD i (i8,0)).1.1+1) (xs.getD i (i8,0)).1.2)) (λi=> .int ((xs.getD i (i8,0)).2:Int)) (λi hi=> ?_) [~~~aX (rwF (n+1) f),!p] (λQ' q=> ?_) (aN sp.len ac) (λx y l=>[x,y,~~~aX (rwF (n+1) f),↑l]) none none rfl (λ_ _ _ _ _=>rfl) (λ_ _ _=>⟨ae,ae⟩) (λ_ _ _ _ q=>q) (λ_ _ _ _=>rfl) (λi=>ptD n f (xs.getD i (i8,0))) ?_ ?_
  .rw[aL,bX,aL,aO hi];rfl
  .rw[aF];exact q
  .intro i l Q' hi q;have hm:xs.getD i (i8,0)∈xs:=by
    rw[aL,aO hi];exact bY hi
   obtain⟨mx,x1,x4,_⟩:=sp.mem _ hm;generalize xs.getD i (i8,0)=x at *;left;refine⟨n+1,x.1.1,9,8,f,x.1.2,rfl,cT2 pp n4 fb mx x4,?_⟩;left;rw[at1];exact⟨ac,q⟩
  .have e:(List.range xs.length).map (λi=>ptD n f (xs.getD i (i8,0)))=xs.map (ptD n f):=by
    apply oZ
    .simp
    .intro i h1 h2;simp at h1;simp[aL,h1]
   rw[e];exact h xs sp
 exact⟨n,f,p,rfl,n4,hp,mp,λxs sp=>key xs sp⟩
structure RF (n:Nat)(f:∅):Prop where
 n1:1<=n
 n4:n<=4
 top:f n=1
 hi: ∀j,n<j->f j=0
 fb: ∀j,(f j).natAbs<=2^9
theorem RF.mp (h:RF n f){p:Int}(hp:2<=p):MP p n (md p f):=by
 refine⟨?_,λj hj=> ?_,λj=>⟨dS _ ad,dO _ ad⟩⟩
 .show f n%p=1
  rw[h.top];exact fN ac ad
 .show f j%p=0
  rw[h.hi j hj,dD]
nonrec def d09 (n:Nat)(f:∅)(xf:Int->List ((Nat×∅)×Nat))(p:Int):D:= .tup [.int p,.lst<|(xf p).map<|ptD n f]
nonrec def sqB (size p:Int):Bool:=decide (size%(p*p)=0)
nonrec def cM5 (n:Nat)(f:∅)(size:Int)(xf:Int->List ((Nat×∅)×Nat)):List D:=(prL.filter<|sqB size).map (d09 n f xf)
def SPs (n:Nat)(f:∅)(size:Int)(xf:Int->List ((Nat×∅)×Nat)):Prop:= ∀p∈prL,sqB size p=true->SP p (n,md p f) (xf p)
def qJ:Φ:=λds Q=> ∃(n:Nat) (f:∅) (size:Int),ds=[aX<|rwF (n+1) f,.int size]/\RF n f/\ ∀xf,SPs n f size xf->Q (.ow<|cM5 n f size xf)
def wE:US:=(eJ<|gD [0,1] [none,some 0,some 1,none] 3 (fS<|aU mJ aI) (dM 0) (dF<|uOp (hG false) (uOp kX (aB 2)<|uOp iR (aB 0)<|aB 0)<|@0)<|bL<|a6 (aB 0)<|a6 (aU yC<|a6 (aB 1)<|a6 (aB 0) aI) aI)
theorem bI0: Ra qJ wE ["f","s"]:=by
 rintro ds Q ⟨n,f,size,rfl,rf,h⟩;unfold wE;show(eJ _:US) _ [~~~aX (rwF (n+1) f),!size];rw[kK];have et: ∀i,i<46->(T_SMALL_PRIMES.map D.int).getD i .non= .int (T_SMALL_PRIMES.getD i 0):=λi hi=>by
  have hi':i<T_SMALL_PRIMES.length:=by rw[bH5];exact hi
  rw[aL,bX,aL,aO hi'];rfl
 have mt: ∀i,i<46->T_SMALL_PRIMES.getD i 0∈prL:=λi hi=>by
  have hi':i<T_SMALL_PRIMES.length:=by rw[bH5];exact hi
  rw[aC2,aL,aO hi'];exact bY hi'
 refine d08 (t0:=0) 46 (λi=>(T_SMALL_PRIMES.map D.int).getD i .non) [~~~aX (rwF (n+1) f),!size] (λQ' q=> ?_) ac (λx l=>[x,~~~aX (rwF (n+1) f),!size,↑l]) none rfl (λ_ _ _=>rfl) (λ_ _=>dR _) (λ_ _ _ q=>q) (λ_ _ _=>rfl)
  (λi=>sqB size (T_SMALL_PRIMES.getD i 0)) (λi d=> ∃xs,SP (T_SMALL_PRIMES.getD i 0) (n,md (T_SMALL_PRIMES.getD i 0) f) xs/\d= .tup [.int<|T_SMALL_PRIMES.getD i 0,.lst<|xs.map<|ptD n f]) ?_ ?_ (λl hl=> ?_)
 .exact⟨rfl,q⟩
 .intro i l Q' hi q;obtain⟨p2,p3⟩:=tp_ok _ (aC2▸mt i hi);rw[et i hi]at q⊢;unfold sqB at q;generalize T_SMALL_PRIMES.getD i 0=p at *;have pq:0<p*p:=vM ad ad
  left
  refine⟨cmL ad ad,ad,?_⟩
  rw[dZ _ pq];exact q
 .intro i l Q' hi hc q;have hm:=mt i hi;have pp:=kH hm;rw[et i hi]at q⊢;generalize T_SMALL_PRIMES.getD i 0=p at *;left;refine⟨n,f,p,rfl,rf.n4,hm,rf.mp pp.lo,rf.fb,λxs sp=> ?_⟩
  left
  exact⟨ac,q _ ⟨xs,sp,rfl⟩⟩
 .obtain⟨g,g1,g2⟩:=hl.fn;have ex: ∀p:Int,∃xs,∀i,i<46->T_SMALL_PRIMES.getD i 0=p->sqB size p=true->SP p (n,md p f) xs/\g i= .tup [.int p,.lst<|xs.map<|ptD n f]:=λp=>by
   by_cases c: ∃i,i<46/\T_SMALL_PRIMES.getD i 0=p/\sqB size p=true
   .obtain⟨i,hi,e,hc⟩:=c;obtain⟨xs,sp,eg⟩:=g1 i hi (by rw[e];exact hc)
    rw[e]at sp eg;refine⟨xs,λj hj e' _=> ?_⟩
    have:j=i:=by
     have hj':j<T_SMALL_PRIMES.length:=by rw[bH5];exact hj
     have hi':i<T_SMALL_PRIMES.length:=by rw[bH5];exact hi
     rw[aL,aO hj']at e';rw[aL,aO hi']at e;have e1:T_SMALL_PRIMES[j]=T_SMALL_PRIMES[i]:=iN (by
      have a1:(some T_SMALL_PRIMES[j]).getD 0=p:=e';have a2:(some T_SMALL_PRIMES[i]).getD 0=p:=e;exact bO some (a1.trans a2.symm))
     rcases aQ2 j i with z|z|z
     .have:=uT.mp cM4 j i hj' hi' z
      lia
     .exact z
     .have:=uT.mp cM4 i j hi' hj' z
      lia
    rw[this];exact⟨sp,eg⟩
   .exact⟨[],λi hi e hc=>absurd ⟨i,hi,e,hc⟩ c⟩
  obtain⟨X,hX⟩: ∃X:Int->List ((Nat×∅)×Nat),∀p i,i<46->T_SMALL_PRIMES.getD i 0=p->sqB size p=true->SP p (n,md p f) (X p)/\g i= .tup [.int p,.lst<|(X p).map<|ptD n f]:=⟨λp=>(ex p).choose,λp=>(ex p).choose_spec⟩
  have key:=h X (λp hp hs=>by
   rw[aC2]at hp;obtain⟨i,hi,e⟩:=rK hp;have hi':i<46:=by rw[<-bH5];exact hi
   refine(hX p i hi' ?_ hs).1
   rw[aL,aO hi];exact e)
  have el:l=cM5 n f size X:=by
   have e0:prL=(List.range 46).map λi=>T_SMALL_PRIMES.getD i 0:=af
   have e1:prL.filter (sqB size)=((List.range 46).filter λi=>sqB size (T_SMALL_PRIMES.getD i 0)).map λi=>T_SMALL_PRIMES.getD i 0:=by
    rw[e0,List.filter_map];rfl
   rw[g2];unfold cM5;rw[e1,dW];refine iI λi hi=> ?_
   obtain⟨h1,h2⟩:=eS.mp hi;exact(hX (T_SMALL_PRIMES.getD i 0) i (cJ.mp h1) rfl h2).2
  rw[el];exact key
theorem d10 {p:Int}(hp:2<=p)(sp:SP p F xs){x:(Nat×∅)×Nat}(hx:x∈xs)(h2:2<=x.2): ∃R:Nat×∅,MP p R.1 R.2/\F=tm p (tm p x.1 x.1) R:=by
 obtain⟨l,m,rfl⟩:=List.append_of_mem hx;obtain⟨k,hk⟩: ∃k,x.2=k+2:=⟨x.2-2,aa⟩
 have mx:=(sp.mem x hx).1;have ml: ∀y∈l,MP p y.1.1 y.1.2:=λy hy=>(sp.mem y<|gS _ hy).1
 have mm: ∀y∈m,MP p y.1.1 y.1.2:=λy hy=>(sp.mem y<|cZ _<|.tail _ hy).1
 have mA:=MP.allT hp l (MP.one hp) ml;have mP:=MP.powT hp mA mx k;have mxx:=MP.tm hp mx mx;refine⟨allT p (powT p (allT p i8 l) x.1 k) m,MP.allT hp m mP mm,?_⟩;rw[<-sp.prod,n8];show allT p (powT p (allT p i8 l) x.1 x.2) m=_;rw[hk];show allT p (tm p (tm p (powT p (allT p i8 l) x.1 k) x.1) x.1) m=_;rw[<-aC4 mx.hi,a58 mP.hi mxx.hi,zR hp m mP mm]
structure dD8 (n:Nat)(f:∅)(size p:Int)(g:Nat×∅):Prop where
 pr:p∈prL
 sq:size%(p*p)=0
 mg:MP p g.1 g.2
 g1:1<=g.1
 g4:g.1<=4
 tw: ∃R:Nat×∅,MP p R.1 R.2/\(n,md p f)=tm p (tm p g g) R
 all: ∀c∈zS n f g,c%(p*p)=0
nonrec def dR6 (n:Nat)(f:∅)(g:Nat×∅):List Int:=rwF (gL (divQ g.2 g.1 (n+1-g.1) f)<|n+1-g.1) (divQ g.2 g.1 (n+1-g.1) f)
def bI1 (n:Nat)(f:∅)(p:Int)(xs:List ((Nat×∅)×Nat)):Prop:= ∀x∈xs,2<=x.2-> ∃c∈zS n f x.1,c%(p*p)≠0
def tU:Φ:=λds Q=> ∃(n:Nat) (f:∅) (size:Int) (xf:Int->List ((Nat×∅)×Nat)),ds=[aX<|rwF (n+1) f,.lst<|cM5 n f size xf]/\RF n f/\SPs n f size xf/\((∀p∈prL,sqB size p=true->bI1 n f p (xf p))->Q (.pu .non))/\ ∀p g,dD8 n f size p g->(¬ ∀p∈prL,sqB size p=true->bI1 n f p (xf p))->Q (.pu<|.tup [.int p,aX<|dR6 n f g])
def b40:US:=(eJ<|uC .non)
def tV:US:=(aW (mK (fS<|aB 1) (pP<|eH 2<|eH 3 pO)<|mK (fS<|aB 3) (pP<|eH 4<|eH 5<|eH 6 pO)<|fU (c75 (dF<|uOp (sA λi j=>decide (j<=i)) (aB 5)<|@2)<|dF<|aU cY1<|a6 (gD [2] [none,some 2,none] 2 (fS<|aB 6) (dM 0) (λρ Q=>Q true ρ)<|uOp (hG false) (uOp kX (aB 0)<|uOp iR (aB 1)<|aB 1)<|@0) aI) (eJ<|bL<|a6 (aB 2)<|a6 (uIx (uV<|aU hV<|a6 (aB 0)<|a6 (aB 4) aI)<|@0) aI) dG) b40)
theorem b96: Ra tU tV ["f","r","p","a","g","o","c"]:=by
 rintro ds Q ⟨n,f,size,xf,rfl,rf,hP,h0,h1⟩;have hm0: ∀p∈prL.filter (sqB size),p∈prL/\sqB size p=true:=λp hp=>eS.mp hp
 have hm1: ∀p,p∈prL->sqB size p=true->p∈prL.filter (sqB size):=λp h1 h2=>eS.mpr ⟨h1,h2⟩
 unfold cM5;generalize prL.filter (sqB size)=ps' at *;generalize el:ps'.map (d09 n f xf)=l at *;have ll:l.length=ps'.length:=by rw[<-el,aF]
 unfold tV;show(aW _ _:US) _ [~~~aX (rwF (n+1) f),~~~.lst l,none,none,none,none,none];rw[aP];refine fE l.length (λi=>l.getD i .non) [~~~aX (rwF (n+1) f),~~~.lst l,none,none,none,none,none] (λQ' q=>q)
  (λi ρ=>(∃a b c d e,ρ=[~~~aX (rwF (n+1) f),~~~.lst l,a,b,c,d,e])/\ ∀j,j<i->bI1 n f (ps'.getD j 0) (xf<|ps'.getD j 0)) ⟨⟨none,none,none,none,none,rfl⟩,λj hj=>absurd hj (rP _)⟩ ?_ ?_
 .rintro i ρ hi ⟨⟨a,b,c,d,e,rfl⟩,fi⟩;have hi':i<ps'.length:=by rw[<-ll];exact hi
  have e1:l.getD i .non=d09 n f xf (ps'.getD i 0):=by
   rw[<-el,aL,bX,aL,aO hi'];rfl
  have hmp:ps'.getD i 0∈ps':=by
   rw[aL,aO hi'];exact bY hi'
  obtain⟨hp,hs0⟩:=hm0 _ hmp;have sp:=hP _ hp hs0;have hs:size%(ps'.getD i 0*ps'.getD i 0)=0:=fZ hs0;have go:bI1 n f (ps'.getD i 0) (xf<|ps'.getD i 0)-> ∀j,j<i+1->bI1 n f (ps'.getD j 0) (xf<|ps'.getD j 0):=λz j hj=>by
   by_cases c:j=i
   .rw[c];exact z
   .exact fi j ad
  rw[e1];unfold d09;generalize ps'.getD i 0=p at *;generalize exs:xf p=xs at *;have pp:=kH hp;refine⟨ae,ae,rfl,?_⟩
  show(mK _ _ _:US) _ [~~~aX (rwF (n+1) f),~~~.lst l,!p,~~~.lst (xs.map (ptD n f)),c,d,e]
  refine fE xs.length (λi=>(xs.map<|ptD n f).getD i .non) [~~~aX (rwF (n+1) f),~~~.lst l,!p,~~~.lst (xs.map (ptD n f)),c,d,e] (λQ' q=> ?_)
   (λj ρ=>(∃c d e,ρ=[~~~aX (rwF (n+1) f),~~~.lst l,!p,~~~.lst (xs.map (ptD n f)),c,d,e])/\bI1 n f p (xs.take j)) ⟨⟨c,d,e,rfl⟩,λx hx=>by simp at hx⟩ ?_ ?_
  .left
   rw[aF];exact q
  .rintro j ρ hj ⟨⟨c,d,e,rfl⟩,fj⟩;have nf:(2<=xs[j].2-> ∃c∈zS n f xs[j].1,c%(p*p)≠0)->bI1 n f p (xs.take<|j+1):=λz x hx=>by
    rw[List.take_succ,aO hj]at hx;rcases bG.mp hx with hx|hx
    .exact fj x hx
    .have:x=xs[j]:=by exists hx
     rw[this];exact z
   have hx:xs[j]∈xs:=bY hj;have e2:(xs.map<|ptD n f).getD j .non=ptD n f xs[j]:=by
    rw[aL,bX,aO hj];rfl
   rw[e2];obtain⟨mx,x1,x4,_⟩:=sp.mem _ hx;have tw:2<=xs[j].2->_:=λh2=>d10 pp.lo sp hx h2
   generalize xs[j]=x at *;refine⟨ae,ae,ae,rfl,?_⟩
   show(fU _ _ _:US) _ [~~~aX (rwF (n+1) f),~~~.lst l,!p,~~~.lst (xs.map (ptD n f)),~~~aX (rwF (x.1.1+1) x.1.2),!(x.2:Int),~~~aX (zS n f x.1)]
   simp only[aX];left
   by_cases c2:(2:Int)<=(x.2:Int)
   .rw[a8 c2];have p2:=pp.lo;have p3:=pp.hi;have pq:0<p*p:=vM ad ad
    generalize hr:zS n f x.1=r at *;have rl:r.length<=1000:=by
     rw[<-hr];unfold zS;rw[a56];have:=xF (divL x.1.2 x.1.1 (n+1-x.1.1) f) (n+1);have:=rf.n4
     lia
    refine jJ (t0:=0) r.length (λk=>(r.map D.int).getD k .non) [~~~.tup ((rwF (n+1) f).map .int),~~~.lst l,!p,~~~.lst (xs.map (ptD n f)),~~~.tup ((rwF (x.1.1+1) x.1.2).map .int),!(x.2:Int),~~~.tup (r.map .int)] (λQ' q=> ?_) ad (λx l'=>[x,!p,↑l']) none rfl (λ_ _ _=>rfl) (λ_ _=>dR _) (λ_ _ _ q=>q) (λ_ _ _=>rfl) (λk=> .bl (decide (r.getD k 0%(p*p)=0))) ?_ ?_
    .left
     rw[aF];exact q
    .intro k l' Q' hk q;have e3:(r.map D.int).getD k .non= .int (r.getD k 0):=by
      rw[aL,bX,aL,aO hk];rfl
     rw[e3]at q⊢;left;refine⟨cmL ad ad,ad,?_⟩
     rw[dZ _ pq];exact q
    .have e4:(List.range r.length).map (λk=>D.bl (decide (r.getD k 0%(p*p)=0)))=((List.range r.length).map λk=>decide (r.getD k 0%(p*p)=0)).map D.bl:=by rw[dW];rfl
     rw[e4];right;rw[a44];right
     by_cases c3:(((List.range r.length).map λk=>decide (r.getD k 0%(p*p)=0)).all id)=true
     .rw[a8 c3];left;refine⟨n+1,x.1.1,9,8,f,x.1.2,rfl,cT2 pp rf.n4 rf.fb mx x4,?_⟩;left;rw[at0];have al: ∀c∈zS n f x.1,c%(p*p)=0:=λc hc=>by
       rw[hr]at hc;obtain⟨k,hk,rfl⟩:=List.mem_iff_getElem.mp hc;rw[cC]at c3;have:=c3 (decide (r.getD k 0%(p*p)=0)) (cD.mpr ⟨k,cJ.mpr hk,rfl⟩);have:=fZ (show decide (r.getD k 0%(p*p)=0)=true from this)
       rw[aL,aO hk]at this;exact this
      refine⟨ac,h1 p x.1 ⟨hp,hs,mx,x1,x4,tw ad,al⟩ λall=> ?_⟩
      have:=all p hp hs0;rw[exs]at this;obtain⟨c,hc,ne⟩:=this x hx ad
      exact ne (al c hc)
     .rw[a7 c3];refine⟨⟨_,_,_,rfl⟩,nf λ_=> ?_⟩
      refine rB λno=>c3 ?_
      rw[cC];intro z hz;obtain⟨k,hk,rfl⟩:=cD.mp hz;have hk':=cJ.mp hk;refine bQ (rB λne=>no ⟨r.getD k 0,?_,ne⟩)
      rw[aL,aO hk'];exact bY hk'
   .rw[a7 c2];exact⟨⟨_,_,_,rfl⟩,nf λz=>absurd z ad⟩
  .rintro ρ ⟨⟨c,d,e,rfl⟩,fj⟩;rw[aO3<|aG _]at fj;exact⟨⟨_,_,_,_,_,rfl⟩,go fj⟩
 .rintro ρ ⟨⟨a,b,c,d,e,rfl⟩,fi⟩;refine h0 λp hp hs=> ?_
  obtain⟨j,hj,e⟩:=rK (hm1 p hp hs);have:=fi j (by rw[ll];exact hj)
  rw[aL,aO hj]at this;rw[<-e];exact this
theorem amgm {g:Int}(h1:g+(q+1)<=2*(b+1))(hg:0<=g)(hq:0<=q)(h2:m<g*(q+1)):m< (b+1)*(b+1):=by
 have a1:0<=(g-(q+1))*(g-(q+1)):=by
  rcases le_total 0 (g-(q+1))with h|h
  .exact mul_nonneg h h
  .exact Int.mul_nonneg_of_nonpos_of_nonpos h h
 have a2:(g+(q+1))*(g+(q+1))<=(2*(b+1))*(2*(b+1)):=a27 h1 h1 ad ad
 grind
theorem cM6 {g:Int}(hg:1<=g)(h:g<=(g+m/g)/2):g*g<=m:=by
 have h1:g<=m/g:=ad
 have h2:g*(m/g)<=m:=by
  have:=uX m g;have:=dS m (show g≠0 by lia)
  lia
 exact Int.le_trans (oO h1 ad) h2
theorem cB7 {g:Int}(hg:1<=g)(hm:0<=m):m< ((g+m/g)/2+1)*((g+m/g)/2+1):=by
 have e:=uX m g;have l:=dO m (show 0<g by lia)
 have q0:0<=m/g:=Int.ediv_nonneg hm ad
 refine amgm (g:=g) (q:=m/g) ad ad q0 ?_
 rw[rY,kB]
 lia
def b41:Φ:=λds Q=> ∃m:Int,ds=[.int m]/\0<=m/\Sm m/\ ∀r:Int,0<=r->r*r<=m->m< (r+1)*(r+1)->Q (.pu<|.int r)
def b42:US:=(aW (cE 1<|aB 0)<|aW (cE 2<|uOp bO3 (uOp fH (aB 0)<|@1)<|@2)<|aW (bY8 (dF<|uOp (sA λi j=>decide (i<j)) (aB 2)<|aB 1)<|aW (cE 1<|aB 2)<|cE 2<|uOp bO3 (uOp fH (aB 1)<|uOp bO3 (aB 0)<|aB 1)<|@2)<|vV 1)
theorem Sm.le {i:Int}(h:Sm m)(h0:0<=i)(h1:i<=m):Sm i:=by
 unfold Sm at h⊢;exact lF ad h
theorem d11: Ra b41 b42 ["m","g","b"]:=by
 rintro ds Q ⟨m,rfl,m0,ms,h⟩;unfold b42;show(aW _ _:US) _ [!m,none,none];left;rw[zM _ ac]
 refine⟨⟨ac,cA2 ac ac⟩,?_⟩
 refine⟨λn ρ=> ∃g b:Int,ρ=[!m,!g,!b]/\n=g.toNat/\0<=g/\g<=m/\m< (g+1)*(g+1)/\((m=0/\b=0)\/(1<=g/\b=(g+m/g)/2)),⟨_,m,(m+1)/2,rfl,rfl,m0,Int.le_refl _,?_,?_⟩,?_⟩
 .have:m*1<=m*m+m:=by
   rcases le_total m 0 with z|z
   .have:m=0:=ad
    subst this;decide
   .have:=mul_nonneg z z
    lia
  grind
 .by_cases z:m=0
  .subst z;exact .inl ⟨rfl,rfl⟩
  .right
   rw[Int.ediv_self z];exact⟨ad,rfl⟩
 .rintro n ρ ⟨g,b,rfl,rfl,g0,gm,hg,hb⟩;left;split
  .rename_i hlt
   rcases hb with⟨rfl,rfl⟩| ⟨g1,rfl⟩
   .lia
   .have b1:1<=(g+m/g)/2:=by
     have:1<=m/g:=Int.le_ediv_of_mul_le ad ad
     lia
    rw[zM _<|show 0< (g+m/g)/2 by lia,zM _ ac]
    refine⟨⟨ad,ms.le ad ad⟩,⟨ac,cA2 ac ac⟩,_,?_,_,_,rfl,rfl,ad,ad,cB7 g1 m0,.inr ⟨b1,rfl⟩⟩
    lia
  .rename_i hge
   refine h g g0 ?_ hg
   rcases hb with⟨rfl,rfl⟩| ⟨g1,rfl⟩
   .have:g=0:=ad
    subst this;decide
   .exact cM6 g1 ad
nonrec def ev (p:List Int)(z:Int):Int:=ps (λj=>p.getD j 0) z p.length
theorem ev2 (a b z:Int):ev [a,b,1] z=a+b*z+z*z:=by simp[ev,ps];grind
theorem ev3 (a b c z:Int):ev [a,b,c,1] z=a+b*z+c*(z*z)+z*z*z:=by simp[ev,ps];grind
theorem ev4 (a b c d z:Int):ev [a,b,c,d,1] z=a+b*z+c*(z*z)+d*(z*z*z)+z*z*z*z:=by simp[ev,ps];grind
nonrec def qq (v u w s:Int):List Int:=[v*w,u*w+v*s,v+w+u*s,u+s,1]
def Red (p:List Int):Prop:=(∃z,ev p z=0)\/ ∃v u w s,p=qq v u w s
structure Fac (p l r:List Int):Prop where
 l2:2<=l.length
 r2:2<=r.length
 l4:l.length<=4
 r4:r.length<=4
 l1:l.getD (l.length-1) 0=1
 r1:r.getD (r.length-1) 0=1
 pr:rwF (l.length+r.length-1) (conv (λj=>l.getD j 0) (λj=>r.getD j 0) l.length)=p
 bl: ∀x∈l,x.natAbs<=2^40
 br: ∀x∈r,x.natAbs<=2^40
theorem cY.cs (h:cY p):(∃a b,p=[a,b,1])\/(∃a b c,p=[a,b,c,1])\/ ∃a b c d,p=[a,b,c,d,1]:=by
 obtain⟨q,rfl⟩:=h.one;have lo:=h.ok.lo;have hi:=h.ok.hi;rw[cI,aO5]at lo hi
 match q,lo,hi with
 | [a,b],_,_=>exact .inl ⟨a,b,rfl⟩
 | [a,b,c],_,_=>exact .inr (.inl ⟨a,b,c,rfl⟩)
 | [a,b,c,d],_,_=>exact .inr (.inr ⟨a,b,c,d,rfl⟩)
 | [],h,_=>simp at h
 | [_],h,_=>simp at h
 | _::_::_::_::_::_,_,h=>simp at h
theorem dD9 (h:cY p){z:Int}(hz:ev p z=0):z∣p.getD 0 0:=by
 rcases h.cs with⟨a,b,rfl⟩| ⟨a,b,c,rfl⟩| ⟨a,b,c,d,rfl⟩
 .rw[ev2]at hz;exact⟨-(b+z),by show a=_;grind⟩
 .rw[ev3]at hz;exact⟨-(b+c*z+z*z),by show a=_;grind⟩
 .rw[ev4]at hz;exact⟨-(b+c*z+d*(z*z)+z*z*z),by show a=_;grind⟩
theorem cT3 (h:cY p):ev p 0=p.getD 0 0:=by
 rcases h.cs with⟨a,b,rfl⟩| ⟨a,b,c,rfl⟩| ⟨a,b,c,d,rfl⟩
 .rw[ev2];simp
 .rw[ev3];simp
 .rw[ev4];simp
nonrec def wX (z:Int):∅:=λj=>[-z,1].getD j 0
theorem kI {m:Nat}(h1:a.natAbs<=m)(h2:b.natAbs<=n):(a*b).natAbs<=m*n:=by rw[eC];exact eV h1 h2
set_option maxHeartbeats 2000000 in
theorem l3 (h:a=a')(h2:b=b')(h3:c=c'):[a,b,c]=[a',b',c']:=by rw[h,h2,h3]
theorem l4 {d d':Int}(h:a=a')(h2:b=b')(h3:c=c')(h4:d=d'):[a,b,c,d]=[a',b',c',d']:=by rw[h,h2,h3,h4]
theorem l5 {d d' e':Int}(h:a=a')(h2:b=b')(h3:c=c')(h4:d=d')(h5:e=e'):[a,b,c,d,e]=[a',b',c',d',e']:=by rw[h,h2,h3,h4,h5]
theorem cvA2 (s z:Int):rwF 3 (λm=>conv (λj=>([s,1]:List Int).getD j 0) (wX z) 2 m+0)=[0+s*(-z)+1*0+0,0+s*1+1*(-z)+0,0+s*0+1*1+0]:=by kernel_rfl
theorem cvB2 (s z:Int):rwF 3 (conv (λj=>([-z,1]:List Int).getD j 0) (λj=>([s,1]:List Int).getD j 0) 2)=[0+(-z)*s+1*0,0+(-z)*1+1*s,0+(-z)*0+1*1]:=by kernel_rfl
theorem cvA3 (s t z:Int):rwF 4 (λm=>conv (λj=>([s,t,1]:List Int).getD j 0) (wX z) 3 m+0)=[0+s*(-z)+t*0+1*0+0,0+s*1+t*(-z)+1*0+0,0+s*0+t*1+1*(-z)+0,0+s*0+t*0+1*1+0]:=by kernel_rfl
theorem cvB3 (s t z:Int):rwF 4 (conv (λj=>([-z,1]:List Int).getD j 0) (λj=>([s,t,1]:List Int).getD j 0) 2)=[0+(-z)*s+1*0,0+(-z)*t+1*s,0+(-z)*1+1*t,0+(-z)*0+1*1]:=by kernel_rfl
theorem cvA4 (s t u z:Int):rwF 5 (λm=>conv (λj=>([s,t,u,1]:List Int).getD j 0) (wX z) 4 m+0)=[0+s*(-z)+t*0+u*0+1*0+0,0+s*1+t*(-z)+u*0+1*0+0,0+s*0+t*1+u*(-z)+1*0+0,0+s*0+t*0+u*1+1*(-z)+0,0+s*0+t*0+u*0+1*1+0]:=by kernel_rfl
theorem cvB4 (s t u z:Int):rwF 5 (conv (λj=>([-z,1]:List Int).getD j 0) (λj=>([s,t,u,1]:List Int).getD j 0) 2)=[0+(-z)*s+1*0,0+(-z)*t+1*s,0+(-z)*u+1*t,0+(-z)*1+1*u,0+(-z)*0+1*1]:=by kernel_rfl
theorem m2 (h:P a)(h2:P b): ∀x∈[a,b],P x:=λx hx=>by
 rcases aT.mp hx with rfl|hx
 .exact h
 .rw[eQ.mp hx];exact h2
theorem m3 {l:List Int}(h:P a)(h2: ∀x∈l,P x): ∀x∈a::l,P x:=λx hx=>by
 rcases aT.mp hx with rfl|hx
 .exact h
 .exact h2 x hx
theorem na2 {A B:Nat}(h:a.natAbs<=A)(h2:b.natAbs<=B):(a+b).natAbs<=A+B:=aN (a16 a b) (Nat.add_le_add h h2)
theorem quo (h:cY p){z:Int}(hz:ev p z=0)(z9:z.natAbs<=499): ∃r:List Int,r.length+1=p.length/\2<=r.length/\r.getD (r.length-1) 0=1/\p=rwF p.length (λm=>conv (λj=>r.getD j 0) (wX z) r.length m+0)/\(∀x∈r,x.natAbs<=2^40)/\Fac p [-z,1] r:=by
 have sm:=h.ok.small;have le: ∀{a b:Nat},Nat.ble a b=true->a<=b:=Nat.le_of_ble_eq_true;have k1:(1:Int).natAbs<=2^40:=ac
 have bl: ∀x∈[-z,1],x.natAbs<=2^40:=m2 (by rw[rS];exact aN z9 ac) k1
 have m1:(z*z).natAbs<=499*499:=kI z9 z9;rcases h.cs with⟨a,b,rfl⟩| ⟨a,b,c,rfl⟩| ⟨a,b,c,d,rfl⟩
 .rw[ev2]at hz;have s1:=sm b ae
  have bd: ∀x∈[b+z,1],x.natAbs<=2^40:=m2 (aN (na2 s1 z9) ac) k1
  exact⟨[b+z,1],rfl,le rfl,rfl,(cvA2 (b+z) z).trans (l3 (by grind) (by grind)<|by grind) |>.symm,bd,⟨le rfl,le rfl,le rfl,le rfl,rfl,rfl,(cvB2 (b+z) z).trans<|l3 (by grind) (by grind)<|by grind,bl,bd⟩⟩
 .rw[ev3]at hz;have s1:=sm b ae
  have s2:=sm c ae
  have m2':(c*z).natAbs<=499*499:=kI s2 z9;have bd: ∀x∈[b+c*z+z*z,c+z,1],x.natAbs<=2^40:=m3 (aN (na2 (na2 s1 m2') m1) ac) (m2 (aN (na2 s2 z9) ac) k1)
  exact⟨[b+c*z+z*z,c+z,1],rfl,le rfl,rfl,(cvA3 _ (c+z) z).trans (l4 (by grind) (by grind) (by grind)<|by grind) |>.symm,bd,⟨le rfl,le rfl,le rfl,le rfl,rfl,rfl,(cvB3 _ (c+z) z).trans<|l4 (by grind) (by grind) (by grind)<|by grind,bl,bd⟩⟩
 .rw[ev4]at hz;have s1:=sm b ae
  have s2:=sm c ae
  have s3:=sm d ae
  have m2':(c*z).natAbs<=499*499:=kI s2 z9;have m3':(d*(z*z)).natAbs<=499*(499*499):=kI s3 m1;have m4:(z*z*z).natAbs<=499*499*499:=kI m1 z9;have m5:(d*z).natAbs<=499*499:=kI s3 z9;have bd: ∀x∈[b+c*z+d*(z*z)+z*z*z,c+d*z+z*z,d+z,1],x.natAbs<=2^40:=m3 (aN (na2 (na2 (na2 s1 m2') m3') m4) ac) (m3 (aN (na2 (na2 s2 m5) m1) ac)<|m2 (aN (na2 s3 z9) ac) k1)
  exact⟨[b+c*z+d*(z*z)+z*z*z,c+d*z+z*z,d+z,1],rfl,le rfl,rfl,(cvA4 _ _ (d+z) z).trans (l5 (by grind) (by grind) (by grind) (by grind)<|by grind) |>.symm,bd,⟨le rfl,le rfl,le rfl,le rfl,rfl,rfl,(cvB4 _ _ (d+z) z).trans<|l5 (by grind) (by grind) (by grind) (by grind)<|by grind,bl,bd⟩⟩
theorem fac_qq (h: ∀x∈[v,u,w,s],x.natAbs<=2^40):Fac (qq v u w s) [v,u,1] [w,s,1]:=by
 simp only[oR]at h;have k1:(1:Int).natAbs<=2^40:=ac
 refine⟨ae,ae,ae,ae,rfl,rfl,?_,?_,?_⟩
 .simp[rwF,conv,shF,qq,gI]
  grind
 .simp only[oR];exact⟨h.1,h.2.1,k1,ae⟩
 .simp only[oR];exact⟨h.2.2.1,h.2.2.2.1,k1,ae⟩
def sY:Φ:=λds Q=> ∃m:Int,ds=[.int m]/\m.natAbs<=499/\ ∀l:List Int,l.length<=1000->(m=0->l=[0])->(m≠0-> ∀x,x∈l↔x∣m)->(∀x∈l,x.natAbs<=499)->Q (.ow<|l.map .int)
def aC8:US:=(aW (cE 1<|dY aI)<|aW (mK (aV4<|a6 @1<|a6 (uOp fH (aU cX9<|a6 (aB 0) aI)<|@1) aI) (dM 2)<|fU (dF<|uOp (hG false) (uOp kX (aB 0)<|aB 2)<|@0) (aW (aR7 1<|aB 2)<|aR7 1<|kD<|aB 2) dG)<|vV 1)
def yE:US:=(aW (fU (dF<|uOp (hG false) (aB 0)<|@0) (eJ<|dY<|a6 @0 aI) dG) aC8)
theorem aL5 (h:x∣m)(hm:m≠0):x.natAbs<=m.natAbs/\1<=x.natAbs:=by
 have h1:=aO8.mpr h;refine⟨a30 ad h1,?_⟩
 rcases Nat.eq_zero_or_pos x.natAbs with z|z
 .rw[z]at h1;have:=Nat.zero_dvd.mp h1
  lia
 .exact z
theorem bP3: Ra sY yE ["m","f","d"]:=by
 rintro ds Q ⟨m,rfl,m9,h⟩;unfold yE;show(aW _ _:US) _ [!m,none,none];rw[aP];left
 by_cases m0:m=0
 .rw[a8 m0];exact⟨ac,h [0] ae (λ_=>rfl) (λz=>absurd m0 z) ae⟩
 rw[a7 m0];unfold aC8;rw[aP];left;refine⟨ac,?_⟩
 refine fE m.natAbs (λk=> .int (1+k)) [!m,↑[],none] ?_
  (λi ρ=> ∃(l:List Int) (z:Option B),ρ=[!m,↑(l.map .int),z]/\l.length<=2*i/\ ∀x,x∈l↔(x∣m/\1<=x.natAbs/\x.natAbs<=i)) ⟨[],none,rfl,ae,λx=> ?_⟩ ?_ ?_
 .intro Q' q;left;have e:(if m<0 then -m else m)=(m.natAbs:Int):=by split<;>lia
  rw[e];refine⟨ad,?_⟩
  rw[show((m.natAbs:Int)+1-1).toNat=m.natAbs by lia]
  exact q
 .simp;lia
 .rintro i ρ hi ⟨l,z,rfl,ll,hl⟩;left;refine⟨ae,ad,?_⟩
  rw[dZ _<|show(0:Int)<1+(i:Int)by lia]
  split
  .rename_i hd
   have dv:(1+(i:Int))∣m:=fY hd;refine⟨?_,?_,l++[1+(i:Int),-(1+(i:Int))],!(1+(i:Int)),?_,?_,λx=> ?_⟩
   .rw[aF];exact bI (show _<2000 by lia) ac
   .rw[cI,aF];exact bI (show _<2000 by simp;lia) ac
   .rw[bT];simp
   .rw[cI];simp;lia
   .rw[bG,hl];constructor
    .rintro(⟨h1,h2,h3⟩|hx)
     .exact⟨h1,h2,ad⟩
     .simp at hx
      rcases hx with rfl|rfl
      .exact⟨dv,ad,ad⟩
      .exact⟨by first|exact Int.neg_dvd.mpr dv| (rw[show -1+ -(i:Int)= -(1+(i:Int))by lia];exact Int.neg_dvd.mpr dv),ad,ad⟩
    .rintro⟨h1,h2,h3⟩
     by_cases c:x.natAbs<=i
     .exact .inl ⟨h1,h2,c⟩
     .refine .inr ?_
      simp
      lia
  .rename_i hd
   have dv: ¬(1+(i:Int))∣m:=λz=>hd (lB z)
   refine⟨l,_,rfl,ad,λx=> ?_⟩
   rw[hl];constructor
   .rintro⟨h1,h2,h3⟩;exact⟨h1,h2,ad⟩
   .rintro⟨h1,h2,h3⟩;refine⟨h1,h2,?_⟩
    by_cases c:x.natAbs<=i
    .exact c
    .exfalso
     have:x=1+(i:Int)\/x= -(1+(i:Int)):=ad
     rcases this with rfl|rfl
     .exact dv h1
     .exact dv (Int.neg_dvd.mp h1)
 .rintro ρ ⟨l,z,rfl,ll,hl⟩;left;refine h l ad (λz=>absurd z m0) (λ_ x=> ?_) λx hx=> ?_
  .rw[hl];exact⟨λq=>q.1,λq=>⟨q,(aL5 q m0).2,(aL5 q m0).1⟩⟩
  .have:=(hl x).mp hx
   lia
def pG:Φ:=λds Q=> ∃p:List Int,ds=[aX p]/\cY p/\((∀z,ev p z≠0)->Q (.pu .non))/\ ∀l r,Fac p l r->Red p->Q (.pu<|.tup [aX l,aX r])
def uD:US:=(eJ<|uC .non)
def pH:US:=(aW (mK (fS<|aU sY<|a6 (uIx (aQ 0)<|@0) aI) (dM 1)<|fU (dF<|uOp (hG false) (aU qI<|a6 (aB 0)<|a6 (aB 1) aI)<|@0) (aW (cE 2<|bL<|a6 (kD<|aB 1)<|a6 @1 aI)<|eJ<|bL<|a6 (aB 2)<|a6 (uIx (uV<|aU hV<|a6 (aB 0)<|a6 (aB 2) aI)<|@0) aI) dG) uD)
theorem b72 (p:List Int)(j:Nat)(h:p.length<=j):p.getD j 0=0:=by rw[aL,mO h];rfl
theorem aS6: Ra pG pH ["p","z","l"]:=by
 rintro ds Q ⟨p,rfl,hp,hn,hy⟩;have hlo:=hp.ok.lo;have hhi:=hp.ok.hi;unfold pH;show(aW _ _:US) _ [~~~.tup (p.map .int),none,none];rw[aP];have p0:(p.getD 0 0).natAbs<=499:=iS hp.ok.small 0;have key: ∀l:List Int,(p.getD 0 0=0->l=[0])->(p.getD 0 0≠0-> ∀x,x∈l↔x∣p.getD 0 0)->(∀x∈l,ev p x≠0)-> ∀z,ev p z≠0:=λl l0 l1 hl z hz=>by
  by_cases c:p.getD 0 0=0
  .have:=hl 0 (by rw[l0 c];simp)
   rw[cT3 hp]at this;exact this c
  .exact hl z ((l1 c z).mpr<|dD9 hp hz) hz
 unfold mK;simp only[fS];left;rw[bG5 ad]
 refine⟨p.getD 0 0,rfl,p0,λl l9 l0 l1 lb=> ?_⟩
 right;rw[aF];refine⟨λi ρ=> ∃z1 z2,ρ=[~~~.tup (p.map .int),z1,z2]/\ ∀k,k<i->ev p (l.getD k 0)≠0,⟨none,none,rfl,λk hk=>ad⟩,?_,?_⟩
 .rintro i ρ hi ⟨z1,z2,rfl,hk⟩;have e3:(l.map D.int).getD i .non= .int (l.getD i 0):=by
   rw[aL,bX,aO hi,aL,aO hi];rfl
  rw[e3];have mem:l.getD i 0∈l:=by rw[aL,aO hi];exact bY hi
  have zb:=lb _ mem;generalize ez:l.getD i 0=z at zb;left;refine⟨ae,?_⟩
  refine⟨p.length,9,9,λj=>p.getD j 0,z,by rw[<-c20];rfl,⟨λj=>aN (iS hp.ok.small j) ac,aN zb ac,ad,ac,ad⟩,?_⟩
  show(if ev p z=0 then _ else _)
  by_cases c:ev p z=0
  .rw[a8 c];refine⟨ac,?_⟩
   obtain⟨r,r1,r2,r3,r4,r5,fac⟩:=quo hp c zb;refine⟨p.length,1,9,9,λm=>conv (λj=>r.getD j 0) (wX z) r.length m+0,wX z,?_,⟨ad,ac,rfl,λj hj=> ?_,λm hm=> ?_,λj=> ?_,ad,ac⟩,?_⟩
   .rw[<-r4];rfl
   .unfold wX;rw[b72];simp;lia
   .have e:p.getD m 0=conv (λj=>r.getD j 0) (wX z) r.length m+0:=by
     have:p[m]? =some (conv (λj=>r.getD j 0) (wX z) r.length m+0):=by
      conv=>lhs;rw[r4]
      rw[cS5 hm]
     rw[aL,this];rfl
    rw[<-e];exact aN (iS hp.ok.small m) ac
   .unfold wX;refine iS (b:=2^9) (λx hx=> ?_) j
    simp at hx
    rcases hx with rfl|rfl
    .rw[rS];exact aN zb ac
    .decide
   .have dc:=bH1 (u:=λj=>r.getD j 0) (b:=wX z) (low:=λ_=>0) (d:=1) rfl (λj hj=>by unfold wX;rw[b72];simp;lia) (λ_ _=>rfl) r.length
    have el:p.length-1=r.length:=ad
    rw[el];have qe:rwF (gL (divQ (wX z) 1 r.length λm=>conv (λj=>r.getD j 0) (wX z) r.length m+0) r.length) (divQ (wX z) 1 r.length λm=>conv (λj=>r.getD j 0) (wX z) r.length m+0)=r:=by
     have cn:gL (divQ (wX z) 1 r.length λm=>conv (λj=>r.getD j 0) (wX z) r.length m+0) r.length=r.length:=uK (aG _) (λm a b=>ad) (.inr (by
      rw[dc.2 (r.length-1) ad,r3];decide))
     rw[cn]
     conv=>rhs;rw[c20 r]
     exact sC λj hj=>dc.2 j hj
    rw[qe];left;rw[show atI [aX r,aX<|rwF (gL (divL (wX z) 1 r.length λm=>conv (λj=>r.getD j 0) (wX z) r.length m+0) p.length)<|divL (wX z) 1 r.length λm=>conv (λj=>r.getD j 0) (wX z) r.length m+0] 0=some (aX r)from dL (j:=0) rfl]
    refine⟨ac,hy [-z,1] r fac<|.inl ⟨z,c⟩⟩
  .rw[a7 c];refine⟨_,_,rfl,λk hk2=> ?_⟩
   by_cases ck:k<i
   .exact hk k ck
   .have:k=i:=ad
    rw[this,ez];exact c
 .rintro ρ ⟨z1,z2,rfl,hk⟩;unfold uD;left;refine hn (key l l0 l1 λx hx=> ?_)
  obtain⟨k,hk2,rfl⟩:=rK hx;have:=hk k hk2;rw[aL,aO hk2]at this;exact this
def yF:Φ:=λds Q=> ∃t m:Int,ds=[.int t,.int m]/\t.natAbs<=2^20/\m.natAbs<=2^20/\ ∀l:List Int,l.length<=2->(∀u,u∈l↔u*(t-u)=m)->Q (.ow<|l.map .int)
def aC9:US:=(aW (fU (dF<|uOp (hG true) (uOp iR (aB 3)<|aB 3)<|aB 2) (eJ<|dY aI) dG)<|eJ<|dY<|a6 (uOp bO3 (uOp fH (aB 0)<|aB 3)<|@2)<|a6 (uOp bO3 (uOp M.gSub (aB 0)<|aB 3)<|@2) aI)
def aD0:US:=(aW (cE 3<|aU b41<|a6 (aB 2) aI) aC9)
def aD1:US:=(aW (fU (dF<|uOp (sA λi j=>decide (i<j)) (aB 2)<|@0) (eJ<|dY aI) dG) aD0)
def yG:US:=(aW (cE 2<|uOp M.gSub (uOp iR (aB 0)<|aB 0)<|uOp iR @4<|aB 1) aD1)
theorem sq_nn (x:Int):0<=x*x:=by
 rcases le_total 0 x with h|h
 .exact mul_nonneg h h
 .exact Int.mul_nonneg_of_nonpos_of_nonpos h h
theorem dE0 (ha:0<=a)(h:a<=b):a*a<=b*b:=a27 h h ha ad
theorem dY0 {g:Int}(hg:0<=g)(h1:g*g<=x*x)(h2:x*x< (g+1)*(g+1)):x=g\/x= -g:=by
 have e:(x.natAbs:Int)*(x.natAbs:Int)=x*x:=Int.natAbs_mul_self;have a1:(x.natAbs:Int)<=g:=by
  by_cases c:(x.natAbs:Int)<=g
  .exact c
  .have:=dE0 (a:=g+1) (b:=(x.natAbs:Int)) ad ad
   lia
 have a2:g<=(x.natAbs:Int):=by
  by_cases c:g<=(x.natAbs:Int)
  .exact c
  .have:=dE0 (a:=(x.natAbs:Int)+1) (b:=g) ad ad
   have h3:(x.natAbs:Int)*(x.natAbs:Int)< ((x.natAbs:Int)+1)*((x.natAbs:Int)+1):=by
    have:((x.natAbs:Int)+1)*((x.natAbs:Int)+1)=(x.natAbs:Int)*(x.natAbs:Int)+2*(x.natAbs:Int)+1:=by grind
    lia
   lia
 lia
theorem par {t g:Int}(h:g*g=t*t-4*m):(t+g)%2=0/\(t-g)%2=0:=by
 have h1:(t-g)*(t+g)=4*m:=by grind
 rcases aR5 (t+g)with c|c
 .exact⟨c,ad⟩
 .exfalso
  obtain⟨a,ha⟩: ∃a,t+g=2*a+1:=⟨(t+g)/2,ad⟩
  obtain⟨b,hb⟩: ∃b,t-g=2*b+1:=⟨(t-g)/2,ad⟩
  rw[ha,hb]at h1;have:2*(2*(b*a)+b+a-2*m)+1=0:=by grind
  lia
theorem bP4: Ra yF yG ["t","m","s","g"]:=by
 rintro ds Q ⟨t,m,rfl,ht,hm,h⟩;have p20:(2:Nat)^20=1048576:=ac
 have tt:(t*t).natAbs<=2^20*2^20:=kI ht ht;unfold yG;show(aW _ _:US) _ [!t,!m,none,none];rw[aP];left;refine⟨cmL aa aa,cmL ac ac,?_⟩
 have id1: ∀u:Int,u*(t-u)=m↔(2*u-t)*(2*u-t)=t*t-4*m:=λu=>by
  constructor
  .intro q;grind
  .intro q;have:4*(u*(t-u))=4*m:=by grind
   omega
 generalize esq:t*t-4*m=sq at id1;have sqb:sq.natAbs<=2^60:=by
  have:(2:Nat)^60=1152921504606846976:=ac
  have:(2:Nat)^20*2^20=1099511627776:=ac
  omega
 unfold aD1;rw[aP];left
 by_cases s0:sq<0
 .rw[a8 s0];refine⟨ac,h [] ae λu=> ?_⟩
  rw[id1];simp;intro q;have:=sq_nn (2*u-t);omega
 rw[a7 s0];unfold aD0;rw[aP];left;refine⟨sq,rfl,aa,Sm.pow sqb ac,λg g0 g1 g2=> ?_⟩
 have g30:g<=2^30:=by
  by_cases c:g<=2^30
  .exact c
  .have:=dE0 (a:=2^30+1) (b:=g) ac aa
   have:((2:Int)^30+1)*(2^30+1)>2^60:=ac
   have:((2^60:Nat):Int)=2^60:=ac
   omega
 have k30:(2:Int)^30=1073741824:=ac
 unfold aC9;right;rw[aP];left;refine⟨cmL aa aa,?_⟩
 by_cases c:g*g=sq
 .rw[a7 λz=>z c]
  rw[zM _ ac,zM _ ac]
  have pp:=par (t:=t) (g:=g) (m:=m) (by rw[c,esq])
  refine⟨⟨ac,cA2 ac ac⟩,⟨ac,cA2 ac ac⟩,ac,?_⟩
  refine h [(t+g)/2,(t-g)/2] ae λu=> ?_
  rw[id1];simp;constructor
  .rintro(rfl|rfl)
   .have:2*((t+g)/2)-t=g:=aa
    rw[this];exact c
   .have:2*((t-g)/2)-t= -g:=aa
    rw[this,Int.neg_mul_neg];exact c
  .intro q;have:=dY0 (g:=g) (x:=2*u-t) g0 aa aa
   omega
 .rw[a8 c];refine⟨ac,h [] ae λu=> ?_⟩
  rw[id1];simp;intro q;rw[<-q]at g1 g2 c;rcases dY0 g0 g1 g2 with z|z
  .rw[z]at c;exact c rfl
  .rw[z,Int.neg_mul_neg]at c;exact c rfl
def dE1 (g:UG)(tb:US)(E:UD)(b:B)(ρ1:Ev):Prop:=match oE b.d with
 | some l=> ∃Pv:Nat->Ev->Prop,Pv 0 ρ1/\(∀i ρ,i<l.length->Pv i ρ->g (.pu<|l.getD i .non) ρ λρ2=>tb {E with nx:=Pv (i+1),ct:=Pv (i+1),bk:=E.nx} ρ2)/\ ∀ρ,Pv l.length ρ->E.nx ρ
 | none=>False
theorem bI2 {φ:Φ}{t:UA}:mK (fS<|aU φ t) g tb E ρ=t ρ λds ρ1=>φ ds λb=>dE1 g tb E b ρ1:=rfl
theorem b73 {ρ1:Ev}(l:List Int)(Pv:Nat->Ev->Prop)(h0:Pv 0 ρ1)(hs: ∀i ρ,i<l.length->Pv i ρ->g (.pu<|.int<|l.getD i 0) ρ λρ2=>tb {E with nx:=Pv (i+1),ct:=Pv (i+1),bk:=E.nx} ρ2)(hd: ∀ρ,Pv l.length ρ->E.nx ρ):dE1 g tb E (.ow<|l.map .int) ρ1:=by
 show ∃Pv:Nat->Ev->Prop,Pv 0 ρ1/\(∀i ρ,i< (l.map D.int).length->Pv i ρ->g (.pu<|(l.map D.int).getD i .non) ρ λρ2=>tb {E with nx:=Pv (i+1),ct:=Pv (i+1),bk:=E.nx} ρ2)/\ ∀ρ,Pv (l.map D.int).length ρ->E.nx ρ
 rw[aF];refine⟨Pv,h0,λi ρ hi hp=> ?_,hd⟩
 have e3:(l.map D.int).getD i .non= .int (l.getD i 0):=by
  rw[aL,bX,aO hi,aL,aO hi];rfl
 rw[e3];exact hs i ρ hi hp
theorem bV6 {l:List Int}(hi:i<l.length):l.getD i 0∈l:=by rw[aL,aO hi];exact bY hi
theorem cB8 {l:List Int}(h: ∀k,k<l.length->P (l.getD k 0)): ∀x∈l,P x:=λx hx=>by
 obtain⟨k,hk,rfl⟩:=rK hx;have:=h k hk;rw[aL,aO hk]at this;exact this
def lZ:Φ:=λds Q=> ∃a b c d:Int,ds=[aX [a,b,c,d,1]]/\(∀x∈[a,b,c,d],x.natAbs<=499)/\a≠0/\((∀v u w s,[a,b,c,d,1]≠qq v u w s)->Q (.pu .non))/\
 ∀v u w s,[a,b,c,d,1]=qq v u w s->(∀x∈[v,u,w,s],x.natAbs<=2^40)->Q (.pu<|.tup [aX [v,u,1],aX [w,s,1]])
def m8:US:=(aW (mK (fS<|aU sY<|a6 (uIx (aQ 0)<|@0) aI) (dM 1)<|aW (cE 2<|uOp bO3 (uIx (aQ 0)<|@0)<|aB 1)<|mK (fS<|aU yF<|a6 (uIx (aQ 0)<|@3)<|a6 (uOp M.gSub (uOp M.gSub (uIx (aQ 0)<|@2)<|aB 1)<|aB 2) aI) (dM 3)<|aW (cE 4<|uOp M.gSub (uIx (aQ 0)<|@3)<|aB 3)<|fU (dF<|uOp (hG false) (uOp fH (uOp iR (aB 3)<|aB 2)<|uOp iR (aB 1)<|aB 4)<|uIx (aQ 0)<|@1) (eJ<|bL<|a6 (bL<|a6 (aB 1)<|a6 (aB 3)<|a6 @1 aI)<|a6 (bL<|a6 (aB 2)<|a6 (aB 4)<|a6 @1 aI) aI) dG)<|eJ<|uC .non)
theorem d12 {t:Int}(h:u*(t-u)=m)(ht:t.natAbs<=2^20)(hm:m.natAbs<=2^20):u.natAbs<=2^20:=by
 by_cases c:t-u=0
 .have:u=t:=ad
  rw[this];exact ht
 .have h1:m.natAbs=u.natAbs*(t-u).natAbs:=by rw[<-h,eC]
  have h2:u.natAbs*1<=u.natAbs*(t-u).natAbs:=v6 _ ad
  lia
theorem a99: Ra lZ m8 ["p","v","w","u","s"]:=by
 rintro ds Q ⟨a,b,c,d,rfl,hs,a0,hn,hy⟩;simp only[oR]at hs;obtain⟨ha,hb,hc,hd,_⟩:=hs;have p20:(2:Nat)^20=1048576:=ac
 have p40:(2:Nat)^40=1099511627776:=ac
 unfold m8;show(aW _ _:US) _ [~~~.tup [.int a,.int b,.int c,.int d,.int 1],none,none,none,none];have i0:atI [D.int a,.int b,.int c,.int d,.int 1] 0=some (.int a):=dL (j:=0) rfl;have i1:atI [D.int a,.int b,.int c,.int d,.int 1] 1=some (.int b):=dL (j:=1) rfl;have i2:atI [D.int a,.int b,.int c,.int d,.int 1] 2=some (.int c):=dL (j:=2) rfl
 have i3:atI [D.int a,.int b,.int c,.int d,.int 1] 3=some (.int d):=dL (j:=3) rfl;rw[aP,bI2];left;rw[i0];refine⟨a,rfl,ha,λl l9 _ l1 lb=> ?_⟩
 have ld:=l1 a0;refine b73 l (λi ρ=> ∃z1 z2 z3 z4,ρ=[~~~.tup [.int a,.int b,.int c,.int d,.int 1],z1,z2,z3,z4]/\ ∀k,k<i-> ∀u w s,[a,b,c,d,1]≠qq (l.getD k 0) u w s) ⟨none,none,none,none,rfl,λk hk=>ad⟩ ?_ ?_
 .rintro i ρ hi ⟨z1,z2,z3,z4,rfl,hk⟩;have mem:=bV6 hi;have vb:=lb _ mem;have vd:=(ld _).mp mem;generalize ev':l.getD i 0=v at vb vd;obtain⟨w,rfl⟩:=vd;have v0:v≠0:=λz=>a0 (by rw[z,fB])
  have wb:w.natAbs<=499:=by
   rw[eC]at ha;have:1*w.natAbs<=v.natAbs*w.natAbs:=uY _ ad
   lia
  refine⟨ae,?_⟩
  show(aW _ _:US) _ [~~~.tup [.int<|v*w,.int b,.int c,.int d,.int 1],!v,z2,z3,z4]
  rw[aP,gK];left;rw[i0];right;rw[Int.mul_fdiv_cancel_left _ v0];refine⟨⟨v0,cA2 ad ad⟩,?_⟩
  rw[bI2];left;rw[i3,i2];right;have cv:(c-v-w).natAbs<=2^20:=by
   have:=na2 (na2 hc (B:=499) (b:= -v) (by rw[rS];exact vb)) (B:=499) (b:= -w) (by rw[rS];exact wb)
   exact aN this ac
  have d2:d.natAbs<=2^20:=aN hd ac
  refine⟨d,c-v-w,rfl,d2,cv,λus _ hus=> ?_⟩
  refine b73 us (λj ρ=> ∃z3 z4,ρ=[~~~.tup [.int<|v*w,.int b,.int c,.int d,.int 1],!v,!w,z3,z4]/\ ∀k,k<j->us.getD k 0*w+v*(d-us.getD k 0)≠b) ⟨_,_,rfl,λk hk=>ad⟩ ?_ ?_
  .rintro j ρ hj ⟨z3,z4,rfl,hk2⟩;have um:=(hus _).mp (bV6 hj);generalize eu:us.getD j 0=u at um;have ub:=d12 um d2 cv;refine⟨ae,?_⟩
   show(aW _ _:US) _ [~~~.tup [.int<|v*w,.int b,.int c,.int d,.int 1],!v,!w,!u,z4]
   rw[aP];left;rw[i3];right;rw[i1];refine⟨cmL ad ad,cmL ad ad,?_⟩
   right
   by_cases q:u*w+v*(d-u)=b
   .rw[a8 q];refine⟨ac,ac,ac,hy v u w (d-u) ?_ ?_⟩
    .unfold qq;rw[<-q];have e1:v+w+u*(d-u)=c:=by rw[um];lia
     have e2:u+(d-u)=d:=ad
     rw[e1,e2]
    .simp only[oR];exact⟨ad,ad,ad,ad,ae⟩
   .rw[a7 q];refine⟨_,_,rfl,λk hk3=> ?_⟩
    by_cases ck:k<j
    .exact hk2 k ck
    .have:k=j:=ad
     rw[this,eu];exact q
  .rintro ρ ⟨z3,z4,rfl,hk2⟩;have no:=cB8 (P:=λu=>u*w+v*(d-u)≠b) hk2
   refine⟨_,_,_,_,rfl,λk hk3=> ?_⟩
   by_cases ck:k<i
   .exact hk k ck
   .have:k=i:=ad
    rw[this,ev'];intro u w' s q;unfold qq at q
    injection q with q0 q;injection q with q1 q;injection q with q2 q;injection q with q3 q
    have ww:w'=w:=by
     have:=Int.eq_of_mul_eq_mul_left v0 q0
     lia
    subst ww;have us':s=d-u:=ad
    subst us';exact no u ((hus u).mpr ad) q1.symm
 .rintro ρ ⟨z1,z2,z3,z4,rfl,hk⟩;left;refine hn λv u w s q=> ?_
  have no:=cB8 (P:=λv=> ∀u w s,[a,b,c,d,1]≠qq v u w s) hk
  refine no v ((ld v).mpr ?_) u w s q
  unfold qq at q
  injection q with q0 q
  exact⟨w,q0⟩
def aS7:Φ:=λds Q=> ∃p:List Int,ds=[aX p]/\cY p/\(¬Red p->Q (.pu .non))/\ ∀l r,Fac p l r->Red p->Q (.pu<|.tup [aX l,aX r])
def tG:US:=(vV 1)
def aD2:US:=(aW (fU (c75 (dF<|bO6 false<|aB 1)<|dF<|uOp (hG false) (kE<|aQ 0)<|@5) (cE 1<|aU lZ<|a6 (aB 0) aI) dG) tG)
def b74:US:=(aW (cE 1<|aU pG<|a6 (aB 0) aI) aD2)
def aS8:US:=(aW (aV8<|aU kL<|a6 (aB 0) aI) b74)
theorem cM7: Ra aS7 aS8 ["p","q"]:=by
 rintro ds Q ⟨p,rfl,hp,hn,hy⟩;unfold aS8;show(aW _ _:US) _ [~~~.tup (p.map .int),none];rw[aP];left;refine⟨p,rfl,hp,?_⟩;try right
 unfold b74;rw[aP];left;refine⟨p,rfl,hp,λnr=> ?_,λl r fac red=> ?_⟩
 .try right
  unfold aD2;rw[aP];left;rw[aF]
  by_cases c:(p.length:Int)=5
  .simp only[c,iQ];have sm:=hp.ok.small;rcases hp.cs with⟨a,b,rfl⟩| ⟨a,b,c',rfl⟩| ⟨a,b,c',d,rfl⟩
   .simp at c
   .simp at c
   .simp only[oR]at sm;refine⟨a,b,c',d,rfl,by simp only[oR];exact⟨sm.1,sm.2.1,sm.2.2.1,sm.2.2.2.1,ae⟩,λz=> ?_,λnq=> ?_,λv u w s q bd=> ?_⟩
    .refine nr 0 ?_
     rw[cT3 hp];exact z
    .unfold tG;left;refine hn λrd=> ?_
     rcases rd with⟨z,hz⟩| ⟨v,u,w,s,q⟩
     .exact nr z hz
     .exact nq v u w s q
    .unfold tG;left;exact hy _ _ (by rw[q];exact fac_qq bd) (.inr ⟨v,u,w,s,q⟩)
  .simp only[c,iQ,gW];unfold tG;left;refine hn λrd=> ?_
   rcases rd with⟨z,hz⟩| ⟨v,u,w,s,q⟩
   .exact nr z hz
   .rw[q]at c;exact c rfl
 .try right
  unfold aD2;rw[aP];left;unfold tG;left;exact hy l r fac red
nonrec def fOf (p:List Int):∅:=λj=>p.getD j 0
theorem cY.rf (h:cY p):RF (p.length-1) (fOf p):=by
 have lo:=h.ok.lo;have hi:=h.ok.hi;refine⟨aa,aa,?_,λj hj=> ?_,λj=> ?_⟩
 .obtain⟨q,rfl⟩:=h.one;show(q++[1]).getD _ 0=1;rw[cI,aL,uQ ae]
  simp
 .show p.getD j 0=0
  rw[aL,mO aa]
  rfl
 .exact aN (iS h.ok.small j) ac
theorem cY.row (h:cY p):aX p=aX (rwF (p.length-1+1)<|fOf p):=by
 have lo:=h.ok.lo;have e:=c20 p;rw[show p.length-1+1=p.length by omega]
 exact bO aX e
def aD3:Φ:=λds Q=> ∃(r:List Int) (k:Int),ds=[aX r,.int k]/\r.length<=1000/\ -1000<=k/\k<=1000/\Q (.pu<|aX<|r++replicate (k-(r.length:Int)).toNat 0)
def aD4:US:=(eJ<|uOp fH (aB 0)<|uOp cR0 (bL<|a6 @0 aI)<|uOp M.gSub (aB 1)<|kE<|aQ 0)
theorem cB9: Ra aD3 aD4 ["r","s"]:=by
 rintro ds Q ⟨r,k,rfl,hr,k0,k1,h⟩;unfold aD4;simp only[aX];show(eJ _:US) _ [~~~.tup (r.map .int),!k];left;rw[aF];have e:(replicate (k-(r.length:Int)).toNat [D.int 0]).flatten=(replicate (k-(r.length:Int)).toNat 0).map D.int:=cA3 _ _;rw[e,<-bT];refine⟨ac,⟨ae,ad,ad,aN (show 1*(k-(r.length:Int)).toNat<=1000 by lia) ac⟩,?_,h⟩
 rw[aF,List.length_replicate];exact aN (show r.length+(k-(r.length:Int)).toNat<=3000 by lia) ac
def jQ:ΦX:=λds Q Ex=> ∃p:List Int,ds=[aX p]/\p.length<=1000/\(cY p->Q (.pu .non))/\(¬cY p->Ex "NoPolynomial" [])
def nA:USX:=(λEx=>fU (bY5<|dF<|aU mI<|a6 (aB 0) aI) ((bF8 "NoPolynomial"<|a6 (uC<|.str "a ring's polynomial is monic, of degree 2 to 4, with places from -499 to 499") aI) Ex) ((λ_=>dG) Ex))
theorem aA0: ∀ds Q Ex,jQ ds Q Ex->ds.length=1:=by rintro ds Q Ex ⟨p,rfl,_⟩;rfl
theorem aD5: ∀ds Q Ex,jQ ds Q Ex->nA Ex {Q with} (init ["r"] ds):=by
 rintro ds Q Ex ⟨p,rfl,hl,h0,h1⟩;unfold nA;right;show(fU _ _ _:US) _ [~~~aX p];left;refine⟨p,rfl,hl,?_⟩
 by_cases c:cY p
 .rw[(bG7 p).mpr c]
  simpa using h0 c
 .rw[dQ6 c];exact⟨ac,h1 c⟩
def kM:ΦX:=λds Q Ex=> ∃p:List Int,ds=[aX p]/\cY p/\(¬Red p->Q (.pu .non))/\(Red p-> ∀es,Ex "FallsApart" es)
def o9:USX:=(λEx=>aW ((λ_=>(cE 1<|aU aS7<|a6 (aB 0) aI)) Ex) ((λEx=>fU (dF<|bO6 true<|aB 1) ((aW7 "FallsApart" (uIx (aQ 1)<|@0)<|uIx (aQ 1)<|@1) Ex) ((λ_=>dG) Ex)) Ex))
theorem aD6: ∀ds Q Ex,kM ds Q Ex->ds.length=1:=by rintro ds Q Ex ⟨p,rfl,_⟩;rfl
theorem aK7: ∀ds Q Ex,kM ds Q Ex->o9 Ex {Q with} (init ["p","q"] ds):=by
 rintro ds Q Ex ⟨p,rfl,rp,h0,h1⟩;unfold o9;right;show(aW _ _:US) _ [~~~aX p,none];rw[aP];left;refine⟨p,rfl,rp,λnr=> ?_,λl r fac red=> ?_⟩
 .left
  simpa using h0 nr
 .left
  simp only[at0,at1];exact h1 red _
def Wh (n:Nat)(f:∅)(size:Int):Prop:= ∃xf,SPs n f size xf/\ ∀p∈prL,sqB size p=true->bI1 n f p (xf p)
def NWh (n:Nat)(f:∅)(size:Int):Prop:= ∃xf,SPs n f size xf/\ ¬ ∀p∈prL,sqB size p=true->bI1 n f p (xf p)
def nP:ΦX:=λds Q Ex=> ∃(p:List Int) (size:Int),ds=[aX p,.int size]/\cY p/\(Wh (p.length-1) (fOf p) size->Q (.pu .non))/\(NWh (p.length-1) (fOf p) size->(∃q g,dD8 (p.length-1) (fOf p) size q g)-> ∀es,Ex "NotWhole" es)
def sF:USX:=(λEx=>aW ((λ_=>(cE 2<|aU tU<|a6 (aB 0)<|a6 (aU qJ<|a6 (aB 0)<|a6 (aB 1) aI) aI)) Ex) ((λEx=>fU (dF<|bO6 true<|aB 2) ((λEx=>aW ((λ_=>(bD7 (aB 2)<|pP<|eH 3<|eH 4 pO)) Ex) ((aW7 "NotWhole" (aB 3)<|aU aD3<|a6 (aU iV<|a6 (gD [3] [none,some 3,none] 2 (fS<|aB 4) (dM 0) (λρ Q=>Q true ρ)<|uOp kX (aB 0)<|aB 1) aI)<|a6 (uOp M.gSub (kE<|aQ 0)<|@1) aI) Ex)) Ex) ((λ_=>dG) Ex)) Ex))
theorem aY0: ∀ds Q Ex,nP ds Q Ex->ds.length=2:=by rintro ds Q Ex ⟨p,size,rfl,_⟩;rfl
theorem b43: ∀ds Q Ex,nP ds Q Ex->sF Ex {Q with} (init ["p","s","o","q","f"] ds):=by
 rintro ds Q Ex ⟨p,size,rfl,rp,h0,h1⟩;have rf:=rp.rf;rw[rp.row];generalize p.length-1=n at *;generalize fOf p=f at *;unfold sF;right;show(aW _ _:US) _ [~~~aX (rwF (n+1) f),!size,none,none,none];rw[aP];left;refine⟨n,f,size,rfl,rf,λxf hP=>⟨n,f,size,xf,rfl,rf,hP,λfine=> ?_,λq g outs nf=> ?_⟩⟩
 .left
  simpa using h0 ⟨xf,hP,fine⟩
 .have pp:=kH outs.pr;have p2:=pp.lo;have p3:=pp.hi;have ql:(dR6 n f g).length<=5:=by
   unfold dR6;rw[a56];have:=xF (divQ g.2 g.1 (n+1-g.1) f) (n+1-g.1);have:=rf.n4
   lia
  have h1':=h1 ⟨xf,hP,nf⟩ ⟨q,g,outs⟩;generalize dR6 n f g=r at *;simp only[aX];left;refine⟨ac,ac,trivial,?_⟩
  refine jJ (t0:=0) r.length (λk=>(r.map D.int).getD k .non) [~~~.tup ((rwF (n+1) f).map .int),!size,~~~.tup [.int q,.tup<|r.map .int],!q,~~~.tup (r.map .int)] (λQ' q=> ?_) ad (λx l'=>[x,!q,↑l']) none rfl (λ_ _ _=>rfl) (λ_ _=>dR _) (λ_ _ _ q=>q) (λ_ _ _=>rfl) (λk=> .int (r.getD k 0%q)) ?_ ?_
  .left
   rw[aF];exact q
  .intro k l' Q' hk q';have e3:(r.map D.int).getD k .non= .int (r.getD k 0):=by
    rw[aL,bX,aL,aO hk];rfl
   rw[e3]at q'⊢;left;refine⟨ad,?_⟩
   rw[dZ _ ad]
   exact q'
  .have e4:(List.range r.length).map (λk=>D.int (r.getD k 0%q))=((List.range r.length).map λk=>r.getD k 0%q).map D.int:=by rw[dW];rfl
   rw[e4];have n4:=rf.n4;left;refine⟨(List.range r.length).map λk=>r.getD k 0%q,(n:Int),?_,by rw[aF,a15];lia,ad,ad,h1' _⟩
   rw[gQ];refine bO (λz=>[_,D.int z]) ad
structure RingOk (p:List Int):Prop where
 rp:cY p
 irr: ¬Red p
 meas:(fW 4<|dJ p).natAbs<=39999
 whole: ¬ ∃q g,dD8 (p.length-1) (fOf p) (fW 4<|dJ p) q g
def lN:ΦM:=λds Q Ex=> ∃p:List Int,ds=[aX p]/\p.length<=1000/\(cY p->(¬Red p->(fW 4<|dJ p).natAbs<=39999->Wh (p.length-1) (fOf p) (fW 4<|dJ p)->Q [aX p,.int<|(p.length:Int)-1,.int<|fW 4<|dJ p])/\(Red p-> ∀es,Ex "FallsApart" es)/\(39999< (fW 4<|dJ p).natAbs->Ex "TooGreat" [])/\(NWh (p.length-1) (fOf p) (fW 4<|dJ p)->(∃q g,dD8 (p.length-1) (fOf p) (fW 4<|dJ p) q g)-> ∀es,Ex "NotWhole" es))/\(¬cY p->Ex "NoPolynomial" [])
def bI3:USX:=(λEx=>aW ((λEx=>aV8 (bF7 jQ (a6 (aB 1) aI) Ex)) Ex) ((λEx=>aW ((λEx=>aV8 (bF7 kM (a6 (aB 1) aI) Ex)) Ex) ((λEx=>aW ((λ_=>(cE 2<|aU a54<|a6 (aB 1) aI)) Ex) ((λEx=>aW ((λEx=>fU (dF<|uOp (sA λi j=>decide (j<i)) (aU cX9<|a6 (aB 2) aI)<|@39999) ((bF8 "TooGreat"<|a6 (uC<|.str "a ring's measure is from -39,999 to 39,999") aI) Ex) ((λ_=>dG) Ex)) Ex) ((λEx=>aV8 (bF7 nP (a6 (aB 1)<|a6 (aB 2) aI) Ex)) Ex)) Ex)) Ex)) Ex))
def bI4:UE:=(aB 1)
def bI5:UE:=(uOp M.gSub (kE<|aQ 1)<|@1)
def bI6:UE:=(aB 2)
theorem d13: ∀ds Q Ex,lN ds Q Ex->ds.length+1=2:=by rintro ds Q Ex ⟨p,rfl,_⟩;rfl
theorem dE2: ∀a ds Q Ex,lN ds Q Ex->bI3 Ex {nx:=λρ=>ρ[0]? =some (~~~.adr a)/\bI4 ρ λb1 ρ1=>bI5 ρ1 λb2 ρ2=>bI6 ρ2 λb3 _=>Q [b1.d,b2.d,b3.d],rt:=λ_=>False} (init ["s","p","m"] (.adr a::ds)):=by
 rintro a ds Q Ex ⟨p,rfl,hl,hh,no⟩;unfold bI3;right;show(aW _ _:US) _ [~~~.adr a,~~~aX p,none];rw[aP];left;refine⟨p,rfl,hl,λrp=> ?_,no⟩
 obtain⟨h0,hr,h1,h2⟩:=hh rp;have lo:=rp.ok.lo;refine⟨p,rfl,rp,λnr=> ?_,hr⟩
 refine⟨p,rfl,rp,?_⟩
 left
 by_cases c:(39999:Int)< (if fW 4 (dJ p)<0 then -fW 4 (dJ p)else fW 4 (dJ p))
 .rw[a8 c];exact⟨ac,h1 (by split at c<;>omega)⟩
 .rw[a7 c];have me:(fW 4<|dJ p).natAbs<=39999:=by split at c<;>omega
  refine⟨p,fW 4<|dJ p,rfl,rp,λwh=>⟨trivial,?_⟩,h2⟩
  unfold bI4 bI5 bI6;simp only[aX];left;rw[aF];exact h0 nr me wh
nonrec def c24 (r:List Int)(m:Int):Bool:=r.any λc=>decide (c%m≠0)
nonrec def dE3 (p:List Int)(size:Int):Bool:=prL.all λq=>decide (size%(q*q)≠0)||
 ((List.range q.toNat).all (λc=>c24 (zS (p.length-1) (fOf p)<|gP (c:Int)) (q*q))&&
   (decide (p.length≠5)||(List.range q.toNat).all λv=>(List.range q.toNat).all λu=>c24 (zS (p.length-1) (fOf p)<|quF (v:Int) (u:Int)) (q*q)))
theorem c25 {p:Int}(mp:MP p F.1 F.2)(h1:F.1=1):F=gP (F.2 0):=by
 refine gJ h1 (funext λj=> ?_)
 show F.2 j=if j=0 then F.2 0 else if j=1 then 1 else 0
 by_cases c0:j=0
 .rw[a8 c0,c0]
 .by_cases c1:j=1
  .rw[a7 c0,a8 c1,c1];have:=mp.top;rw[h1]at this;exact this
  .rw[a7 c0,a7 c1];exact mp.hi j ad
theorem aY1 {r:List Int}(h: ∀c∈r,c%m=0):c24 r m=false:=by
 unfold c24;rw[List.any_eq_false];intro c hc;simp[h c hc]
theorem dE4 {size:Int}(rp:cY p)(h:dE3 p size=true): ¬ ∃q g,dD8 (p.length-1) (fOf p) size q g:=by
 rintro⟨q,g,o⟩;have lo:=rp.ok.lo;have hi:=rp.ok.hi;have pp:=kH o.pr;have h1:=cC.mp h q o.pr;rw[vD,bP]at h1;have nz: ¬decide (size%(q*q)≠0)=true:=by rw[cR];exact λz=>z o.sq
 obtain⟨h2,h3⟩:=h1.resolve_left nz;obtain⟨R,mR,e⟩:=o.tw;have dg:p.length-1=g.1+g.1+R.1:=bO Prod.fst e;have g1:=o.g1
 by_cases c1:g.1=1
 .have eg:=c25 o.mg c1;have r0:=o.mg.rng 0;have h4:=cC.mp h2 (g.2 0).toNat (cJ.mpr ad)
  rw[show(((g.2 0).toNat:Nat):Int)=g.2 0 by lia,<-eg,aY1 o.all]at h4
  cases h4
 .have c2:g.1=2:=ad
  have eg:=mp_two o.mg c2;have r0:=o.mg.rng 0;have r1:=o.mg.rng 1;have n5: ¬decide (p.length≠5)=true:=by rw[cR];lia
  have h4:=(vD _ _▸h3).resolve_left n5;have h5:=cC.mp (cC.mp h4 (g.2 0).toNat<|cJ.mpr ad) (g.2 1).toNat (cJ.mpr ad)
  rw[show(((g.2 0).toNat:Nat):Int)=g.2 0 by lia,show(((g.2 1).toNat:Nat):Int)=g.2 1 by lia,<-eg,aY1 o.all]at h5
  cases h5
nonrec def aD7:List (List Int):=[[5,0,1],[-10,0,1],[6,1,1],[-3,0,1],[-1,-1,0,1],[-2,0,0,1],[-1,4,0,1],[1,0,0,0,1],[-1,-1,0,0,1],[1,1,1,1,1],[-2,0,0,0,1],[1,0,-1,0,1]]
nonrec def tW:List (List Int):=aD7++[[-6,0,0,1]]
theorem kx (h:p∈aD7):p∈tW:=gS _ h
theorem cC0:tW.all (λp=>dE3 p (fW 4<|dJ p)&&decide ((fW 4<|dJ p).natAbs<=39999))=true:=af
theorem a59: ∀p∈tW,cY p:=by
 intro p hp;have h:tW.all (λp=>decide (3<=p.length)&&decide (p.length<=5)&&p.all (λx=>decide (x.natAbs<=499))&&decide (p=p.dropLast++[1]))=true:=af
 have h1:=cC.mp h p hp;simp only[bP,cR,cC]at h1;exact⟨⟨h1.1.1.1,h1.1.1.2,h1.1.2⟩,p.dropLast,h1.2⟩
theorem cT4 (f:∅)(z:Int): ∀n,∃k,ps f z (n+1)=f 0+z*k
 | 0=>⟨0,by show 0+f 0*z^0=_;rw[kA,kB,aY];lia⟩
 | n+1=>by
  obtain⟨k,hk⟩:=cT4 f z n;refine⟨k+f (n+1)*z^n,?_⟩;show ps f z (n+1)+f (n+1)*z^(n+1)=_;rw[hk,rW]
  grind
theorem aS9 {z:Int}(h:z∣a)(ha:a≠0):z.natAbs<=a.natAbs:=a30 ad (aO8.mpr h)
theorem c26:tW.all (λp=>decide (p.getD 0 0≠0)&&decide ((p.getD 0 0).natAbs<=10)&&(List.range 21).all λk=>decide (ev p ((k:Int)-10)≠0))=true:=af
theorem cM8:tW.all (λp=>decide (p.length≠5)||(decide ((p.getD 0 0).natAbs<=2)&&decide ((p.getD 2 0).natAbs<=1)&&decide ((p.getD 3 0).natAbs<=1)&&
  (List.range 5).all λv=>(List.range 5).all λw=>(List.range 7).all λu=>(List.range 9).all λs=>decide (p≠qq ((v:Int)-2) ((u:Int)-3) ((w:Int)-2) ((s:Int)-4))))=true:=af
theorem dE5 (h1:(u+s).natAbs<=1)(h2:(u*s).natAbs<=5):u.natAbs<=3:=by
 refine uS λz=> ?_
 rcases(show 4<=u\/u<= -4 by lia)with c|c
 .have:4*3<=u*(-s):=a27 c ad ac ad
  rw[Int.mul_neg]at this
  lia
 .have:4*3<=(-u)*s:=a27 ad ad ac ad
  rw[Int.neg_mul]at this
  lia
theorem off {z:Int}{c:Nat}(h:z.natAbs<=c): ∃k:Nat,k<2*c+1/\(k:Int)-(c:Int)=z:=⟨(z+c).toNat,ad,ad⟩
theorem d14: ∀p∈tW,¬Red p:=by
 intro p hp;have h1:=cC.mp c26 p hp;simp only[bP,cR,cC,cJ]at h1;obtain⟨⟨a0,a1⟩,a2⟩:=h1;have lo:=(a59 p hp).ok.lo;rintro(⟨z,hz⟩| ⟨v,u,w,s,e⟩)
 .unfold ev at hz;obtain⟨k,hk⟩:=cT4 (λj=>p.getD j 0) z (p.length-1)
  rw[show p.length-1+1=p.length by omega,hz]at hk
  have dv:z∣p.getD 0 0:=⟨-k,by rw[Int.mul_neg];omega⟩
  obtain⟨k,hk,ez⟩:=off (c:=10) (aN (aS9 dv a0) a1);refine a2 k hk ?_;rw[show((10:Nat):Int)=10 from rfl]at ez
  rw[ez];exact hz
 .have h2:=cC.mp cM8 p hp;have l5:p.length=5:=by rw[e];rfl
  rw[vD]at h2;have h3:=h2.resolve_left (by rw[cR];omega)
  simp only[bP,cR,cC,cJ]at h3;obtain⟨⟨⟨b0,b2⟩,b3⟩,b4⟩:=h3;have e0:p.getD 0 0=v*w:=by rw[e];rfl
  have e2:p.getD 2 0=v+w+u*s:=by rw[e];rfl
  have e3:p.getD 3 0=u+s:=by rw[e];rfl
  have v2:=aS9 (z:=v) ⟨w,e0⟩ a0;have w2:=aS9 (z:=w) ⟨v,by rw[e0,mW]⟩ a0
  rw[e2]at b2;rw[e3]at b3;have ng: ∀{z:Int} {A:Nat},z.natAbs<=A->(-z).natAbs<=A:=λh=>by rw[rS];exact h
  have u3:=dE5 b3 (by
   have:=na2 (na2 b2<|ng<|aN v2 b0) (ng<|aN w2 b0);rw[show v+w+u*s+ -v+ -w=u*s by grind]at this
   exact this)
  obtain⟨kv,hv,ev⟩:=off (c:=2) (aN v2 b0);obtain⟨kw,hw,ew⟩:=off (c:=2) (aN w2 b0);obtain⟨ku,hu,eu⟩:=off u3;obtain⟨ks,hs,es⟩:=off (z:=s) (c:=4) (by
   have:=na2 b3 (ng u3);rw[show u+s+ -u=s by lia]at this
   exact this)
  refine b4 kv hv kw hw ku hu ks hs ?_
  subst ev ew eu es;exact e
theorem dE6: ∀p∈tW,RingOk p:=by
 intro p hp;have h1:=cC.mp cC0 p hp;simp only[bP,cR]at h1;exact⟨a59 p hp,d14 p hp,h1.2,dE4 (a59 p hp) h1.1⟩
nonrec def qX (C:Addr)(p:List Int):D:= .obj C ["poly","degree","measure"] [aX p,.int<|(p.length:Int)-1,.int<|fW 4<|dJ p]
theorem sG {C:Addr}(h:ρ[i]? =some (~~~qX C p)):aS4 "poly" (aB i) ρ Q=Q (.pu<|aX p) ρ:=by
 unfold aS4;rw[nO h];rfl
nonrec def ttF (p:List Int)(n:Nat)(u:∅):∅:=λi=>(if i=0 then 0 else u (i-1))-u (n-1)*p.getD i 0
nonrec def itT (p:List Int)(n:Nat)(u:∅):Nat->∅
 | 0=>u
 | k+1=>ttF p n (itT p n u k)
nonrec def wY (n:Nat)(f:∅):Int:=((List.range n).map f).sum
nonrec def timF (p:List Int)(n:Nat)(u v:∅):∅:=λj=>wY n λi=>v i*itT p n u i j
theorem bI7 (row:List Int)(s:Int): ∀k,(b36 row s k).length=row.length
 | 0=>rfl
 | k+1=>by unfold b36;rw[gH];exact bI7 row s k
theorem cT5 (p:List Int)(s:Int): ∀k,(shK p s k).length=p.length
 | 0=>rfl
 | k+1=>by unfold shK;rw[bI7];exact cT5 p s k
theorem dE7 {k:Nat}(h:k<n):ixN n (k:Int)=some k:=by
 unfold ixN;rw[a8 ad,a8 ad,jU]
theorem dE8 (l:List Int)(k:Nat)(x:Int):(l.map D.int).set k (.int x)=(l.set k x).map D.int:=by rw[List.map_set]
def a60:Φ:=λds Q=> ∃(p:List Int) (s:Int),ds=[aX p,.int s]/\3<=p.length/\p.length<=5/\s.natAbs<=3/\Q (.pu<|aX<|shK p s<|p.length-1)
def aT0:US:=(aW (cE 2<|aU aI1<|a6 (aB 0) aI)<|aW (mK (pQ<|a6 (uOp M.gSub (kE<|aQ 2)<|@1) aI) (dM 3)<|mK (cQ7<|a6 (uOp M.gSub (kE<|aQ 2)<|@2)<|a6 (uOp M.gSub (aB 3)<|@1)<|a6 (kD<|@1) aI) (dM 4)<|cQ0 2 (uOp fH (uIx (aQ 2)<|aB 4)<|uOp iR (aB 1)<|uIx (aQ 2)<|uOp fH (aB 4)<|@1)<|aB 4)<|eJ<|aU iV<|a6 (aB 2) aI)
theorem cM9: Ra a60 aT0 ["p","s","r","l","a"]:=by
 rintro ds Q ⟨p,s,rfl,h3,h5,hs,h⟩;have lp:(p.map D.int).length=p.length:=aF _;unfold aT0;show(aW _ _:US) _ [~~~.tup (p.map .int),!s,none,none,none];left;refine fE (p.length-1) (λi=> .int (0+i)) [~~~.tup (p.map .int),!s,↑(p.map .int),none,none] ?_
  (λi ρ=> ∃x y,ρ=[~~~.tup (p.map .int),!s,↑((shK p s i).map .int),x,y]) ⟨none,none,rfl⟩ ?_ ?_
 .intro Q' q;simp only[pQ];left;rw[lp];refine⟨ad,?_⟩
  rw[show((p.length:Int)-1).toNat=p.length-1 by lia]
  exact q
 .rintro i ρ hi ⟨x,y,rfl⟩;have lk:=cT5 p s i;have e1:shK p s (i+1)=b36 (shK p s i) s (p.length-1-i):=rfl;rw[e1];generalize shK p s i=row at lk;have lrow:(row.map D.int).length=row.length:=aF _;left;refine⟨ac,?_⟩
  refine fE (p.length-1-i) (λk=> .int ((p.length:Int)-2-k)) [~~~.tup (p.map .int),!s,↑(row.map .int),!(0+(i:Int)),y] ?_
   (λk ρ=> ∃y,ρ=[~~~.tup (p.map .int),!s,↑((b36 row s k).map .int),!(0+(i:Int)),y]) ⟨y,rfl⟩ ?_ ?_
  .intro Q' q;simp only[cQ7];left;rw[lrow,lk];refine⟨trivial,ad,?_⟩
   rw[show((p.length:Int)-2-(0+(i:Int)-1)).toNat=p.length-1-i by lia]
   exact q
  .rintro k ρ hk ⟨y,rfl⟩;have l2:=bI7 row s k;left;refine⟨ac,?_⟩
   have a1:(p.length:Int)-2-(k:Int)=((p.length-2-k:Nat):Int):=ad
   have a2:((p.length-2-k:Nat):Int)+1=((p.length-1-k:Nat):Int):=ad
   rw[a1,a2,aB9<|show p.length-2-k< (b36 row s k).length by lia,aB9<|show p.length-1-k< (b36 row s k).length by lia]
   right;rw[dE7 (show p.length-2-k< ((b36 row s k).map D.int).length by rw[aF];lia)]
   refine⟨cmL ad ad,!((p.length-2-k:Nat):Int),?_⟩
   rw[dE8];rw[<-lk];rfl
  .rintro ρ ⟨y,rfl⟩;exact⟨_,_,rfl⟩
 .rintro ρ ⟨x,y,rfl⟩;left;exact h
def yH:Φ:=λds Q=> ∃c:Int,ds=[.int c]/\ ∀p∈aD7,Q (.pu<|aX p)
def aD8:US:=(eJ<|uIx (aQ 1)<|uOp kX (aU aB8<|a6 (aB 0)<|a6 @3<|a6 @998244353 aI)<|@12)
def aD9:US:=(aW (cE 1<|uOp fH (aB 1)<|dY<|a6 (bL<|a6 @1<|a6 @0<|a6 @0<|a6 @0<|a6 @1 aI)<|a6 (bL<|a6 (kD<|@1)<|a6 (kD<|@1)<|a6 @0<|a6 @0<|a6 @1 aI)<|a6 (bL<|a6 @1<|a6 @1<|a6 @1<|a6 @1<|a6 @1 aI)<|a6 (bL<|a6 (kD<|@2)<|a6 @0<|a6 @0<|a6 @0<|a6 @1 aI)<|a6 (bL<|a6 @1<|a6 @0<|a6 (kD<|@1)<|a6 @0<|a6 @1 aI) aI) aD8)
def yI:US:=(aW (cE 1<|dY<|a6 (bL<|a6 @5<|a6 @0<|a6 @1 aI)<|a6 (bL<|a6 (kD<|@10)<|a6 @0<|a6 @1 aI)<|a6 (bL<|a6 @6<|a6 @1<|a6 @1 aI)<|a6 (bL<|a6 (kD<|@3)<|a6 @0<|a6 @1 aI)<|a6 (bL<|a6 (kD<|@1)<|a6 (kD<|@1)<|a6 @0<|a6 @1 aI)<|a6 (bL<|a6 (kD<|@2)<|a6 @0<|a6 @0<|a6 @1 aI)<|a6 (bL<|a6 (kD<|@1)<|a6 @4<|a6 @0<|a6 @1 aI) aI) aD9)
theorem dE9 (h0:0<=k)(h1:k<12): ∃p∈aD7,atI (aD7.map aX) k=some (aX p):=by
 obtain⟨i,rfl⟩: ∃i:Nat,k=(i:Int):=⟨k.toNat,ad⟩
 have hi:i<aD7.length:=show i<12 by lia
 exact⟨aD7[i],bY hi,dL (by rw[bX,aO hi];rfl)⟩
theorem bP5: Ra yH yI ["c","k"]:=by
 rintro ds Q ⟨c,rfl,h⟩;unfold yI;show(aW _ _:US) _ [!c,none];rw[aP];left;refine⟨ac,ac,ac,ac,ac,ac,ac,ac,?_⟩
 unfold aD9;rw[aP];left;refine⟨ac,ac,ac,ac,ac,ac,ac,?_⟩
 unfold aD8;left;refine⟨c,3,998244353,rfl,ac,ac,ac,λr r0 r1=> ?_⟩
 left
 refine⟨ac,?_⟩
 rw[dZ _ ac]
 obtain⟨p,hp,e⟩:=dE9 (dS r<|show(12:Int)≠0 by decide) (dO r<|show(0:Int)<12 by decide)
 have e': ∀l:List D,l=aD7.map aX->(match atI l (r%12)with|some x=>Q (.pu x)|none=>False):=λl hl=>by
  rw[hl,e];exact h p hp
 exact e' _ rfl
def c27:Φ:=λds Q=> ∃c q:Int,ds=[.int c,.int q]/\0<q/\ ∀p,cY p->Q (.pu<|aX p)
structure RG (p:List Int):Prop where
 irr: ¬Red p
 meas:(fW 4<|dJ p).natAbs<=39999
 wh:Wh (p.length-1) (fOf p) (fW 4<|dJ p)
theorem bI8 (hp:p∈tW){W:Addr->List D->Prop}(go:cY p->RG p-> ∀C,W C [aX p,.int<|(p.length:Int)-1,.int<|fW 4<|dJ p]):lN [aX p] (λl=> ∀C,W C l) λ_ _=>False:=
 have ok:=dE6 p hp;have rp:=a59 p hp
 ⟨p,rfl,aN rp.ok.hi ac,λ_=>⟨λnr me wh=>go rp ⟨nr,me,wh⟩,λred=>absurd red ok.irr,λz=>absurd ok.meas aa,λ_ o=>absurd o ok.whole⟩,λno=>absurd rp no⟩
def c28:Φ:=λds Q=> ∃(ns:List Int) (k:Nat) (q:Int),ds=[.rol<|ns.map .int,.int (k:Int),.int q]/\ns.length<=63/\k<=1000/\0<q/\ ∀C p,cY p->RG p->Q (.pu<|qX C p)
def bI9:US:=(vV 3)
def cC1:US:=(aW (fU (dF<|bO6 false<|aB 3) (cE 3<|bU8 ["poly","degree","measure"] lN<|a6 (aU yH<|a6 (aU a50<|a6 (aB 0)<|a6 (aB 1) aI) aI) aI) dG) bI9)
def cC2:US:=(aW (mK (pQ<|a6 @3 aI) (dM 4)<|fU (dF<|bO6 false<|aB 3) (cA1 3 ["poly","degree","measure"] lN (a6 (aU c27<|a6 (aU a50<|a6 (aB 0)<|a6 (uOp fH (aB 1)<|aB 4) aI)<|a6 (aB 2) aI) aI) ["FallsApart","TooGreat","NotWhole","NoPolynomial"]<|cE 3<|uC .non) dG) cC1)
def c29:US:=(aW (cE 3<|uC .non) cC2)
theorem dR7: Ra c28 c29 ["s","k","q","f","j"]:=by
 rintro ds Q ⟨ns,k,q,rfl,hl,hk,hq,h⟩;unfold c29;show(aW _ _:US) _ [~~~.rol (ns.map .int),!(k:Int),!q,none,none];rw[aP];left;unfold cC2;rw[aP];refine fE 3 (λi=> .int (0+i)) [~~~.rol (ns.map .int),!(k:Int),!q,~~~.non,none] (λQ' q=> ?_)
  (λi ρ=> ∃d x,ρ=[~~~.rol (ns.map .int),!(k:Int),!q,~~~d,x]/\(d= .non\/ ∃C p,cY p/\RG p/\d=qX C p)) ⟨.non,none,rfl,.inl rfl⟩ ?_ ?_
 .left
  exact⟨ac,q⟩
 .rintro i ρ hi ⟨d,x,rfl,hd⟩;refine⟨ae,?_⟩
  rcases hd with rfl| ⟨C,p,rp,nr,rfl⟩
  .left
   unfold cA1;left;refine⟨ns,(k:Int)+(0+(i:Int)),rfl,hl,ad,ad,λc=>⟨c,q,rfl,hq,λp rp=> ?_⟩⟩
   left
   refine⟨p,rfl,aN rp.ok.hi ac,λ_=>⟨λnr me wh C=>⟨qX C p,!(0+(i:Int)),rfl,.inr ⟨C,p,rp,⟨nr,me,wh⟩,rfl⟩⟩,λ_ _=>⟨ae,.non,_,rfl,.inl rfl⟩,λ_=>⟨ae,.non,_,rfl,.inl rfl⟩,λ_ _ _=>⟨ae,.non,_,rfl,.inl rfl⟩⟩,λno=>absurd rp no⟩
  .simp only[qX];left;exact⟨qX C p,_,rfl,.inr ⟨C,p,rp,nr,rfl⟩⟩
 .rintro ρ ⟨d,x,rfl,hd⟩;right;unfold cC1;rw[aP];rcases hd with rfl| ⟨C,p,rp,nr,rfl⟩
  .left
   unfold bU8;left;refine⟨ns,(k:Int),rfl,hl,ad,ad,λc=>⟨c,rfl,λp hp=> ?_⟩⟩
   left
   refine bI8 (kx hp) λrp rg C=> ?_
   unfold bI9;left;exact h C p rp rg
  .simp only[qX];left;unfold bI9;left;exact h C p rp nr
def cC3:US:=(eJ<|aU a60<|a6 (bL<|a6 (uOp M.gSub (uIx (aQ 4)<|@2)<|@3)<|a6 (uOp M.gSub (uIx (aQ 4)<|@3)<|@3)<|a6 (uOp M.gSub (uIx (aQ 4)<|@4)<|@3)<|a6 (uOp M.gSub (uIx (aQ 4)<|@6)<|@3)<|a6 @1 aI)<|a6 (uOp M.gSub (uIx (aQ 4)<|@5)<|@2) aI)
def cC4:US:=(aW (cE 4<|aU qF<|a6 (aB 0)<|a6 (dY<|a6 @3<|a6 @8<|a6 @7<|a6 @7<|a6 @7<|a6 @5<|a6 @7 aI)<|a6 (aB 1) aI) cC3)
def cC5:US:=(aW (fU (dF<|uOp (hG false) (uIx (aQ 2)<|@0)<|@1) (eJ<|aU a60<|a6 (bL<|a6 (uOp M.gSub (uIx (aQ 4)<|@2)<|@4)<|a6 (uOp M.gSub (uIx (aQ 4)<|@3)<|@4)<|a6 (uOp M.gSub (uIx (aQ 4)<|@4)<|@4)<|a6 @1 aI)<|a6 (uOp M.gSub (uIx (aQ 4)<|@5)<|@2) aI) dG) cC4)
def cC6:US:=(aW (fU (dF<|uOp (hG false) (uIx (aQ 2)<|@0)<|@0) (aW (cE 4<|aU qF<|a6 (aB 0)<|a6 (dY<|a6 @3<|a6 @8<|a6 @161<|a6 @41 aI)<|a6 (aB 1) aI)<|eJ<|bL<|a6 (uOp M.gSub (uIx (aQ 4)<|@2)<|@80)<|a6 (uOp M.gSub (uIx (aQ 4)<|@3)<|@20)<|a6 @1 aI) dG) cC5)
def bJ0:US:=(aW (cE 4<|aU qF<|a6 (aB 0)<|a6 (dY<|a6 @3<|a6 @8<|a6 @9<|a6 @9<|a6 @9<|a6 @5<|a6 @7 aI)<|a6 (aB 1) aI) cC6)
def cC7:US:=(aW (fU (dF<|uOp (hG false) (uIx (aQ 2)<|@1)<|@7) (eJ<|aU iV<|a6 (uOp fH (gD [] [none,none] 1 (fS<|aB 3) (dM 0) (λρ Q=>Q true ρ)<|uOp M.gSub (aB 0)<|@499)<|dY<|a6 @1 aI) aI) dG) bJ0)
def cC8:US:=(aW (cE 3<|uSl (uV<|aU qF<|a6 (aB 0)<|a6 (dY<|a6 @3<|a6 @8<|a6 @999<|a6 @999<|a6 @999<|a6 @999 aI)<|a6 (aB 1) aI) (jB<|@2)<|jB<|uOp fH (uIx (aQ 2)<|@0)<|@4) cC7)
def c30:US:=(aW (cE 2<|aU qF<|a6 (aB 0)<|a6 (dY<|a6 @3<|a6 @8 aI)<|a6 (aB 1) aI) cC8)
theorem dF0 (ha:a.natAbs<=499)(hb:b.natAbs<=499):cY [a,b,1]:=⟨⟨ae,ae,λx hx=>by
 simp only[aT,eR,eW]at hx;rcases hx with rfl|rfl|rfl<;>lia⟩,[a,b],rfl⟩
theorem nba {m k:Nat}(hx:x.natAbs<=m)(hy:y.natAbs<=k):(x+y).natAbs<=m+k:=aN (a16 x y) (Nat.add_le_add hx hy)
theorem nbm {m k:Nat}(hx:x.natAbs<=m)(hy:y.natAbs<=k):(x*y).natAbs<=m*k:=by rw[eC];exact eV hx hy
theorem nbl {m k:Nat}(h:decide (m<=k)=true)(hx:x.natAbs<=m):x.natAbs<=k:=aN hx (fZ h)
theorem nbc (n:Nat):((n:Nat):Int).natAbs<=n:=aG n
theorem rp_sh3 (ha:a.natAbs<=4)(hb:b.natAbs<=4)(hc:c.natAbs<=4)(hs:s.natAbs<=2):cY (shK [a,b,c,1] s 3):=by
 rw[she3];refine⟨⟨by simp[sh3],by simp[sh3],λx hx=> ?_⟩,_,rfl⟩
 simp only[sh3,List.cons_append,a22,aT,eR,eW]at hx;have s2:=nbm hs hs;have s3:=nbm s2 hs;rcases hx with rfl|rfl|rfl|rfl
 .exact nbl rfl (nba (nba (nba ha<|nbm hs hb)<|nbm s2 hc) s3)
 .exact nbl rfl (nba (nba hb<|nbm (nbm (nbc 2) hs) hc)<|nbm (nbm (nbc 3) hs) hs)
 .exact nbl rfl (nba hc<|nbm (nbc 3) hs)
 .decide
theorem rp_sh4 {d:Int}(ha:a.natAbs<=3)(hb:b.natAbs<=3)(hc:c.natAbs<=3)(hd:d.natAbs<=3)(hs:s.natAbs<=2):cY (shK [a,b,c,d,1] s 4):=by
 rw[she4];refine⟨⟨by simp[sh4],by simp[sh4],λx hx=> ?_⟩,_,rfl⟩
 simp only[sh4,List.cons_append,a22,aT,eR,eW]at hx;have s2:=nbm hs hs;have s3:=nbm s2 hs;rcases hx with rfl|rfl|rfl|rfl|rfl
 .exact nbl rfl (nba (nba (nba (nba ha<|nbm hs hb)<|nbm s2 hc)<|nbm s3 hd)<|nbm s3 hs)
 .exact nbl rfl (nba (nba (nba hb<|nbm (nbm (nbc 2) hs) hc)<|nbm (nbm (nbm (nbc 3) hs) hs) hd)<|nbm (nbm (nbm (nbc 4) hs) hs) hs)
 .exact nbl rfl (nba (nba hc<|nbm (nbm (nbc 3) hs) hd)<|nbm (nbm (nbc 6) hs) hs)
 .exact nbl rfl (nba hd<|nbm (nbc 4) hs)
 .decide
theorem dR8 (h2:2<=ws.length)(h4:ws.length<=4)(hb: ∀w∈ws,0<=w/\w<999):cY (ws.map (λw=>w-499)++[1]):=by
 refine⟨⟨by rw[cI,aF];show 3<=ws.length+1;lia,by rw[cI,aF];show ws.length+1<=5;lia,λx hx=> ?_⟩,_,rfl⟩
 rcases bG.mp hx with hx|hx
 .obtain⟨w,hw,rfl⟩:=cD.mp hx;have:=hb w hw
  lia
 .rw[eQ.mp hx];decide
theorem d15 (c q a b:Int)(ws:List Int)(h4:ws.length<=4)(Q:B->Prop)(h:Q (.pu<|aX<|ws.map (λw=>w-499)++[1])) :
  (eJ (aU iV<|a6 (uOp fH (gD [] [none,none] 1 (fS<|aB 3) (dM 0) (λρ Q=>Q true ρ)<|uOp M.gSub (aB 0)<|@499)<|dY<|a6 @1 aI) aI):US) {Q with} [!c,!q,↑[.int a,.int b],↑(ws.map .int),none]:=by
 rw[kK,eB,bS,kF];refine jJ (t0:=0) ws.length (λk=>(ws.map D.int).getD k .non) [!c,!q,↑[.int a,.int b],~~~.lst (ws.map .int),none] (λQ' q=> ?_) ad (λx l'=>[x,↑l']) none rfl (λ_ _ _=>rfl) (λ_ _=>dR _) (λ_ _ _ q=>q) (λ_ _ _=>rfl) (λk=> .int (ws.getD k 0-499)) ?_ ?_
 .left
  rw[aF];exact q
 .intro k l' Q' hk q';have e3:(ws.map D.int).getD k .non= .int (ws.getD k 0):=by
   rw[aL,bX,aL,aO hk];rfl
  rw[e3]at q'⊢;left;exact q'
 .have e4:(List.range ws.length).map (λk=>D.int (ws.getD k 0-499))=(ws.map λw=>w-499).map D.int:=by
   apply oZ
   .simp
   .intro i h1 h2;simp at h1;simp[aL,h1]
  rw[e4];left;have e5:(ws.map λw=>w-499).map D.int++[D.int 1]=(ws.map (λw=>w-499)++[1]).map D.int:=by rw[bT];rfl
  rw[e5];refine⟨ac,?_,h⟩
  rw[aF,aF];exact aN (show ws.length+(0+1)<=5 by lia) ac
theorem dF1 (c q a b:Int)(w:Option B)(a0:0<=a)(a1:a<3)(hq:0<q)(Q:B->Prop)(h: ∀p,cY p->Q (.pu<|aX p)) :
  bJ0 {Q with} [!c,!q,↑[.int a,.int b],w,none]:=by
 unfold bJ0;rw[aP];left;refine⟨ac,c,[3,8,9,9,9,5,7],q,rfl,ac,hq,ac,λxs hx=> ?_⟩
 obtain⟨x0,x1,x2,x3,x4,x5,x6,rfl⟩: ∃x0 x1 x2 x3 x4 x5 x6,xs=[x0,x1,x2,x3,x4,x5,x6]:=by
  match xs,hx.1 with
  | [x0,x1,x2,x3,x4,x5,x6],_=>exact⟨x0,x1,x2,x3,x4,x5,x6,rfl⟩
 have b2:=hx.2 2 x2 9 rfl rfl;have b3:=hx.2 3 x3 9 rfl rfl;have b4:=hx.2 4 x4 9 rfl rfl;have b5:=hx.2 5 x5 5 rfl rfl;simp only[cS,mV];unfold cC6;rw[aP];left;rw[aW9];right
 by_cases c0:a=0
 .rw[a8 c0];refine⟨ac,c,[3,8,161,41],q,rfl,ac,hq,ac,λys hy=> ?_⟩
  obtain⟨y0,y1,y2,y3,rfl⟩: ∃y0 y1 y2 y3,ys=[y0,y1,y2,y3]:=by
   match ys,hy.1 with
   | [y0,y1,y2,y3],_=>exact⟨y0,y1,y2,y3,rfl⟩
  have k2:=hy.2 2 y2 161 rfl rfl;have k3:=hy.2 3 y3 41 rfl rfl;simp only[cS,mV]
  (try left)
  rw[show atI [D.int y0,.int y1,.int y2,.int y3] 2=some (.int y2)from dL (j:=2) rfl,show atI [D.int y0,.int y1,.int y2,.int y3] 3=some (.int y3)from dL (j:=3) rfl]
  right;exact⟨ac,h [y2-80,y3-20,1]<|dF0 ad ad⟩
 rw[a7 c0];have t2:atI [D.int x0,.int x1,.int x2,.int x3,.int x4,.int x5,.int x6] 2=some (.int x2):=dL (j:=2) rfl;have t3:atI [D.int x0,.int x1,.int x2,.int x3,.int x4,.int x5,.int x6] 3=some (.int x3):=dL (j:=3) rfl;have t4:atI [D.int x0,.int x1,.int x2,.int x3,.int x4,.int x5,.int x6] 4=some (.int x4):=dL (j:=4) rfl
 have t5:atI [D.int x0,.int x1,.int x2,.int x3,.int x4,.int x5,.int x6] 5=some (.int x5):=dL (j:=5) rfl;unfold cC5;rw[aP];left;rw[aW9];right
 by_cases c1:a=1
 .rw[a8 c1,t2,t3,t4,t5];right;exact⟨ac,[x2-4,x3-4,x4-4,1],x5-2,rfl,ae,ae,ad,h _<|rp_sh3 ad ad ad ad⟩
 rw[a7 c1];unfold cC4;rw[aP];left;refine⟨ac,c,[3,8,7,7,7,5,7],q,rfl,ac,hq,ac,λys hy=> ?_⟩
 obtain⟨y0,y1,y2,y3,y4,y5,y6,rfl⟩: ∃x0 x1 x2 x3 x4 x5 x6,ys=[x0,x1,x2,x3,x4,x5,x6]:=by
  match ys,hy.1 with
  | [x0,x1,x2,x3,x4,x5,x6],_=>exact⟨x0,x1,x2,x3,x4,x5,x6,rfl⟩
 have k2:=hy.2 2 y2 7 rfl rfl;have k3:=hy.2 3 y3 7 rfl rfl;have k4:=hy.2 4 y4 7 rfl rfl;have k5:=hy.2 5 y5 5 rfl rfl;have k6:=hy.2 6 y6 7 rfl rfl;simp only[cS,mV];unfold cC3;left
 rw[show atI [D.int y0,.int y1,.int y2,.int y3,.int y4,.int y5,.int y6] 2=some (.int y2)from dL (j:=2) rfl,show atI [D.int y0,.int y1,.int y2,.int y3,.int y4,.int y5,.int y6] 3=some (.int y3)from dL (j:=3) rfl,show atI [D.int y0,.int y1,.int y2,.int y3,.int y4,.int y5,.int y6] 4=some (.int y4)from dL (j:=4) rfl,show atI [D.int y0,.int y1,.int y2,.int y3,.int y4,.int y5,.int y6] 5=some (.int y5)from dL (j:=5) rfl,show atI [D.int y0,.int y1,.int y2,.int y3,.int y4,.int y5,.int y6] 6=some (.int y6)from dL (j:=6) rfl]
 right;exact⟨ac,[y2-3,y3-3,y4-3,y6-3,1],y5-2,rfl,ae,ae,ad,h _<|rp_sh4 ad ad ad ad ad⟩
theorem dR9: Ra c27 c30 ["c","q","d","w","f"]:=by
 rintro ds Q ⟨c,q,rfl,hq,h⟩;unfold c30;show(aW _ _:US) _ [!c,!q,none,none,none];rw[aP];left;refine⟨ac,c,[3,8],q,rfl,ac,hq,ac,λxs hx=> ?_⟩
 obtain⟨a,b,rfl⟩: ∃a b,xs=[a,b]:=by
  match xs,hx.1 with
  | [a,b],_=>exact⟨a,b,rfl⟩
 have ba:=hx.2 0 a 3 rfl rfl;simp only[cS,mV];unfold cC8;rw[aP];left;refine⟨ac,c,[3,8,999,999,999,999],q,rfl,ac,hq,ac,λys hy=> ?_⟩
 obtain⟨y0,y1,y2,y3,y4,y5,rfl⟩: ∃x0 x1 x2 x3 x4 x5,ys=[x0,x1,x2,x3,x4,x5]:=by
  match ys,hy.1 with
  | [x0,x1,x2,x3,x4,x5],_=>exact⟨x0,x1,x2,x3,x4,x5,rfl⟩
 have k2:=hy.2 2 y2 999 rfl rfl;have k3:=hy.2 3 y3 999 rfl rfl;have k4:=hy.2 4 y4 999 rfl rfl;have k5:=hy.2 5 y5 999 rfl rfl;simp only[cS,mV]
 (try left)
 rw[aW9];right;obtain⟨ws,ew,w2,w4,wb⟩: ∃ws:List Int,cutD [D.int y0,.int y1,.int y2,.int y3,.int y4,.int y5] (some 2) (some<|a+4)=ws.map D.int/\2<=ws.length/\ws.length<=4/\ ∀w∈ws,0<=w/\w<999:=by
  rcases(show a=0\/a=1\/a=2 by lia)with rfl|rfl|rfl
  .exact⟨[y2,y3],rfl,ae,ae,by simp;lia⟩
  .exact⟨[y2,y3,y4],rfl,ae,ae,by simp;lia⟩
  .exact⟨[y2,y3,y4,y5],rfl,ae,ae,by simp;lia⟩
 rw[ew];unfold cC7;rw[aP,sX];left;rw[at1];right
 by_cases cb:b=7
 .rw[a8 cb];exact d15 c q a b ws w4 Q (h _<|dR8 w2 w4 wb)
 .rw[a7 cb];exact dF1 c q a b _ ba.1 ba.2 hq Q h
nonrec def cz (n:Nat)(u:∅):∅:=λj=>if j<n then u j else 0
nonrec def c31 (k:Int):∅:=λj=>if j=0 then k else 0
theorem c32 {C:Addr}(h:ρ[i]? =some (~~~qX C p)):aS4 "measure" (aB i) ρ Q=Q (.pu<|.int<|fW 4<|dJ p) ρ:=by
 unfold aS4;rw[nO h];rfl
nonrec def tbL (n:Nat)(t:Nat->∅):List (List Int):=(List.range n).map λi=>rwF n (t i)
theorem bJ1 (T:Nat->∅):fW 4 (tbL 2 T)=1*T 0 0*(T 1 1)+(-1*T 1 0*(T 0 1)+0):=by kernel_rfl
theorem bJ2 (T:Nat->∅):fW 4 (tbL 3 T)=1*T 0 0*(1*T 1 1*(T 2 2)+(-1*T 2 1*(T 1 2)+0))+(-1*T 1 0*(1*T 0 1*(T 2 2)+(-1*T 2 1*(T 0 2)+0))+(1*T 2 0*(1*T 0 1*(T 1 2)+(-1*T 1 1*(T 0 2)+0))+0)):=by kernel_rfl
theorem bJ3 (T:Nat->∅):fW 4 (tbL 4 T)=1*T 0 0*(1*T 1 1*(1*T 2 2*(T 3 3)+(-1*T 3 2*(T 2 3)+0))+(-1*T 2 1*(1*T 1 2*(T 3 3)+(-1*T 3 2*(T 1 3)+0))+(1*T 3 1*(1*T 1 2*(T 2 3)+(-1*T 2 2*(T 1 3)+0))+0)))+(-1*T 1 0*(1*T 0 1*(1*T 2 2*(T 3 3)+(-1*T 3 2*(T 2 3)+0))+(-1*T 2 1*(1*T 0 2*(T 3 3)+(-1*T 3 2*(T 0 3)+0))+(1*T 3 1*(1*T 0 2*(T 2 3)+(-1*T 2 2*(T 0 3)+0))+0)))+(1*T 2 0*(1*T 0 1*(1*T 1 2*(T 3 3)+(-1*T 3 2*(T 1 3)+0))+(-1*T 1 1*(1*T 0 2*(T 3 3)+(-1*T 3 2*(T 0 3)+0))+(1*T 3 1*(1*T 0 2*(T 1 3)+(-1*T 1 2*(T 0 3)+0))+0)))+(-1*T 3 0*(1*T 0 1*(1*T 1 2*(T 2 3)+(-1*T 2 2*(T 1 3)+0))+(-1*T 1 1*(1*T 0 2*(T 2 3)+(-1*T 2 2*(T 0 3)+0))+(1*T 2 1*(1*T 0 2*(T 1 3)+(-1*T 1 2*(T 0 3)+0))+0)))+0))):=by kernel_rfl
nonrec def nrm (p:List Int)(n:Nat)(u:∅):Int:=fW 4 (tbL n<|itT p n u)
def bB (p:List Int):∅:=λj=>(1+(j:Int))*p.getD (1+j) 0
theorem p6:(2:Nat)^600<=2^1000:=aP4 ac ac
theorem Pr.no_zero {p:Int}(pp:Pr p)(h:a*b%p=0):a%p=0\/b%p=0:=by
 have p2:=pp.lo
 by_cases c:a%p=0
 .exact .inl c
 .refine .inr ?_
  have a0:=dS a (show p≠0 by lia)
  have a1:=dO a (show 0<p by lia)
  have iv:=pp.inv (a%p) ad a1
  generalize bH2 (a%p) p (p.toNat-2)=t at iv;have e:b%p=(t*(a%p))%p*b%p:=by rw[iv,vL]
  rw[e,emL,gT,<-emR,emL a b p,h,aY,dD]
theorem dF2 {p:Int}(p2:2<=p)(a:Nat×∅)(z:Int):va p a z%p=va p a z:=k8 _ _
theorem cT6 {p:Int}{a g:Nat×∅}(hg: ∀j,g.1<j->g.2 j=0){z:Int}(h:va p a z=0\/va p g z=0): ∀k,(va p a z=0\/1<=k)->va p (powT p a g k) z=0
 | 0,hk=>by
  rcases hk with hk|hk
  .exact hk
  .omega
 | k+1,_=>by
  show va p (tm p (powT p a g k) g) z=0
  rw[dD3 hg];rcases h with h|h
  .rw[cT6 hg (.inl h) k<|.inl h,fB,dD]
  .rw[h,aY,dD]
theorem cT7 {p:Int}(pp:Pr p){a g:Nat×∅}(hg: ∀j,g.1<j->g.2 j=0){z:Int}(h:va p a z≠0)(h2:va p g z≠0): ∀k,va p (powT p a g k) z≠0
 | 0=>h
 | k+1=>by
  show va p (tm p (powT p a g k) g) z≠0
  rw[dD3 hg];intro e;rcases pp.no_zero e with e|e
  .rw[dF2 pp.lo]at e;exact cT7 pp hg h h2 k e
  .rw[dF2 pp.lo]at e;exact h2 e
theorem c33 {p:Int}(pp:Pr p){z:Int}: ∀(l:List ((Nat×∅)×Nat)) (a:Nat×∅),(∀x∈l,∀j,x.1.1<j->x.1.2 j=0)->va p a z≠0->(∀x∈l,va p x.1 z≠0)->va p (allT p a l) z≠0
 | [],a,_,h,_=>h
 | y::l,a,hl,h,h2=>c33 pp l (powT p a y.1 y.2) (λx hx=>hl x (bM _ hx)) (cT7 pp (hl y<|b7 ..) h (h2 y<|b7 ..) _) λx hx=>h2 x (bM _ hx)
theorem dF3 {p:Int}(p2:2<=p){g:Nat×∅}(mg:MP p g.1 g.2)(h1:g.1=1)(z:Int):va p g z=(z+g.2 0)%p:=by
 have e:g.2 1=1:=by have:=mg.top;rw[h1]at this;exact this
 unfold va;rw[h1];show(0+g.2 0*z^0+g.2 1*z^1)%p=_;rw[e,kA,Int.pow_one]
 congr 1
 lia
def b97 (q:Int)(F:Nat×∅)(c:Int)(k:Nat):Prop:= ∃H:Nat×∅,MP q H.1 H.2/\F=powT q H (gP c) k/\va q H (-c)≠0
theorem bJ4 {p:Int}(p2:2<=p){a b:Nat×∅}(ma:MP p a.1 a.2)(mb:MP p b.1 b.2)(h:tm p a (gP c)=tm p b (gP c)):a=b:=by
 have d:a.1=b.1:=by
  have:=bO Prod.fst h;show a.1=b.1;have e:a.1+1=b.1+1:=this
  lia
 have f: ∀m,(c*a.2 m+(if m=0 then 0 else a.2 (m-1)))%p=(c*b.2 m+(if m=0 then 0 else b.2 (m-1)))%p:=λm=>by
  have:=congrFun (bO Prod.snd h) m;have e:conv a.2 (gP c).2 (a.1+1) m%p=conv b.2 (gP c).2 (b.1+1) m%p:=this;rw[aX9 c ma.z,aX9 c mb.z]at e;exact e
 have down: ∀(t m:Nat),a.1+1-m=t->a.2 m=b.2 m:=by
  intro t
  induction t with
  | zero=>
   intro m hm;rw[ma.hi m ad,mb.hi m ad]
  | succ t ih=>
   intro m hm;have i1:=ih (m+1) ad
   have e:=f (m+1);rw[a7 ad,a7 ad,jT,i1]at e
   have e2:=Int.emod_emod_of_dvd;have r1:=ma.rng m;have r2:=mb.rng m;have e3:(a.2 m-b.2 m)%p=0:=by
    have:=vJ (c*b.2 (m+1)+a.2 m) (c*b.2 (m+1)+b.2 m) p;rw[e,rX,dD]at this;rw[<-this]
    congr 1
    lia
   obtain⟨k,hk⟩:=fY e3;have k0:k=0:=by
    rcases aQ3 k 0 with z|z|z
    .have:p*k<=p*(-1):=oO ad ad
     lia
    .exact z
    .have:p*1<=p*k:=oO ad ad
     lia
   rw[k0,aY]at hk
   lia
 exact gJ d (funext λm=>down _ m rfl)
theorem b97.uniq (pq:Pr q)(c0:0<=c)(c1:c<q){k l:Nat}(h:b97 q F c k)(h2:b97 q F c l):k=l:=by
 have q2:=pq.lo;have ml:=MP.lin q2 c0 c1;have lz:va q (gP c) (-c)=0:=by
  rw[dF3 q2 ml rfl];show(-c+c)%q=0;rw[show -c+c=0 by lia,dD]
 have main: ∀(k l:Nat) (H G:Nat×∅),MP q H.1 H.2->MP q G.1 G.2->va q H (-c)≠0->powT q H (gP c) k=powT q G (gP c) l->l<=k:=by
  intro k
  induction k with
  | zero=>
   intro l H G mH mG hv e;cases l with
   | zero=>exact aG _
   | succ l=>
    refine absurd ?_ hv
    rw[show H=powT q G (gP c) (l+1)from e]
    exact cT6 ml.hi (.inr lz) _ (.inr ad)
  | succ k ih=>
   intro l H G mH mG hv e;cases l with
   | zero=>exact dI _
   | succ l=>
    have:=ih l H G mH mG hv (bJ4 q2 (MP.powT q2 mH ml k) (MP.powT q2 mG ml l) e)
    lia
 obtain⟨H,mH,e1,v1⟩:=h;obtain⟨G,mG,e2,v2⟩:=h2;have a:=main k l H G mH mG v1 (e1.symm.trans e2);have b:=main l k G H mG mH v2 (e2.symm.trans e1)
 lia
nonrec def hb (r q:Int)(f:∅)(m:Nat):∅
 | 0=>0
 | k+1=>(hb r q f m k*r+f (m-k))%q
theorem dS0 {p:Int}(p2:2<=p){g:Nat×∅}(mg:MP p g.1 g.2){l:List ((Nat×∅)×Nat)}{a:Nat×∅}(ma:MP p a.1 a.2)(hl: ∀x∈l,MP p x.1.1 x.1.2):allT p (tm p a g) l=tm p (allT p a l) g:=by
 rw[a58 ma.hi mg.hi,zR p2 l ma hl,a58 mg.hi (MP.allT p2 l ma hl).hi]
theorem cC9 {p:Int}(p2:2<=p){g:Nat×∅}(mg:MP p g.1 g.2){l:List ((Nat×∅)×Nat)}{a:Nat×∅}(ma:MP p a.1 a.2)(hl: ∀x∈l,MP p x.1.1 x.1.2): ∀k,allT p (powT p a g k) l=powT p (allT p a l) g k
 | 0=>rfl
 | k+1=>by
  show allT p (tm p (powT p a g k) g) l=tm p (powT p (allT p a l) g k) g
  rw[dS0 p2 mg (MP.powT p2 ma mg k) hl,cC9 p2 mg ma hl k]
theorem cT8: ∀r:List Int,ltL r r=false
 | []=>rfl
 | a::r=>by unfold ltL;rw[a8 rfl];exact cT8 r
theorem b44 {x y:(Nat×∅)×Nat}(h:ltP x y):x.1≠y.1:=by
 intro e;unfold ltP at h;rw[e]at h;rcases h with h|h
 .lia
 .rw[cT8]at h;exact absurd h.2 ac
theorem dF4 (pq:Pr q)(c0:0<=c)(c1:c<q){g:Nat×∅}(mg:MP q g.1 g.2)(d1:1<=g.1)(nr:2<=g.1->NoR q g)(h:g≠gP c):va q g (-c)≠0:=by
 have q2:=pq.lo
 by_cases d2:g.1=1
 .rw[dF3 q2 mg d2];intro z;have r:=mg.rng 0;obtain⟨k,hk⟩:=fY z;have k0:k=0:=by
   rcases aQ3 k 0 with z|z|z
   .have:q*k<=q*(-1):=oO ad ad
    lia
   .exact z
   .have:q*1<=q*k:=oO ad ad
    lia
  rw[k0,aY]at hk;refine h ?_;rw[c25 mg d2,show g.2 0=c by lia]
 .have:=nr ad c.toNat ad
  rw[Int.toNat_of_nonneg c0]at this;exact this
theorem c34 (pq:Pr q)(mF:MP q F.1 F.2)(sp:SP q F xs)(c0:0<=c)(c1:c<q) :
  (∀x∈xs,x.1=gP c->b97 q F c x.2)/\((∀x∈xs,x.1≠gP c)->b97 q F c 0):=by
 have q2:=pq.lo;have mx: ∀x∈xs,MP q x.1.1 x.1.2:=λx hx=>(sp.mem x hx).1
 have nz: ∀x∈xs,x.1≠gP c->va q x.1 (-c)≠0:=λx hx h=>dF4 pq c0 c1 (mx x hx) (sp.mem x hx).2.1 (sp.mem x hx).2.2.2.2.2.1 h
 have v1:va q i8 (-c)≠0:=by
  show(0+(if 0=0 then(1:Int)else 0)*(-c)^0)%q≠0
  rw[a8 rfl,kA,kB,eE,fN ac ad]
  decide
 refine⟨λx hx e=> ?_,λh=>⟨F,mF,rfl,?_⟩⟩
 .obtain⟨l1,l2,rfl⟩:=List.append_of_mem hx;have od:=sp.ord;rw[uZ,iJ]at od;have m1: ∀y∈l1,MP q y.1.1 y.1.2:=λy hy=>mx y (bG.mpr<|.inl hy)
  have m2: ∀y∈l2,MP q y.1.1 y.1.2:=λy hy=>mx y (bG.mpr<|.inr<|bM _ hy)
  have mA:=MP.allT q2 l1 (MP.one q2) m1;refine⟨allT q (allT q i8 l1) l2,MP.allT q2 l2 mA m2,?_,?_⟩
  .rw[<-sp.prod,n8];show allT q (powT q (allT q i8 l1) x.1 x.2) l2=_;rw[cC9 q2 (mx x hx) mA m2,e]
  .rw[<-n8];refine c33 pq _ _ (λy hy=> ?_) v1 λy hy=> ?_
   .rcases bG.mp hy with hy|hy
    .exact(m1 y hy).hi
    .exact(m2 y hy).hi
   .rcases bG.mp hy with hy|hy
    .exact nz y (bG.mpr<|.inl hy) λz=>b44 (od.2.2 y hy x<|b7 ..) (z.trans e.symm)
    .exact nz y (bG.mpr<|.inr<|bM _ hy) λz=>b44 (od.2.1.1 y hy) (e.trans z.symm)
 .rw[<-sp.prod];exact c33 pq xs i8 (λy hy=>(mx y hy).hi) v1 λy hy=>nz y hy (h y hy)
nonrec def dA (c b:Int):Int:=b*b-4*c
nonrec def dB (d c b:Int):Int:=b*b*c*c-4*c*c*c-4*b*b*b*d-27*d*d+18*b*c*d
nonrec def dC (e d c b:Int):Int:= -27*b*b*b*b*e*e+18*b*b*b*c*d*e-4*b*b*b*d*d*d-4*b*b*c*c*c*e+b*b*c*c*d*d+144*b*b*c*e*e-6*b*b*d*d*e-80*b*c*c*d*e+18*b*c*d*d*d-192*b*d*e*e+16*c*c*c*c*e-4*c*c*c*d*d-128*c*c*e*e+144*c*d*d*e-27*d*d*d*d+256*e*e*e
theorem hank4 (e d c b:Int):fW 4 (dJ [e,d,c,b,1])=dC e d c b:=by
 have h:=id4 e d c b;have h2:27*dC e d c b=27*fW 4 (dJ [e,d,c,b,1]):=by
  rw[h];unfold dC
  grind
 lia
theorem Pr.or (pq:Pr q)(h:q∣a*b):q∣a\/q∣b:=by
 rcases pq.no_zero (lB h)with h|h
 .exact .inl (fY h)
 .exact .inr (fY h)
theorem Pr.sq (pq:Pr q)(h:q∣a*a):q∣a:=(pq.or h).elim id id
theorem Pr.cut (pq:Pr q)(h:q∣a*b)(n: ¬q∣a):q∣b:=(pq.or h).resolve_left n
theorem Pr.sol (pq:Pr q)(h: ¬q∣a)(b:Int): ∃z,q∣a*z-b:=by
 have p2:=pq.lo;have a0:=dS a (show q≠0 by lia)
 have a1:=dO a (show 0<q by lia)
 have ne:a%q≠0:=λe=>h (fY e)
 have iv:=pq.inv (a%q) ad a1
 generalize bH2 (a%q) q (q.toNat-2)=t at iv;have e1:=uX (t*(a%q)) q;have e2:=uX a q;rw[iv]at e1;refine⟨t*b,t*(a/q)*b+t*(a%q)/q*b,?_⟩;have:a*(t*b)-b=(a%q+q*(a/q))*(t*b)-b:=by rw[e2]
 rw[this];have:t*(a%q)*b=(1+q*(t*(a%q)/q))*b:=by rw[e1]
 grind
theorem dF5 (pq:Pr q)(h: ¬q∣a)(h2: ¬q∣b): ¬q∣a*b:=λh3=>(pq.or h3).elim h h2
theorem dv2 (h:q∣a)(h2:q∣b)(he:e=a*x+b*y):q∣e:=by
 rw[he];exact dvd_add (oQ h) (oQ h2)
theorem dv3 {z:Int}(h:q∣a)(h2:q∣b)(h3:q∣c)(he:e=a*x+b*y+c*z):q∣e:=by
 rw[he];exact dvd_add (dvd_add (oQ h)<|oQ h2) (oQ h3)
theorem dv1 (h:q∣a)(he:e=a*x):q∣e:=by rw[he];exact oQ h
theorem root2 (pq:Pr q)(h:q∣dA c b): ∃z,q∣z*z+b*z+c:=by
 by_cases c2:q∣2
 .have e:q=2:=by have:=le_of_dvd ac c2;have:=pq.lo;lia
  subst e;refine⟨c,?_⟩;have hb:(2:Int)∣b:=pq.sq (dv2 (x:=1) (y:=2*c) h (dvd_refl 2) (by unfold dA;grind))
  rcases aR5 c with e|e
  .exact dv2 (x:=c+b+1) (y:=0) (fY e) (dvd_refl 2) (by grind)
  .exact dv2 (a:=c+1) (x:=c) (y:=c) ad hb (by grind)
 .obtain⟨z,hz⟩:=pq.sol c2 (-b);refine⟨z,pq.cut (a:=2*2) ?_<|dF5 pq c2 c2⟩;exact dv2 (x:=2*z+b) (y:= -1) hz h (by unfold dA;grind)
theorem cgA {d:Int}(h:q∣a-b)(h2:q∣c-d):q∣a+c-(b+d):=dv2 (x:=1) (y:=1) h h2 (by grind)
theorem cgM {d:Int}(h:q∣a-b)(h2:q∣c-d):q∣a*c-b*d:=dv2 (x:=c) (y:=b) h h2 (by grind)
theorem cgR (a:Int):q∣a-a:=by rw[rX];exact Int.dvd_zero q
theorem cgE (a:Int):q∣a%q-a:=by
 have:=uX a q;exact⟨-(a/q),by grind⟩
theorem cgT (h:q∣a-b):q∣a↔q∣b:=⟨λg=>dv2 (x:=1) (y:= -1) g h (by grind),λg=>dv2 (x:=1) (y:=1) g h (by grind)⟩
theorem dF6 {q z w:Int}(h:q∣z-w)(g:∅): ∀n,q∣ps g z n-ps g w n
 | 0=>cgR _
 | n+1=>by
  have p: ∀k:Nat,q∣z^k-w^k:=by
   intro k
   induction k with
   | zero=>rw[kA,kA];exact cgR _
   | succ k ih=>rw[rW,rW];exact cgM ih h
  exact cgA (dF6 h g n) (cgM (cgR _)<|p n)
theorem NoR.no (pq:Pr q){G:Nat×∅}(nr:NoR q G){z:Int}(h:q∣ps G.2 z (G.1+1)):False:=by
 have q2:=pq.lo;have r0:=dS (-z) (show q≠0 by omega)
 have r1:=dO (-z) (show 0<q by omega)
 refine nr ((-z)%q).toNat aa ?_
 rw[Int.toNat_of_nonneg r0];refine lB ((cgT<|dF6 ?_ G.2<|G.1+1).mpr h);have:=cgE (q:=q) (-z);exact dv1 (x:= -1) this (by grind)
theorem b75 (ha:0<=a/\a<q)(hb:0<=b/\b<q)(h:q∣a-b):a=b:=by
 obtain⟨k,hk⟩:=h;have k0:k=0:=by
  rcases aQ3 k 0 with z|z|z
  .have:q*k<=q*(-1):=oO ad ad
   lia
  .exact z
  .have:q*1<=q*k:=oO ad ad
   lia
 rw[k0,aY]at hk
 lia
theorem cT9 (h:a%q=b%q):q∣a-b:=fY (aM8.mp h)
theorem dS1 {v' u' w' s':Int}(pq:Pr q)(nr:NoR q (quF v u))(e0:q∣v*w-v'*w')(e1:q∣(v*s+u*w)-(v'*s'+u'*w'))(e2:q∣(v+u*s+w)-(v'+u'*s'+w'))(e3:q∣(u+s)-(u'+s')) :
  (q∣u-u'/\q∣v-v')\/(q∣u-s'/\q∣v-w'):=by
 have c1:q∣(u'-u)*(w'-v)+(v'-v)*(s'-u)-u*(u'-u)*(s'-u):=dv3 (x:= -(u*u-v)) (y:=u) (z:= -1) e3 e2 e1 (by grind)
 have c0:q∣(v'-v)*(w'-v)-v*(u'-u)*(s'-u):=dv3 (x:= -(u*v)) (y:=v) (z:= -1) e3 e2 e0 (by grind)
 have root: ∀a b:Int,q∣b*b-u*a*b+v*a*a->q∣a/\q∣b:=λa b h=>by
  by_cases ha:q∣a
  .exact⟨ha,pq.sq<|dv2 (x:=1) (y:=u*b-v*a) h ha<|by grind⟩
  .exfalso
   obtain⟨z,hz⟩:=pq.sol ha (-b);refine NoR.no pq nr (z:=z) ?_;refine pq.cut (a:=a*a) ?_ (dF5 pq ha ha);show q∣a*a*(0+v*z^0+u*z^1+1*z^2);exact dv2 (x:=1) (y:=a*z-b+u*a) h hz (by grind)
 have pr:q∣((v'-v)*(v'-v)-u*(u'-u)*(v'-v)+v*(u'-u)*(u'-u))*((w'-v)*(w'-v)-u*(s'-u)*(w'-v)+v*(s'-u)*(s'-u)):=
  dv2 (x:=((v'-v)*(w'-v)-v*(u'-u)*(s'-u))-u*((u'-u)*(w'-v)+(v'-v)*(s'-u)-u*(u'-u)*(s'-u))) (y:=v*((u'-u)*(w'-v)+(v'-v)*(s'-u)-u*(u'-u)*(s'-u))) c0 c1 (by grind)
 rcases pq.or pr with h|h
 .obtain⟨h1,h2⟩:=root _ _ h;exact .inl ⟨dv1 (x:= -1) h1<|by grind,dv1 (x:= -1) h2<|by grind⟩
 .obtain⟨h1,h2⟩:=root _ _ h;exact .inr ⟨dv1 (x:= -1) h1<|by grind,dv1 (x:= -1) h2<|by grind⟩
theorem b45 {g:Nat×∅}(mg:MP q g.1 g.2)(h2:g.1=2):g=quF (g.2 0) (g.2 1):=by
 obtain⟨n,f⟩:=g;obtain rfl:n=2:=h2;refine gJ rfl (funext λj=> ?_)
 match j with
 | 0=>rfl
 | 1=>rfl
 | 2=>exact mg.top
 | j+3=>exact mg.hi (j+3) (show 2<j+3 by lia)
theorem dS2 (pq:Pr q){a b c d:Nat×∅}(ma:MP q a.1 a.2)(mb:MP q b.1 b.2)(mc:MP q c.1 c.2)(md':MP q d.1 d.2)(a2:a.1=2)(b2:b.1=2)(c2:c.1=2)(d2:d.1=2)(nr:NoR q a)(h:tm q a b=tm q c d):(a=c/\b=d)\/(a=d/\b=c):=by
 have ra:=ma.rng;have rb:=mb.rng;have rc:=mc.rng;have rd:=md'.rng;have ea:=b45 ma a2;have eb:=b45 mb b2;have ec:=b45 mc c2;have ed:=b45 md' d2;have v0:=ra 0;have u0:=ra 1;have w0:=rb 0;have s0:=rb 1;have v1:=rc 0;have u1:=rc 1;have w1:=rd 0;have s1:=rd 1;generalize a.2 0=v at *;generalize a.2 1=u at *;generalize b.2 0=w at *;generalize b.2 1=s at *;generalize c.2 0=v' at *
 generalize c.2 1=u' at *;generalize d.2 0=w' at *;generalize d.2 1=s' at *;subst ea eb ec ed;obtain⟨f0,f1,f2,f3⟩:=c22 v u w s;obtain⟨g0,g1,g2,g3⟩:=c22 v' u' w' s';have hm: ∀m,conv (quF v u).2 (quF w s).2 3 m%q=conv (quF v' u').2 (quF w' s').2 3 m%q:=λm=>congrFun (bO Prod.snd h) m
 have e0:=cT9 (hm 0);have e1:=cT9 (hm 1);have e2:=cT9 (hm 2);have e3:=cT9 (hm 3);rw[f0,g0]at e0;rw[f1,g1]at e1;rw[f2,g2]at e2;rw[f3,g3]at e3;rcases dS1 pq nr e0 e1 e2 e3 with⟨h1,h2⟩| ⟨h1,h2⟩
 .obtain rfl:=b75 u0 u1 h1;obtain rfl:=b75 v0 v1 h2;obtain rfl:=b75 s0 s1 (dv1 (x:=1) e3<|by grind)
  obtain rfl:=b75 w0 w1 (dv1 (x:=1) e2<|by grind)
  exact .inl ⟨rfl,rfl⟩
 .obtain rfl:=b75 u0 s1 h1;obtain rfl:=b75 v0 w1 h2;obtain rfl:=b75 s0 u1 (dv1 (x:=1) e3<|by grind)
  obtain rfl:=b75 w0 v1 (dv1 (x:=1) e2<|by grind)
  exact .inr ⟨rfl,rfl⟩
theorem cD0: ∀a b:List Int,ltL a b=true->ltL b a=true->False
 | [],[],h,_=>by simp[ltL]at h
 | [],_::_,_,h=>by simp[ltL]at h
 | _::_,[],h,_=>by simp[ltL]at h
 | x::a,y::b,h,h2=>by
  unfold ltL at h h2
  by_cases c:x=y
  .rw[a8 c]at h;rw[a8 c.symm]at h2;exact cD0 a b h h2
  .rw[a7 c]at h;rw[a7 λz=>c z.symm]at h2
   have:=fZ h;have:=fZ h2
   lia
theorem cD1 {x y:(Nat×∅)×Nat}(h:ltP x y)(h2:ltP y x):False:=by
 unfold ltP at h h2;rcases h with h|h
 .rcases h2 with h2|h2<;>lia
 .rcases h2 with h2|h2
  .lia
  .exact cD0 _ _ h.2 h2.2
theorem dF7 {α:Type}{R:α->α->Prop}(as: ∀x y,R x y->R y x->False): ∀{a b:List α},a.Pairwise R->b.Pairwise R->(∀x,x∈a↔x∈b)->a=b
 | [],[],_,_,_=>rfl
 | [],y::b,_,_,h=>by have:=(h y).mpr (b7 ..);cases this
 | x::a,[],_,_,h=>by have:=(h x).mp (b7 ..);cases this
 | x::a,y::b,ha,hb,h=>by
  rw[iJ]at ha hb;have e:x=y:=by
   rcases aT.mp ((h x).mp<|b7 ..)with e|m1
   .exact e
   .rcases aT.mp ((h y).mpr<|b7 ..)with e|m2
    .exact e.symm
    .exact(as _ _ (ha.1 y m2)<|hb.1 x m1).elim
  subst e;rw[dF7 as ha.2 hb.2 λz=>⟨λm=> ?_,λm=> ?_⟩]
  .rcases aT.mp ((h z).mp<|bM _ m)with e|m'
   .subst e;exact(as _ _ (ha.1 z m)<|ha.1 z m).elim
   .exact m'
  .rcases aT.mp ((h z).mpr<|bM _ m)with e|m'
   .subst e;exact(as _ _ (hb.1 z m)<|hb.1 z m).elim
   .exact m'
theorem c35 (p:Int): ∀(l:List ((Nat×∅)×Nat)) (a:Nat×∅),a.1<=(allT p a l).1
 | [],a=>aG _
 | x::l,a=>by
  have:=c35 p l (powT p a x.1 x.2);rw[oJ]at this;exact aN (Nat.le_add_right _ _) this
theorem c36 {d k:Nat}(h:2<=d)(k1:1<=k):2<=d*k/\(d*k<=3->k=1)/\(d*k<=2->d=2):=by
 have h1:d*1<=d*k:=v6 _ k1;refine⟨ad,λz=> ?_,λz=>ad⟩
 by_cases c:k=1
 .exact c
 .have:2*2<=d*k:=eV h ad
  lia
theorem bC2 {q:Int}(q2:2<=q){N:List ((Nat×∅)×Nat)}(mem: ∀x∈N,MP q x.1.1 x.1.2/\2<=x.1.1/\1<=x.2)(h4:(allT q i8 N).1<=4) :
  N=[]\/(∃g,N=[(g,1)]/\allT q i8 N=g)\/ ∃g h:Nat×∅,g.1=2/\h.1=2/\allT q i8 N=tm q g h/\((g=h/\N=[(g,2)])\/N=[(g,1),(h,1)]):=by
 match N,mem,h4 with
 | [],_,_=>exact .inl rfl
 | [x],mem,h4=>
  obtain⟨mx,d2,k1⟩:=mem x (b7 ..);obtain⟨g,k⟩:=x;have hd:(powT q i8 g k).1<=4:=h4;rw[oJ]at hd;have hd':g.1*k<=4:=by have:i8.1=0:=rfl;lia
  by_cases c:k=1
  .subst c;exact .inr (.inl ⟨g,rfl,b39 mx⟩)
  .have k2:2<=k:=by have:1<=k:=k1;lia
   have:2*2<=g.1*2:=uY _ d2;have h1:g.1*2<=g.1*k:=v6 _ k2;have k3:k=2:=by
    by_cases z:k=2
    .exact z
    .have:2*3<=g.1*k:=eV d2 ad
     lia
   subst k3;refine .inr (.inr ⟨g,g,by have:2<=g.1:=d2;lia,by have:2<=g.1:=d2;lia,?_,.inl ⟨rfl,rfl⟩⟩)
   show tm q (tm q i8 g) g=_
   rw[b39 mx]
 | x::y::l,mem,h4=>
  obtain⟨mx,d2,k1⟩:=mem x (b7 ..);obtain⟨my,d2',k1'⟩:=mem y (bM _<|b7 ..);obtain⟨a1,a2,a3⟩:=c36 d2 k1;obtain⟨b1,b2,b3⟩:=c36 d2' k1';have e:(powT q (powT q i8 x.1 x.2) y.1 y.2).1=x.1.1*x.2+y.1.1*y.2:=by
   rw[oJ,oJ];show 0+_+_=_;rw[Nat.zero_add]
  match l,mem,h4 with
  | [],_,h4=>
   have h4':(powT q (powT q i8 x.1 x.2) y.1 y.2).1<=4:=h4;rw[e]at h4';have kx:=a2 ad
   have ky:=b2 ad
   have gx:=a3 ad
   have gy:=b3 ad
   obtain⟨g,k⟩:=x;obtain⟨h,k'⟩:=y;obtain rfl:k=1:=kx;obtain rfl:k'=1:=ky;refine .inr (.inr ⟨g,h,gx,gy,?_,.inr rfl⟩);show tm q (tm q i8 g) h=_;rw[b39 mx]
  | z::l,mem,h4=>
   exfalso
   obtain⟨mz,d3,k3⟩:=mem z (bM _<|bM _<|b7 ..);have c1:=(c36 d3 k3).1;have ge:=c35 q l (powT q (powT q (powT q i8 x.1 x.2) y.1 y.2) z.1 z.2);have h4':(allT q (powT q (powT q (powT q i8 x.1 x.2) y.1 y.2) z.1 z.2) l).1<=4:=h4;rw[oJ,e]at ge
   lia
theorem bJ5 {q c:Int}(q2:2<=q)(c0:0<=c)(c1:c<q): ∀(k:Nat) {a b:Nat×∅},MP q a.1 a.2->MP q b.1 b.2->powT q a (gP c) k=powT q b (gP c) k->a=b
 | 0,_,_,_,_,h=>h
 | k+1,a,b,ma,mb,h=>by
  have ml:=MP.lin q2 c0 c1;exact bJ5 q2 c0 c1 k ma mb (bJ4 q2 (MP.powT q2 ma ml k) (MP.powT q2 mb ml k) h)
theorem bJ6 {q:Int}(q2:2<=q): ∀(L:List ((Nat×∅)×Nat)) {G G':Nat×∅},(∀x∈L,∃c,x.1=gP c/\0<=c/\c<q)->MP q G.1 G.2->MP q G'.1 G'.2->allT q G L=allT q G' L->G=G'
 | [],_,_,_,_,_,h=>h
 | x::L,G,G',hL,mG,mG',h=>by
  obtain⟨c,e,c0,c1⟩:=hL x (b7 ..);have ml:=MP.lin q2 c0 c1;have mL: ∀y∈L,MP q y.1.1 y.1.2:=λy hy=>by
   obtain⟨c',e',d0,d1⟩:=hL y (bM _ hy);rw[e'];exact MP.lin q2 d0 d1
  have h':allT q (powT q G x.1 x.2) L=allT q (powT q G' x.1 x.2) L:=h;rw[e]at h';exact bJ5 q2 c0 c1 x.2 mG mG' (bJ6 q2 L (λy hy=>hL y (bM _ hy)) (MP.powT q2 mG ml _) (MP.powT q2 mG' ml _) h')
theorem b46: ∀{xs:List ((Nat×∅)×Nat)},xs.Pairwise ltP->(∀x∈xs,1<=x.1.1)-> ∀x∈xs.dropWhile (λx=>x.1.1==1),2<=x.1.1
 | [],_,_,x,hx=>by simp at hx
 | y::xs,hp,h1,x,hx=>by
  rw[iJ]at hp
  by_cases c:y.1.1=1
  .rw[List.dropWhile_cons_of_pos<|by simpa using c]at hx
   exact b46 hp.2 (λz hz=>h1 z (bM _ hz)) x hx
  .rw[List.dropWhile_cons_of_neg<|by simpa using c]at hx
   have hy:=h1 y (b7 ..);rcases aT.mp hx with rfl|hx
   .lia
   .have:=hp.1 x hx;unfold ltP at this
    lia
theorem bV7 : ∀x∈xs.takeWhile (λx=>x.1.1==1),x.1.1=1:=λx hx=>by
 have:=cC.mp (List.all_takeWhile (l:=xs) (p:=λx=>x.1.1==1)) x hx
 exists this
theorem cU0 (pq:Pr q)(mF:MP q F.1 F.2){ys:List ((Nat×∅)×Nat)}(sx:SP q F xs)(sy:SP q F ys){x:(Nat×∅)×Nat}(hx:x∈xs)(h1:x.1.1=1):x∈ys:=by
 obtain⟨mx,_,_,k1,_⟩:=sx.mem x hx;have e:=c25 mx h1;have c0:=(mx.rng 0).1;have c1:=(mx.rng 0).2;have M1:=(c34 pq mF sx c0 c1).1 x hx e
 by_cases c: ∃y∈ys,y.1=gP (x.1.2 0)
 .obtain⟨y,hy,ey⟩:=c;have M2:=(c34 pq mF sy c0 c1).1 y hy ey;have:x=y:=gJ (e.trans ey.symm) (b97.uniq pq c0 c1 M1 M2);rw[this];exact hy
 .have M2:=(c34 pq mF sy c0 c1).2 λy hy z=>c ⟨y,hy,z⟩
  have:=b97.uniq pq c0 c1 M1 M2
  lia
theorem SP.uniq (pq:Pr q)(mF:MP q F.1 F.2)(f4:F.1<=4){ys:List ((Nat×∅)×Nat)}(sx:SP q F xs)(sy:SP q F ys):xs=ys:=by
 have q2:=pq.lo;have ex:=List.takeWhile_append_dropWhile (p:=λx:(Nat×∅)×Nat=>x.1.1==1) (l:=xs)
 have ey:=List.takeWhile_append_dropWhile (p:=λx:(Nat×∅)×Nat=>x.1.1==1) (l:=ys)
 have lx:=bV7 (xs:=xs);have ly:=bV7 (xs:=ys);have nx:=b46 sx.ord λx hx=>(sx.mem x hx).2.1
 have ny:=b46 sy.ord λx hx=>(sy.mem x hx).2.1
 have px:=sx.prod;have py:=sy.prod;have ox:=sx.ord;have oy:=sy.ord;have mx:=sx.mem;have my:=sy.mem;have tx: ∀x∈xs,x.1.1=1->x∈ys:=λx hx h=>cU0 pq mF sx sy hx h
 have ty: ∀x∈ys,x.1.1=1->x∈xs:=λx hx h=>cU0 pq mF sy sx hx h
 generalize xs.takeWhile (λx=>x.1.1==1)=Lx at *
 generalize xs.dropWhile (λx=>x.1.1==1)=Nx at *
 generalize ys.takeWhile (λx=>x.1.1==1)=Ly at *
 generalize ys.dropWhile (λx=>x.1.1==1)=Ny at *
 subst ex ey;rw[uZ]at ox oy;have eL:Lx=Ly:=by
  refine dF7 (λ_ _=>cD1) ox.1 oy.1 λx=>⟨λh=> ?_,λh=> ?_⟩
  .rcases bG.mp (tx x (gS _ h)<|lx x h)with z|z
   .exact z
   .have:=ny x z;have:=lx x h
    lia
  .rcases bG.mp (ty x (gS _ h)<|ly x h)with z|z
   .exact z
   .have:=nx x z;have:=ly x h
    lia
 subst eL;have hL: ∀x∈Lx,∃c,x.1=gP c/\0<=c/\c<q:=λx hx=>by
  have m:=(mx x<|gS _ hx).1;exact⟨_,c25 m<|lx x hx,(m.rng 0).1,(m.rng 0).2⟩
 have mL: ∀x∈Lx,MP q x.1.1 x.1.2:=λx hx=>(mx x<|gS _ hx).1
 have mNx: ∀x∈Nx,MP q x.1.1 x.1.2/\2<=x.1.1/\1<=x.2:=λx hx=>by
  have m:=mx x (cZ _ hx);exact⟨m.1,nx x hx,m.2.2.2.1⟩
 have mNy: ∀x∈Ny,MP q x.1.1 x.1.2/\2<=x.1.1/\1<=x.2:=λx hx=>by
  have m:=my x (cZ _ hx);exact⟨m.1,ny x hx,m.2.2.2.1⟩
 have m1:=MP.one q2;have gx:=MP.allT q2 Nx m1 λx hx=>(mNx x hx).1
 have gy:=MP.allT q2 Ny m1 λx hx=>(mNy x hx).1
 have turn: ∀N:List ((Nat×∅)×Nat),(∀x∈N,MP q x.1.1 x.1.2)->allT q i8 (Lx++N)=allT q (allT q i8 N) Lx:=λN hN=>by
  have mA:=MP.allT q2 Lx m1 mL;have mB:=MP.allT q2 N m1 hN;rw[n8];have e1:allT q i8 Lx=tm q (allT q i8 Lx) i8:=(c23 q2 mA).symm;rw[e1,zR q2 N m1 hN];have e2:allT q (allT q i8 N) Lx=allT q (tm q (allT q i8 N) i8) Lx:=by rw[c23 q2 mB]
  rw[e2,zR q2 Lx m1 mL,a58 mA.hi mB.hi]
 rw[turn Nx λx hx=>(mNx x hx).1]at px
 rw[turn Ny λx hx=>(mNy x hx).1]at py
 have eG:allT q i8 Nx=allT q i8 Ny:=bJ6 q2 Lx hL gx gy (px.trans py.symm);have hx4:(allT q i8 Nx).1<=4:=by
  have:=c35 q Lx (allT q i8 Nx);rw[px]at this
  lia
 have hy4:(allT q i8 Ny).1<=4:=by rw[<-eG];exact hx4
 have eN:Nx=Ny:=by
  have oX:=ox.2.1;have oY:=oy.2.1;have irx: ∀x∈Nx,NoR q x.1/\(x.1.1=4->NoQ q x.1):=λx hx=>by
   have m:=mx x (cZ _ hx);exact⟨m.2.2.2.2.2.1<|nx x hx,m.2.2.2.2.2.2⟩
  have iry: ∀x∈Ny,NoR q x.1/\(x.1.1=4->NoQ q x.1):=λx hx=>by
   have m:=my x (cZ _ hx);exact⟨m.2.2.2.2.2.1<|ny x hx,m.2.2.2.2.2.2⟩
  have noq: ∀{g a b:Nat×∅},MP q a.1 a.2->MP q b.1 b.2->a.1=2->b.1=2->(g.1=4->NoQ q g)->g=tm q a b->False:=λ{g a b} ma mb a2 b2 nq e=>by
   have g4:g.1=4:=by
    rw[e];show a.1+b.1=4
    lia
   refine nq g4 _ _ _ _ (ma.rng 0).1 (ma.rng 0).2 (ma.rng 1).1 (ma.rng 1).2 (mb.rng 0).1 (mb.rng 0).2 (mb.rng 1).1 (mb.rng 1).2 ?_
   rw[<-b45 ma a2,<-b45 mb b2];exact e
  have mp2: ∀{N:List ((Nat×∅)×Nat)} {g h:Nat×∅},(∀x∈N,MP q x.1.1 x.1.2/\2<=x.1.1/\1<=x.2)->((g=h/\N=[(g,2)])\/N=[(g,1),(h,1)])->MP q g.1 g.2/\MP q h.1 h.2:=λ{N g h} mN f=>by
   rcases f with⟨rfl,rfl⟩|rfl
   .have:=(mN _<|b7 ..).1;exact⟨this,this⟩
   .exact⟨(mN _<|b7 ..).1,(mN _<|bM _<|b7 ..).1⟩
  rcases bC2 q2 mNx hx4 with rfl| ⟨g,rfl,ge⟩| ⟨g,h,g2,h2,ge,fx⟩
  .rcases bC2 q2 mNy hy4 with rfl| ⟨g',rfl,ge'⟩| ⟨g',h',g2',h2',ge',fy⟩
   .rfl
   .exfalso
    have z:=bO Prod.fst (eG.trans ge');have z':0=g'.1:=z;have:=(mNy _<|b7 ..).2.1;have:2<=g'.1:=this
    lia
   .exfalso
    have z:=bO Prod.fst (eG.trans ge');have z':0=g'.1+h'.1:=z
    lia
  .rcases bC2 q2 mNy hy4 with rfl| ⟨g',rfl,ge'⟩| ⟨g',h',g2',h2',ge',fy⟩
   .exfalso
    have z:=bO Prod.fst (ge.symm.trans eG);have z':g.1=0:=z;have:=(mNx _<|b7 ..).2.1;have:2<=g.1:=this
    lia
   .rw[ge.symm.trans<|eG.trans ge']
   .exfalso
    obtain⟨ma,mb⟩:=mp2 mNy fy;exact noq ma mb g2' h2' (irx _<|b7 ..).2 (ge.symm.trans<|eG.trans ge')
  .obtain⟨mg,mh⟩:=mp2 mNx fx;rcases bC2 q2 mNy hy4 with rfl| ⟨g',rfl,ge'⟩| ⟨g',h',g2',h2',ge',fy⟩
   .exfalso
    have z:=bO Prod.fst (ge.symm.trans eG);have z':g.1+h.1=0:=z
    lia
   .exfalso
    exact noq mg mh g2 h2 (iry _<|b7 ..).2 (ge'.symm.trans<|eG.symm.trans ge)
   .obtain⟨mg',mh'⟩:=mp2 mNy fy;have nr:NoR q g:=by
     rcases fx with⟨_,rfl⟩|rfl
     .exact(irx _<|b7 ..).1
     .exact(irx _<|b7 ..).1
    rcases dS2 pq mg mh mg' mh' g2 h2 g2' h2' nr (ge.symm.trans<|eG.trans ge')with⟨rfl,rfl⟩| ⟨rfl,rfl⟩
    .rcases fx with⟨e,rfl⟩|rfl
     .rcases fy with⟨_,rfl⟩|rfl
      .rfl
      .subst e;rw[iJ]at oY;exact(b44 (oY.1 _<|b7 ..) rfl).elim
     .rcases fy with⟨e,rfl⟩|rfl
      .subst e;rw[iJ]at oX;exact(b44 (oX.1 _<|b7 ..) rfl).elim
      .rfl
    .rcases fx with⟨e,rfl⟩|rfl
     .subst e;rcases fy with⟨_,rfl⟩|rfl
      .rfl
      .rw[iJ]at oY;exact(b44 (oY.1 _<|b7 ..) rfl).elim
     .rw[iJ]at oX;have l1:=oX.1 _ (b7 ..);rcases fy with⟨e,rfl⟩|rfl
      .exact(b44 l1 e.symm).elim
      .rw[iJ]at oY;have l2:=oY.1 _ (b7 ..);exact(cD1 l1 l2).elim
 rw[eN]
structure PrI (P:Int):Prop where
 lo:2<=P
 or: ∀x y:Int,P∣x*y->P∣x\/P∣y
theorem bV8: ∀(n m:Nat),m<=n->2<=m-> ∃k,2<=k/\k∣m/\ ∀l,2<=l->l∣k->l=k
 | 0,m,h,h2=>aa
 | n+1,m,h,h2=>by
  by_cases c: ∃l,2<=l/\l∣m/\l≠m
  .obtain⟨l,l2,lm,ne⟩:=c;have:=a30 aa lm
   obtain⟨k,k2,kl,hk⟩:=bV8 n l aa l2
   exact⟨k,k2,Nat.dvd_trans kl lm,hk⟩
  .refine⟨m,h2,Nat.dvd_refl m,λl l2 lm=> ?_⟩
   exact rB λne=>c ⟨l,l2,lm,ne⟩
theorem pr_div (h:2<=c.natAbs): ∃P:Int,PrI P/\P∣c:=by
 obtain⟨k,k2,kc,hk⟩:=bV8 c.natAbs c.natAbs (aG _) h;refine⟨(k:Int),⟨aa,λx y hxy=> ?_⟩,a10.mpr kc⟩
 have h1:k∣x.natAbs*y.natAbs:=by
  rw[<-eC];exact a10.mp hxy
 by_cases cx:k∣x.natAbs
 .exact .inl (a10.mpr cx)
 .have g1:Nat.gcd k x.natAbs=1:=by
   have d1:=Nat.gcd_dvd_left k x.natAbs;have d2:=Nat.gcd_dvd_right k x.natAbs;have p0:0<Nat.gcd k x.natAbs:=Nat.gcd_pos_of_pos_left _ aa
   by_cases e:Nat.gcd k x.natAbs=1
   .exact e
   .have:=hk _ aa d1
    rw[this]at d2;exact absurd d2 cx
  exact .inr (a10.mpr<|Nat.Coprime.dvd_of_dvd_mul_left (show Nat.Coprime k x.natAbs from g1) h1)
theorem cD2 {u b:∅}{i j:Nat}(hu: ∀k,k<i->u k=0)(hb: ∀k,k<j->b k=0): ∀n,conv u b n (i+j)=if i<n then u i*b j else 0
 | 0=>rfl
 | n+1=>by
  show conv u b n (i+j)+u n*shF b n (i+j)=_
  rw[cD2 hu hb n];unfold shF;rcases aQ2 n i with h|h|h
  .rw[hu n h,fB,eF,a7<|show ¬i<n by lia,a7<|show ¬i<n+1 by lia]
  .subst h;rw[a7<|show ¬n<n by lia,a8<|show n<=n+j by lia,a8<|show n<n+1 by lia,show n+j-n=j by lia,eE]
  .rw[a8 h,a8<|show i<n+1 by lia]
   by_cases c:n<=i+j
   .rw[a8 c,hb (i+j-n) ad,aY,eF]
   .rw[a7 c,aY,eF]
theorem bV9 {P:Int}{a:∅}{d:Nat}(h: ¬ ∀j,j<=d->P∣a j): ∃i,i<=d/\ ¬P∣a i/\ ∀k,k<i->P∣a k:=by
 induction d with
 | zero=>exact⟨0,aG _,λz=>h λj hj=>by rw[show j=0 by lia];exact z,λk hk=>absurd hk (rP _)⟩
 | succ d ih=>
  by_cases c: ∀j,j<=d->P∣a j
  .exact⟨d+1,aG _,λz=>h λj hj=>by
    by_cases e:j=d+1
    .rw[e];exact z
    .exact c j ad,λk hk=>c k ad⟩
  .obtain⟨i,h1,h2,h3⟩:=ih c;exact⟨i,ad,h2,h3⟩
theorem dS3 {P:Int}(pr:PrI P){a q:∅}{d e:Nat}(hd: ∀m,P∣conv a q (d+1) m):(∀j,j<=d->P∣a j)\/ ∀j,j<=e->P∣q j:=by
 by_cases ca: ∀j,j<=d->P∣a j
 .exact .inl ca
 .by_cases cq: ∀j,j<=e->P∣q j
  .exact .inr cq
  .exfalso
   obtain⟨i,i1,i2,i3⟩:=bV9 ca;obtain⟨j,j1,j2,j3⟩:=bV9 cq;have lo:=pr.lo;have e1:conv (λk=>if k<i then 0 else a k) (λk=>if k<j then 0 else q k) (d+1) (i+j)%P=conv a q (d+1) (i+j)%P:=by
    refine aX4 (λx y=> ?_) (d+1) (i+j)
    try right
    by_cases cx:x<i
    .rw[a8 cx,fB,dD,lB<|oQ<|i3 x cx]
    .rw[a7 cx]
     by_cases cy:y<j
     .rw[a8 cy,aY,dD,lB<|Int.dvd_mul_of_dvd_right<|j3 y cy]
     .rw[a7 cy]
   rw[cD2 (λk hk=>a8 hk) λk hk=>a8 hk,a8 ad,lB<|hd _]at e1
   try dsimp only at e1
   rw[a7<|dU _,a7<|dU _]at e1;rcases pr.or _ _ (fY e1)with z|z
   .exact i2 z
   .exact j2 z
theorem cU1 {P:Int}{a:∅}{d:Nat}(ha: ∀j,d<j->a j=0)(h: ∀j,j<=d->P∣a j): ∃b:∅,(∀j,d<j->b j=0)/\ ∀j,a j=P*b j:=by
 refine⟨λj=>if j<=d then a j/P else 0,λj hj=>a7 ad,λj=> ?_⟩
 right
 by_cases c:j<=d
 .rw[a8 c,Int.mul_ediv_cancel'<|h j c]
 .rw[a7 c,ha j ad,aY]
theorem b47 (c:Int)(u b:∅)(m:Nat): ∀n,conv u (λj=>c*b j) n m=c*conv u b n m
 | 0=>by show(0:Int)=c*0;rw[aY]
 | n+1=>by
  show conv u (λj=>c*b j) n m+u n*shF (λj=>c*b j) n m=c*(conv u b n m+u n*shF b n m)
  rw[b47 c u b m n,cS9,rY]
  congr 1
  rw[<-gT,<-gT,mW<|u n]
theorem dF8 {f:∅}{d e:Nat}(f1:f (d+e)=1): ∀(N:Nat) (c:Int) (a q:∅),c.natAbs<=N->c≠0->(∀j,d<j->a j=0)->(∀j,e<j->q j=0)->(∀m,c*f m=conv a q (d+1) m)->
  ∃a' q':∅,a' d=1/\(∀j,d<j->a' j=0)/\q' e=1/\(∀j,e<j->q' j=0)/\ ∀m,f m=conv a' q' (d+1) m
 | 0,c,a,q,hN,c0,_,_,_=>aa
 | N+1,c,a,q,hN,c0,ha,hq,h=>by
  have top:=h (d+e);rw[f1,kB,bH4 hq]at top
  by_cases c1:c.natAbs=1
  .have hs:(a d).natAbs=1/\(q e).natAbs=1:=by
    have:(a d).natAbs*(q e).natAbs=1:=by rw[<-eC,<-top,c1]
    exact⟨Nat.eq_one_of_mul_eq_one_right this,Nat.eq_one_of_mul_eq_one_left this⟩
   have sq: ∀x:Int,x.natAbs=1->x*x=1:=λx hx=>by
    rcases Int.natAbs_eq x with z|z<;>rw[hx]at z<;>rw[z]<;>rfl
   have s1:=sq _ hs.1;have s2:=sq _ c1;refine⟨λj=>a d*a j,λj=>(c*a d)*q j,s1,λj hj=>(by show a d*a j=0;rw[ha j hj,aY]),?_,λj hj=>(by show c*a d*q j=0;rw[hq j hj,aY]),λm=> ?_⟩
   .show c*a d*q e=1
    rw[gT,<-top];exact s2
   .rw[aI8,b47,<-h m];have:a d*(c*a d*(c*f m))=(a d*a d)*(c*c)*f m:=by grind
    rw[this,s1,s2]
    grind
  .obtain⟨P,pr,c',hc⟩:=pr_div (c:=c) aa
   have lo:=pr.lo;have less:c'.natAbs<c.natAbs:=by
    rw[hc,eC];have:0<c'.natAbs:=Int.natAbs_pos.mpr λz=>c0 (by rw[hc,z,aY])
    have h2:2<=P.natAbs:=aa
    have:=uY c'.natAbs h2;omega
   have c'0:c'≠0:=λz=>c0 (by rw[hc,z,aY])
   have all: ∀m,P∣conv a q (d+1) m:=λm=>by
    rw[<-h m,hc,gT];exact aQ4 _ _
   have cut: ∀x y:Int,P*x=P*y->x=y:=λx y z=>Int.eq_of_mul_eq_mul_left aa z
   rcases dS3 (e:=e) pr all with z|z
   .obtain⟨b,hb,eb⟩:=cU1 ha z;have ea:a=λj=>P*b j:=funext eb
    refine dF8 f1 N c' b q aa c'0 hb hq λm=>cut _ _ ?_
    rw[<-gT,<-hc,h m,ea,aI8]
   .obtain⟨b,hb,eb⟩:=cU1 hq z;have ea:q=λj=>P*b j:=funext eb
    refine dF8 f1 N c' a b aa c'0 ha hb λm=>cut _ _ ?_
    rw[<-gT,<-hc,h m,ea,b47]
theorem cay2 (p:List Int)(u:∅): ∀j,j<2->itT p 2 u 2 j= -(p.getD 0 0*itT p 2 u 0 j+p.getD 1 0*itT p 2 u 1 j)
 | 0,_=>by simp[itT,ttF];grind
 | 1,_=>by simp[itT,ttF];grind
theorem cay3 (p:List Int)(u:∅): ∀j,j<3->itT p 3 u 3 j= -(p.getD 0 0*itT p 3 u 0 j+p.getD 1 0*itT p 3 u 1 j+p.getD 2 0*itT p 3 u 2 j)
 | 0,_=>by simp[itT,ttF];grind
 | 1,_=>by simp[itT,ttF];grind
 | 2,_=>by simp[itT,ttF];grind
theorem cay4 (p:List Int)(u:∅): ∀j,j<4->itT p 4 u 4 j= -(p.getD 0 0*itT p 4 u 0 j+p.getD 1 0*itT p 4 u 1 j+p.getD 2 0*itT p 4 u 2 j+p.getD 3 0*itT p 4 u 3 j)
 | 0,_=>by simp[itT,ttF];grind
 | 1,_=>by simp[itT,ttF];grind
 | 2,_=>by simp[itT,ttF];grind
 | 3,_=>by simp[itT,ttF];grind
nonrec def wZ (n:Nat)(w:∅)(r:Nat->∅):∅:=λj=>wY n λk=>w k*r k j
theorem cD3 (w:∅)(r:Nat->∅)(j:Nat):wZ 2 w r j=w 0*r 0 j+w 1*r 1 j:=by simp[wZ,wY,gI]
theorem cD4 (w:∅)(r:Nat->∅)(j:Nat):wZ 3 w r j=w 0*r 0 j+w 1*r 1 j+w 2*r 2 j:=by simp[wZ,wY,gI,Int.add_assoc]
theorem cD5 (w:∅)(r:Nat->∅)(j:Nat):wZ 4 w r j=w 0*r 0 j+w 1*r 1 j+w 2*r 2 j+w 3*r 3 j:=by simp[wZ,wY,gI,Int.add_assoc]
theorem dF9 (w u:∅)(n2:2<=n)(n4:n<=4): ∀j,j<n->ttF p n (wZ n w<|itT p n u) j=wZ n (ttF p n w) (itT p n u) j:=by
 intro j hj
 match n,n2,n4 with
 | 2,_,_=>
  have c:=cay2 p u j hj;have s1:itT p 2 u 1 j=ttF p 2 (itT p 2 u 0) j:=rfl;have s2:itT p 2 u 2 j=ttF p 2 (itT p 2 u 1) j:=rfl;have t0:ttF p 2 w 0= -(w 1*p.getD 0 0):=by simp[ttF]
  have t1:ttF p 2 w 1=w 0-w 1*p.getD 1 0:=by simp[ttF]
  rw[cD3,t0,t1];unfold ttF at s1 s2⊢;rw[cD3,cD3];split at s1<;>split at s2<;>split<;>grind
 | 3,_,_=>
  have c:=cay3 p u j hj;have s1:itT p 3 u 1 j=ttF p 3 (itT p 3 u 0) j:=rfl;have s2:itT p 3 u 2 j=ttF p 3 (itT p 3 u 1) j:=rfl;have s3:itT p 3 u 3 j=ttF p 3 (itT p 3 u 2) j:=rfl;have t0:ttF p 3 w 0= -(w 2*p.getD 0 0):=by simp[ttF]
  have t1:ttF p 3 w 1=w 0-w 2*p.getD 1 0:=by simp[ttF]
  have t2:ttF p 3 w 2=w 1-w 2*p.getD 2 0:=by simp[ttF]
  rw[cD4,t0,t1,t2];unfold ttF at s1 s2 s3⊢;rw[cD4,cD4]
  by_cases z:j=0
  .rw[a8 z]at s1 s2 s3⊢
   grind
  .rw[a7 z]at s1 s2 s3⊢
   grind
 | 4,_,_=>
  have c:=cay4 p u j hj;have s1:itT p 4 u 1 j=ttF p 4 (itT p 4 u 0) j:=rfl;have s2:itT p 4 u 2 j=ttF p 4 (itT p 4 u 1) j:=rfl;have s3:itT p 4 u 3 j=ttF p 4 (itT p 4 u 2) j:=rfl;have s4:itT p 4 u 4 j=ttF p 4 (itT p 4 u 3) j:=rfl;have t0:ttF p 4 w 0= -(w 3*p.getD 0 0):=by simp[ttF]
  have t1:ttF p 4 w 1=w 0-w 3*p.getD 1 0:=by simp[ttF]
  have t2:ttF p 4 w 2=w 1-w 3*p.getD 2 0:=by simp[ttF]
  have t3:ttF p 4 w 3=w 2-w 3*p.getD 3 0:=by simp[ttF]
  rw[cD5,t0,t1,t2,t3];unfold ttF at s1 s2 s3 s4⊢;rw[cD5,cD5]
  by_cases z:j=0
  .rw[a8 z]at s1 s2 s3 s4⊢
   grind
  .rw[a7 z]at s1 s2 s3 s4⊢
   grind
theorem bW0 {g:∅}(n1:1<=n)(h: ∀j,j<n->f j=g j): ∀j,j<n->ttF p n f j=ttF p n g j:=by
 intro j hj;unfold ttF;rw[h (n-1) aa,h (j-1) aa]
theorem dG0 {p:List Int}{n:Nat}(u v:∅)(n2:2<=n)(n4:n<=4): ∀i j,j<n->itT p n (timF p n u v) i j=wZ n (itT p n v i) (itT p n u) j
 | 0,j,_=>rfl
 | i+1,j,hj=>by
  show ttF p n (itT p n (timF p n u v) i) j=_
  rw[bW0 aa (dG0 u v n2 n4 i) j hj,dF9 _ _ n2 n4 j hj]
  rfl
theorem bW1 {s t:Nat->∅}(h: ∀i j,j<n->s i j=t i j):tbL n s=tbL n t:=by
 unfold tbL;exact iI λi _=>sC λj hj=>h i j hj
set_option maxHeartbeats 0 in
theorem mulD4 (A B:Nat->∅):fW 4 (tbL 4 λi=>wZ 4 (A i) B)=fW 4 (tbL 4 A)*fW 4 (tbL 4 B):=by
 rw[bJ3,bJ3,bJ3];simp only[cD5]
 grind (ringSteps:=100000000)
theorem mulD3 (A B:Nat->∅):fW 4 (tbL 3 λi=>wZ 3 (A i) B)=fW 4 (tbL 3 A)*fW 4 (tbL 3 B):=by
 rw[bJ2,bJ2,bJ2];simp only[cD4]
 grind
theorem mulD2 (A B:Nat->∅):fW 4 (tbL 2 λi=>wZ 2 (A i) B)=fW 4 (tbL 2 A)*fW 4 (tbL 2 B):=by
 rw[bJ1,bJ1,bJ1];simp only[cD3]
 grind
theorem dS4 (u v:∅)(n2:2<=n)(n4:n<=4):nrm p n (timF p n u v)=nrm p n u*nrm p n v:=by
 unfold nrm;rw[bW1 (t:=λi=>wZ n (itT p n v i) (itT p n u))<|dG0 u v n2 n4,mW]
 match n,n2,n4 with
 | 2,_,_=>exact mulD2 _ _
 | 3,_,_=>exact mulD3 _ _
 | 4,_,_=>exact mulD4 _ _
def valL:List Int->Int->Int
 | [],_=>0
 | c::p,r=>valL p r*r+c
theorem pdiv {a:∅}{D:Nat}(aD:a D≠0)(aH: ∀j,D<j->a j=0){K:∅->Prop}(cl: ∀(g:∅) (α β:Int) (E:Nat),K g->K λm=>α*g m-β*shF a E m): ∀(E:Nat) (g:∅),K g->(∀j,D+E<=j->g j=0)->
  ∃(c:Int) (q r:∅),c≠0/\(∀j,E<=j->q j=0)/\(∀j,D<=j->r j=0)/\K r/\ ∀m,c*g m=conv a q (D+1) m+r m
 | 0,g,kg,hg=>⟨1,λ_=>0,g,ac,λ_ _=>rfl,λj hj=>hg j ad,kg,λm=>by
   have: ∀n,conv a (λ_=>0) n m=0:=by
    intro n
    induction n with
    | zero=>rfl
    | succ n ih=>
     show conv a (λ_=>0) n m+a n*shF (λ_=>0) n m=0
     rw[ih];unfold shF;split<;>rw[aY]<;>rfl
   rw[this]
   lia⟩
 | E+1,g,kg,hg=>by
  obtain⟨c,q,r,c0,hq,hr,kr,e⟩:=pdiv aD aH cl E (λm=>a D*g m-g (D+E)*shF a E m) (cl g _ _ E kg) λj hj=>by
   show a D*g j-g (D+E)*shF a E j=0
   unfold shF;rw[a8 ad]
   by_cases z:j=D+E
   .rw[z,show D+E-E=D by lia,mW,rX]
   .rw[hg j ad,aH (j-E) ad,aY,aY,rX]
  refine⟨c*a D,λj=>q j+(if j=E then c*g (D+E)else 0),r,Int.mul_ne_zero c0 aD,λj hj=> ?_,hr,kr,λm=> ?_⟩
  .show q j+(if j=E then c*g (D+E)else 0)=0
   rw[hq j ad,a7 ad]
   rfl
  .have h1:=e m;rw[aI9,aC3 (c*g (D+E)) E λj hj=>aH j ad]
   have h2:c*(a D*g m-g (D+E)*shF a E m)=conv a q (D+1) m+r m:=h1;have h3:c*a D*g m=c*(a D*g m-g (D+E)*shF a E m)+c*g (D+E)*shF a E m:=by grind
   rw[h3,h2]
   lia
nonrec def act (p:List Int)(n:Nat)(z a:∅)(N:Nat):∅:=λj=>wY N λk=>a k*itT p n z k j
theorem fP (n:Nat)(f:∅):wY (n+1) f=wY n f+f n:=by
 unfold wY;rw[gI,bT,aR4];simp
theorem aE0 {p:List Int}{n:Nat}{z a:∅}{N:Nat}(h: ∀k,N<=k->a k=0)(j:Nat): ∀M,N<=M->act p n z a M j=act p n z a N j
 | 0,hM=>by rw[show N=0 by lia]
 | M+1,hM=>by
  by_cases c:N=M+1
  .rw[c]
  .show wY (M+1) _=_
   rw[fP,h M ad,fB,eF]
   exact aE0 h j M ad
theorem cU2 {p:List Int}{n:Nat}{z g b:∅}(α β:Int)(j:Nat): ∀N,act p n z (λm=>α*g m-β*b m) N j=α*act p n z g N j-β*act p n z b N j
 | 0=>by show(0:Int)=α*0-β*0;lia
 | N+1=>by
  have ih:=cU2 (p:=p) (n:=n) (z:=z) (g:=g) (b:=b) α β j N;unfold act at ih⊢;rw[fP,fP,fP,ih]
  grind
theorem dS5 (u v:∅)(c:Int)(j:Nat):ttF p n (λi=>u i+c*v i) j=ttF p n u j+c*ttF p n v j:=by
 unfold ttF
 by_cases h:j=0
 .rw[a8 h,a8 h,a8 h]
  grind
 .rw[a7 h,a7 h,a7 h]
  grind
theorem bW2 {p:List Int}{n:Nat}{z a:∅}(j:Nat): ∀N,act p n z (shF a 1) (N+1) j=ttF p n (act p n z a N) j
 | 0=>by
  show wY 1 (λk=>shF a 1 k*itT p n z k j)=ttF p n (λ_=>0) j
  have e:wY 1 (λk=>shF a 1 k*itT p n z k j)=shF a 1 0*itT p n z 0 j:=by simp[wY,gI]
  rw[e];unfold shF ttF;rw[a7 ad]
  split<;>lia
 | N+1=>by
  have ih:=bW2 (p:=p) (n:=n) (z:=z) (a:=a) j N;have e1:act p n z a (N+1)=λi=>act p n z a N i+a N*itT p n z N i:=funext λi=>by
   show wY (N+1) _=_
   rw[fP];rfl
  rw[e1,dS5];show wY (N+1+1) _=_;rw[fP];have e2:wY (N+1) (λk=>shF a 1 k*itT p n z k j)=ttF p n (act p n z a N) j:=ih
  rw[e2]
  congr 1
  try unfold shF
  try rw[a8 ad,jT]
  try rfl
def Kz (p:List Int)(n:Nat)(z a:∅):Prop:= ∃N,(∀k,N<=k->a k=0)/\ ∀j,j<n->act p n z a N j=0
theorem cN0 (n1:1<=n){u:∅}(h: ∀j,j<n->u j=0): ∀j,j<n->ttF p n u j=0:=λj hj=>by
 unfold ttF;rw[h (n-1) ad]
 by_cases c:j=0
 .rw[a8 c];lia
 .rw[a7 c,h (j-1) ad];lia
theorem Kz.one {z a:∅}(n1:1<=n)(h:Kz p n z a):Kz p n z (shF a 1):=by
 obtain⟨N,h1,h2⟩:=h;refine⟨N+1,λk hk=> ?_,λj hj=> ?_⟩
 .unfold shF;rw[a8 ad,h1 (k-1) ad]
 .rw[bW2];exact cN0 n1 h2 j hj
theorem Kz.sh {p:List Int}{n:Nat}{z a:∅}(n1:1<=n)(h:Kz p n z a): ∀E,Kz p n z (shF a E)
 | 0=>by
  have:shF a 0=a:=funext λm=>by unfold shF;rw[a8<|dI _,a33]
  rw[this];exact h
 | E+1=>by
  have:shF a (E+1)=shF (shF a E) 1:=funext λm=>(dD1 a E 1 m).symm
  rw[this];exact Kz.one n1 (Kz.sh n1 h E)
theorem Kz.lin {z g b:∅}(α β:Int)(h:Kz p n z g)(h':Kz p n z b):Kz p n z λm=>α*g m-β*b m:=by
 obtain⟨N,h1,h2⟩:=h;obtain⟨M,h3,h4⟩:=h';refine⟨N+M,λk hk=> ?_,λj hj=> ?_⟩
 .show α*g k-β*b k=0
  rw[h1 k ad,h3 k ad,aY,aY,rX]
 .rw[cU2,aE0 h1 j (N+M) ad,aE0 h3 j (N+M) ad,h2 j hj,h4 j hj,aY,aY,rX]
theorem Kz.poly (rp:cY p)(hn:p.length=n+1)(z:∅):Kz p n z (fOf p):=by
 have lo:=rp.ok.lo;have hi:=rp.ok.hi;have rf:=rp.rf;rw[hn,jT]at rf;refine⟨n+1,λk hk=>rf.hi k ad,λj hj=> ?_⟩
 show wY (n+1) (λk=>fOf p k*itT p n z k j)=0
 rw[fP,rf.top,vL];rcases(show n=2\/n=3\/n=4 by lia)with rfl|rfl|rfl
 .rw[cay2 p z j hj,fP,fP];show 0+fOf p 0*_+fOf p 1*_+_=0;unfold fOf
  lia
 .rw[cay3 p z j hj,fP,fP,fP];show 0+fOf p 0*_+fOf p 1*_+fOf p 2*_+_=0;unfold fOf
  lia
 .rw[cay4 p z j hj,fP,fP,fP,fP];show 0+fOf p 0*_+fOf p 1*_+fOf p 2*_+fOf p 3*_+_=0;unfold fOf
  lia
theorem bJ7 {r:∅}: ∀(D:Nat),(∀j,D<=j->r j=0)->(∃j,r j≠0)-> ∃E,E<D/\r E≠0/\ ∀j,E<j->r j=0
 | 0,h,⟨j,hj⟩=>absurd (h j<|dI _) hj
 | D+1,h,ex=>by
  by_cases c:r D=0
  .obtain⟨E,e1,e2,e3⟩:=bJ7 D (λj hj=>by
    by_cases z:j=D
    .rw[z];exact c
    .exact h j ad) ex
   exact⟨E,ad,e2,e3⟩
  .exact⟨D,ad,c,λj hj=>h j ad⟩
theorem red_of (rp:cY p)(hn:p.length=n+1){a q:∅}{d e:Nat}(d1:1<=d)(e1:1<=e)(de:d+e=n)(a1:a d=1)(ha: ∀j,d<j->a j=0)(q1:q e=1)(hq: ∀j,e<j->q j=0)(h: ∀m,fOf p m=conv a q (d+1) m):Red p:=by
 have lo:=rp.ok.lo;have hi:=rp.ok.hi;have rf:=rp.rf;rw[hn,jT]at rf;have ef:fOf p=conv a q (d+1):=funext h;have val: ∀z,ev p z=ps a z (d+1)*ps q z (e+1):=λz=>by
  have e2:ps (fOf p) z (n+2)=ps (fOf p) z (n+1):=bH6 (n:=n+1) (n+2) ad λj h1 h2=>rf.hi j ad
  show ps (fOf p) z p.length=_
  rw[hn,<-e2,ef,c21 (V:=e+1) (λj hj=>hq j ad) (d+1) (n+2) ad]
 by_cases c1:d=1
 .subst c1;refine .inl ⟨-a 0,?_⟩;rw[val];have:ps a (-a 0) (1+1)=0:=by
   show 0+a 0*(-a 0)^0+a 1*(-a 0)^1=0
   rw[a1]
   grind
  rw[this,fB]
 .by_cases c2:e=1
  .subst c2;refine .inl ⟨-q 0,?_⟩;rw[val];have:ps q (-q 0) (1+1)=0:=by
    show 0+q 0*(-q 0)^0+q 1*(-q 0)^1=0
    rw[q1]
    grind
   rw[this,aY]
  .obtain rfl:d=2:=ad
   obtain rfl:e=2:=ad
   refine .inr ⟨a 0,a 1,q 0,q 1,?_⟩
   rcases rp.cases with⟨x,y,rfl,_⟩| ⟨x,y,z,rfl,_⟩| ⟨x,y,z,w,rfl,_⟩
   .simp at hn;lia
   .simp at hn;lia
   .have h0:=h 0;have h1:=h 1;have h2:=h 2;have h3:=h 3;have k3:=hq 3 ad
    have f0:x=0+a 0*q 0+a 1*0+a 2*0:=h0;have f1:y=0+a 0*q 1+a 1*q 0+a 2*0:=h1;have f2:z=0+a 0*q 2+a 1*q 1+a 2*q 0:=h2;have f3:w=0+a 0*q 3+a 1*q 2+a 2*q 1:=h3;rw[a1,q1]at f2;rw[a1,q1,k3]at f3;unfold qq;rw[f0,f1,f2,f3]
    congr 1
    .grind
    .congr 1
     .grind
     .congr 1
      .grind
      .congr 1
       grind
theorem cD6 {p:List Int}{n:Nat}(rp:cY p)(hn:p.length=n+1){z:∅}(hz: ∃j,j<n/\z j≠0): ∀(M D:Nat),D<=M->D<n-> ∀a:∅,a D≠0->(∀j,D<j->a j=0)->Kz p n z a->Red p
 | M,0,_,_,a,a0,ah,ka=>by
  exfalso
  obtain⟨j,hj,zj⟩:=hz;obtain⟨N,h1,h2⟩:=ka;have e:act p n z a 1 j=0:=by
   by_cases c:N<=1
   .rw[aE0 h1 j 1 c];exact h2 j hj
   .rw[<-aE0 (p:=p) (n:=n) (z:=z) (N:=1) (λk hk=>ah k ad) j N ad];exact h2 j hj
  have e':0+a 0*z j=0:=by
   have:act p n z a 1 j=wY 0 (λk=>a k*itT p n z k j)+a 0*itT p n z 0 j:=fP 0 _
   rw[this]at e;exact e
  rw[eE]at e';rcases Int.mul_eq_zero.mp e' with z'|z'
  .exact a0 z'
  .exact zj z'
 | 0,D+1,h,_,_,_,_,_=>aa
 | M+1,D+1,h,hD,a,a0,ah,ka=>by
  have lo:=rp.ok.lo;have rf:=rp.rf;rw[hn,jT]at rf;obtain⟨c,q,r,c0,hq,hr,kr,e⟩:=pdiv a0 ah (K:=Kz p n z) (λg α β E kg=>Kz.lin α β kg (Kz.sh ad ka E)) (n-D) (fOf p) (Kz.poly rp hn z) λj hj=>rf.hi j ad
  by_cases cr: ∃j,r j≠0
  .obtain⟨E,e1,e2,e3⟩:=bJ7 (D+1) hr cr;exact cD6 rp hn hz M E ad ad r e2 e3 kr
  .have r0: ∀j,r j=0:=λj=>rB λz=>cr ⟨j,z⟩
   obtain⟨a',q',h1,h2,h3,h4,h5⟩:=dF8 (f:=fOf p) (d:=D+1) (e:=n-(D+1)) (by rw[show D+1+(n-(D+1))=n by lia];exact rf.top) c.natAbs c a q (aG _) c0 ah (λj hj=>hq j ad) λm=>by rw[e m,r0 m,eF]
   exact red_of rp hn ad ad ad h1 h2 h3 h4 h5
nonrec def ch2 (A:Nat->∅):∅
 | 0=>1
 | 1=> -((A 0 0)+(A 1 1))
 | 2=>((A 0 0*(A 1 1)-A 1 0*(A 0 1)))
 | _=>0
nonrec def ch3 (A:Nat->∅):∅
 | 0=>1
 | 1=> -((A 0 0)+(A 1 1)+(A 2 2))
 | 2=>((A 0 0*(A 1 1)-A 1 0*(A 0 1))+(A 0 0*(A 2 2)-A 2 0*(A 0 2))+(A 1 1*(A 2 2)-A 2 1*(A 1 2)))
 | 3=> -((A 0 0*(A 1 1*(A 2 2)-A 2 1*(A 1 2))-A 1 0*(A 0 1*(A 2 2)-A 2 1*(A 0 2))+A 2 0*(A 0 1*(A 1 2)-A 1 1*(A 0 2))))
 | _=>0
nonrec def ch4 (A:Nat->∅):∅
 | 0=>1
 | 1=> -((A 0 0)+(A 1 1)+(A 2 2)+(A 3 3))
 | 2=>((A 0 0*(A 1 1)-A 1 0*(A 0 1))+(A 0 0*(A 2 2)-A 2 0*(A 0 2))+(A 0 0*(A 3 3)-A 3 0*(A 0 3))+(A 1 1*(A 2 2)-A 2 1*(A 1 2))+(A 1 1*(A 3 3)-A 3 1*(A 1 3))+(A 2 2*(A 3 3)-A 3 2*(A 2 3)))
 | 3=> -((A 0 0*(A 1 1*(A 2 2)-A 2 1*(A 1 2))-A 1 0*(A 0 1*(A 2 2)-A 2 1*(A 0 2))+A 2 0*(A 0 1*(A 1 2)-A 1 1*(A 0 2)))+(A 0 0*(A 1 1*(A 3 3)-A 3 1*(A 1 3))-A 1 0*(A 0 1*(A 3 3)-A 3 1*(A 0 3))+A 3 0*(A 0 1*(A 1 3)-A 1 1*(A 0 3)))+(A 0 0*(A 2 2*(A 3 3)-A 3 2*(A 2 3))-A 2 0*(A 0 2*(A 3 3)-A 3 2*(A 0 3))+A 3 0*(A 0 2*(A 2 3)-A 2 2*(A 0 3)))+(A 1 1*(A 2 2*(A 3 3)-A 3 2*(A 2 3))-A 2 1*(A 1 2*(A 3 3)-A 3 2*(A 1 3))+A 3 1*(A 1 2*(A 2 3)-A 2 2*(A 1 3))))
 | 4=>((A 0 0*(A 1 1*(A 2 2*(A 3 3)-A 3 2*(A 2 3))-A 2 1*(A 1 2*(A 3 3)-A 3 2*(A 1 3))+A 3 1*(A 1 2*(A 2 3)-A 2 2*(A 1 3)))-A 1 0*(A 0 1*(A 2 2*(A 3 3)-A 3 2*(A 2 3))-A 2 1*(A 0 2*(A 3 3)-A 3 2*(A 0 3))+A 3 1*(A 0 2*(A 2 3)-A 2 2*(A 0 3)))+A 2 0*(A 0 1*(A 1 2*(A 3 3)-A 3 2*(A 1 3))-A 1 1*(A 0 2*(A 3 3)-A 3 2*(A 0 3))+A 3 1*(A 0 2*(A 1 3)-A 1 2*(A 0 3)))-A 3 0*(A 0 1*(A 1 2*(A 2 3)-A 2 2*(A 1 3))-A 1 1*(A 0 2*(A 2 3)-A 2 2*(A 0 3))+A 2 1*(A 0 2*(A 1 3)-A 1 2*(A 0 3)))))
 | _=>0
nonrec def chn (n:Nat)(A:Nat->∅)(k:Nat):Int:=if n=2 then ch2 A k else if n=3 then ch3 A k else ch4 A k
nonrec def hoF (n:Nat)(A:Nat->∅):Nat->∅
 | 0=>λ_=>0
 | i+1=>λj=>wZ n (hoF n A i) A j+(if j=0 then chn n A i else 0)
set_option maxHeartbeats 0 in
theorem dS6 (n2:2<=n)(n4:n<=4)(A:Nat->∅)(j:Nat)(hj:j<n):hoF n A (n+1) j=0:=by
 match n,n2,n4 with
 | 2,_,_=>
  have h:j=0\/j=1:=ad
  rcases h with rfl|rfl<;>simp[hoF,cD3,chn,ch2]<;>grind
 | 3,_,_=>
  have h:j=0\/j=1\/j=2:=ad
  rcases h with rfl|rfl|rfl<;>simp[hoF,cD4,chn,ch3]<;>grind (ringSteps:=100000000)
 | 4,_,_=>
  have h:j=0\/j=1\/j=2\/j=3:=ad
  rcases h with rfl|rfl|rfl|rfl<;>simp[hoF,cD5,chn,ch4]<;>grind (ringSteps:=100000000)
set_option maxHeartbeats 0 in
theorem chn_val (n2:2<=n)(n4:n<=4)(A:Nat->∅)(z:Int):valL (rwF (n+1) λj=>chn n A (n-j)) z=fW 4 (tbL n λi j=>z*(if i=j then 1 else 0)-A i j):=by
 match n,n2,n4 with
 | 2,_,_=>
  show(((0*z+1)*z+ch2 A 1)*z+ch2 A 2)=_
  rw[bJ1];simp[ch2]
  grind
 | 3,_,_=>
  show((((0*z+1)*z+ch3 A 1)*z+ch3 A 2)*z+ch3 A 3)=_
  rw[bJ2];simp[ch3]
  grind (ringSteps:=100000000)
 | 4,_,_=>
  show(((((0*z+1)*z+ch4 A 1)*z+ch4 A 2)*z+ch4 A 3)*z+ch4 A 4)=_
  rw[bJ3];simp[ch4]
  grind (ringSteps:=100000000)
theorem dS7 (n2:2<=n)(n4:n<=4)(A:Nat->∅):chn n A n=(if n%2=0 then 1 else -1)*fW 4 (tbL n A):=by
 match n,n2,n4 with
 | 2,_,_=>
  show ch2 A 2=1*_
  rw[bJ1];unfold ch2
  grind
 | 3,_,_=>
  show ch3 A 3= -1*_
  rw[bJ2];unfold ch3
  grind
 | 4,_,_=>
  show ch4 A 4=1*_
  rw[bJ3];unfold ch4
  grind
theorem dG1 (n2:2<=n)(n4:n<=4)(A:Nat->∅):chn n A 0=1:=by
 match n,n2,n4 with
 | 2,_,_=>rfl
 | 3,_,_=>rfl
 | 4,_,_=>rfl
theorem cN1 {g:∅}(h: ∀i,i<n->f i=g i):wY n f=wY n g:=by
 unfold wY;rw[iI λi hi=>h i (cJ.mp hi)]
theorem it_one (n2:2<=n)(n4:n<=4)(i j:Nat)(hi:i<n)(hj:j<n):itT p n (c31 1) i j=if i=j then 1 else 0:=by
 match n,n2,n4 with
 | 2,_,_=>
  have h:(i=0\/i=1)/\(j=0\/j=1):=ad
  rcases h with⟨rfl|rfl,rfl|rfl⟩<;>simp[itT,ttF,c31]
 | 3,_,_=>
  have h:(i=0\/i=1\/i=2)/\(j=0\/j=1\/j=2):=ad
  rcases h with⟨rfl|rfl|rfl,rfl|rfl|rfl⟩<;>simp[itT,ttF,c31]
 | 4,_,_=>
  have h:(i=0\/i=1\/i=2\/i=3)/\(j=0\/j=1\/j=2\/j=3):=ad
  rcases h with⟨rfl|rfl|rfl|rfl,rfl|rfl|rfl|rfl⟩<;>simp[itT,ttF,c31]
theorem dS8 (v:∅)(r:Nat->∅)(j:Nat):wZ n (cz n v) r j=wZ n v r j:=cN1 λk hk=>by rw[show cz n v k=v k from a8 hk]
theorem cD7 {p:List Int}{n:Nat}{f g:∅}(n1:1<=n)(h: ∀j,j<n->f j=g j): ∀i j,j<n->itT p n f i j=itT p n g i j
 | 0,j,hj=>h j hj
 | i+1,j,hj=>bW0 n1 (cD7 n1 h i) j hj
theorem d16 {g:∅}(n1:1<=n)(h: ∀j,j<n->f j=g j):nrm p n f=nrm p n g:=by
 unfold nrm;rw[bW1 λi j hj=>cD7 n1 h i j hj]
theorem dS9 (k:Int)(u:∅)(j:Nat):ttF p n (λi=>k*u i) j=k*ttF p n u j:=by
 unfold ttF
 by_cases h:j=0
 .rw[a8 h,a8 h];grind
 .rw[a7 h,a7 h];grind
theorem dG2 {p:List Int}{n:Nat}(k:Int)(u:∅): ∀i j,itT p n (λj=>k*u j) i j=k*itT p n u i j
 | 0,j=>rfl
 | i+1,j=>by
  have e:itT p n (λj=>k*u j) i=λj=>k*itT p n u i j:=funext λj=>dG2 k u i j
  show ttF p n (itT p n (λj=>k*u j) i) j=_
  rw[e,dS9];rfl
theorem cN2 {s t:Nat->∅}(h: ∀i j,i<n->j<n->s i j=t i j):tbL n s=tbL n t:=by
 unfold tbL;refine iI λi hi=> ?_
 exact sC λj hj=>h i j (cJ.mp hi) hj
theorem dG3 (n2:2<=n)(n4:n<=4)(k0:k≠0):nrm p n (c31 k)≠0:=by
 have e:nrm p n (c31 k)=fW 4 (tbL n λi j=>k*if i=j then 1 else 0):=by
  unfold nrm;rw[cN2 λi j hi hj=> ?_]
  have ec:c31 k=λj=>k*c31 1 j:=funext λj=>by
   unfold c31;split
   .rw[kB]
   .rw[aY]
  rw[ec,dG2,it_one n2 n4 i j hi hj]
 rw[e]
 match n,n2,n4 with
 | 2,_,_=>
  rw[bJ1];simp;exact k0
 | 3,_,_=>
  rw[bJ2];simp;exact k0
 | 4,_,_=>
  rw[bJ3];simp;exact k0
theorem dG4 (rp:cY p)(hn:p.length=n+1)(irr: ¬Red p){y:∅}(hy: ∃j,j<n/\y j≠0):nrm p n y≠0:=by
 intro h0;have lo:=rp.ok.lo;have hi:=rp.ok.hi;have n2:2<=n:=ad
 have n4:n<=4:=ad
 have cn:chn n (itT p n y) n=0:=by
  rw[dS7 n2 n4];have:fW 4 (tbL n<|itT p n y)=0:=h0;rw[this,aY]
 have key: ∀i,(∃j,j<n/\hoF n (itT p n y) i j≠0)-> ∃j,j<n/\hoF n (itT p n y) (i+1) j≠0:=λi hh=>by
  refine rB λno=> ?_
  have nx: ∀j,j<n->hoF n (itT p n y) (i+1) j=0:=λj hj=>rB λz=>no ⟨j,hj,z⟩
  have st: ∀j,j<n->wZ n (hoF n (itT p n y) i) (itT p n y) j+(if j=0 then chn n (itT p n y) i else 0)=0:=nx;generalize hoF n (itT p n y) i=a at *;generalize chn n (itT p n y) i=c at *
  by_cases c0:c=0
  .refine irr ?_
   obtain⟨E,e1,e2,e3⟩:=bJ7 (r:=cz n a) n (λj hj=>a7 ad) (by
    obtain⟨j,hj,z⟩:=hh;exact⟨j,by rw[show cz n a j=a j from a8 hj];exact z⟩)
   refine cD6 rp hn hy n E ad e1 (cz n a) e2 e3 ⟨n,λk hk=>a7 ad,λj hj=> ?_⟩
   have:=st j hj;rw[c0]at this;have e4:act p n y (cz n a) n j=wZ n a (itT p n y) j:=dS8 a (itT p n y) j;rw[e4];have e5:(if j=0 then(0:Int)else 0)=0:=by split<;>rfl
   rw[e5,eF]at this;exact this
  .have m:=dS4 (p:=p) (n:=n) y a n2 n4;rw[h0,fB]at m;refine dG3 (p:=p) n2 n4 (k:= -c) ad ?_
   rw[<-m];refine d16 ad λj hj=> ?_
   have:=st j hj;show(if j=0 then -c else 0)=wZ n a (itT p n y) j
   by_cases z:j=0
   .rw[a8 z]at this ⊢; lia
   .rw[a7 z]at this ⊢; lia
 have all: ∀i,∃j,j<n/\hoF n (itT p n y) (i+1) j≠0:=by
  intro i
  induction i with
  | zero=>
   refine⟨0,ad,?_⟩
   show wZ n (λ_=>0) (itT p n y) 0+(if 0=0 then chn n (itT p n y) 0 else 0)≠0
   rw[a8 rfl,dG1 n2 n4];have:wZ n (λ_=>0) (itT p n y) 0=0:=by
    unfold wZ;have: ∀k,wY k (λi=>(0:Int)*itT p n y i 0)=0:=by
     intro k
     induction k with
     | zero=>rfl
     | succ k ih=>rw[fP,ih,fB];rfl
    exact this n
   rw[this]
   decide
  | succ i ih=>exact key (i+1) ih
 obtain⟨j,hj,z⟩:=all n;exact z (dS6 n2 n4 _ j hj)
theorem nr2 (a b:Int):nrm [a,b,1] 2 (bB [a,b,1])= -dA a b:=by
 have D:=bJ1 (itT [a,b,1] 2<|bB [a,b,1]);have e00:itT [a,b,1] 2 (bB [a,b,1]) 0 0=(1+((0:Nat):Int))*b:=rfl;have e01:itT [a,b,1] 2 (bB [a,b,1]) 0 1=(1+((1:Nat):Int))*1:=rfl;have e10:itT [a,b,1] 2 (bB [a,b,1]) 1 0=0-itT [a,b,1] 2 (bB [a,b,1]) 0 1*a:=rfl;have e11:itT [a,b,1] 2 (bB [a,b,1]) 1 1=itT [a,b,1] 2 (bB [a,b,1]) 0 0-itT [a,b,1] 2 (bB [a,b,1]) 0 1*b:=rfl
 have N:nrm [a,b,1] 2 (bB [a,b,1])=fW 4 (tbL 2<|itT [a,b,1] 2<|bB [a,b,1]):=rfl;rw[N,D];clear N D;generalize itT [a,b,1] 2 (bB [a,b,1]) 0 0=x00 at *;generalize itT [a,b,1] 2 (bB [a,b,1]) 0 1=x01 at *;generalize itT [a,b,1] 2 (bB [a,b,1]) 1 0=x10 at *;generalize itT [a,b,1] 2 (bB [a,b,1]) 1 1=x11 at *;subst e00 e01 e10 e11;unfold dA
 grind
theorem nr3 (a b c:Int):nrm [a,b,c,1] 3 (bB [a,b,c,1])= -dB a b c:=by
 have D:=bJ2 (itT [a,b,c,1] 3<|bB [a,b,c,1]);have e00:itT [a,b,c,1] 3 (bB [a,b,c,1]) 0 0=(1+((0:Nat):Int))*b:=rfl;have e01:itT [a,b,c,1] 3 (bB [a,b,c,1]) 0 1=(1+((1:Nat):Int))*c:=rfl;have e02:itT [a,b,c,1] 3 (bB [a,b,c,1]) 0 2=(1+((2:Nat):Int))*1:=rfl;have e10:itT [a,b,c,1] 3 (bB [a,b,c,1]) 1 0=0-itT [a,b,c,1] 3 (bB [a,b,c,1]) 0 2*a:=rfl
 have e11:itT [a,b,c,1] 3 (bB [a,b,c,1]) 1 1=itT [a,b,c,1] 3 (bB [a,b,c,1]) 0 0-itT [a,b,c,1] 3 (bB [a,b,c,1]) 0 2*b:=rfl;have e12:itT [a,b,c,1] 3 (bB [a,b,c,1]) 1 2=itT [a,b,c,1] 3 (bB [a,b,c,1]) 0 1-itT [a,b,c,1] 3 (bB [a,b,c,1]) 0 2*c:=rfl;have e20:itT [a,b,c,1] 3 (bB [a,b,c,1]) 2 0=0-itT [a,b,c,1] 3 (bB [a,b,c,1]) 1 2*a:=rfl
 have e21:itT [a,b,c,1] 3 (bB [a,b,c,1]) 2 1=itT [a,b,c,1] 3 (bB [a,b,c,1]) 1 0-itT [a,b,c,1] 3 (bB [a,b,c,1]) 1 2*b:=rfl;have e22:itT [a,b,c,1] 3 (bB [a,b,c,1]) 2 2=itT [a,b,c,1] 3 (bB [a,b,c,1]) 1 1-itT [a,b,c,1] 3 (bB [a,b,c,1]) 1 2*c:=rfl;have N:nrm [a,b,c,1] 3 (bB [a,b,c,1])=fW 4 (tbL 3<|itT [a,b,c,1] 3<|bB [a,b,c,1]):=rfl;rw[N,D];clear N D
 generalize itT [a,b,c,1] 3 (bB [a,b,c,1]) 0 0=x00 at *;generalize itT [a,b,c,1] 3 (bB [a,b,c,1]) 0 1=x01 at *;generalize itT [a,b,c,1] 3 (bB [a,b,c,1]) 0 2=x02 at *;generalize itT [a,b,c,1] 3 (bB [a,b,c,1]) 1 0=x10 at *;generalize itT [a,b,c,1] 3 (bB [a,b,c,1]) 1 1=x11 at *;generalize itT [a,b,c,1] 3 (bB [a,b,c,1]) 1 2=x12 at *;generalize itT [a,b,c,1] 3 (bB [a,b,c,1]) 2 0=x20 at *
 generalize itT [a,b,c,1] 3 (bB [a,b,c,1]) 2 1=x21 at *;generalize itT [a,b,c,1] 3 (bB [a,b,c,1]) 2 2=x22 at *;subst e00 e01 e02 e10 e11 e12 e20 e21 e22;unfold dB
 grind
theorem nr4 (a b c d:Int):nrm [a,b,c,d,1] 4 (bB [a,b,c,d,1])=dC a b c d:=by
 have D:=bJ3 (itT [a,b,c,d,1] 4<|bB [a,b,c,d,1]);have e00:itT [a,b,c,d,1] 4 (bB [a,b,c,d,1]) 0 0=(1+((0:Nat):Int))*b:=rfl;have e01:itT [a,b,c,d,1] 4 (bB [a,b,c,d,1]) 0 1=(1+((1:Nat):Int))*c:=rfl;have e02:itT [a,b,c,d,1] 4 (bB [a,b,c,d,1]) 0 2=(1+((2:Nat):Int))*d:=rfl;have e03:itT [a,b,c,d,1] 4 (bB [a,b,c,d,1]) 0 3=(1+((3:Nat):Int))*1:=rfl
 have e10:itT [a,b,c,d,1] 4 (bB [a,b,c,d,1]) 1 0=0-itT [a,b,c,d,1] 4 (bB [a,b,c,d,1]) 0 3*a:=rfl;have e11:itT [a,b,c,d,1] 4 (bB [a,b,c,d,1]) 1 1=itT [a,b,c,d,1] 4 (bB [a,b,c,d,1]) 0 0-itT [a,b,c,d,1] 4 (bB [a,b,c,d,1]) 0 3*b:=rfl;have e12:itT [a,b,c,d,1] 4 (bB [a,b,c,d,1]) 1 2=itT [a,b,c,d,1] 4 (bB [a,b,c,d,1]) 0 1-itT [a,b,c,d,1] 4 (bB [a,b,c,d,1]) 0 3*c:=rfl
 have e13:itT [a,b,c,d,1] 4 (bB [a,b,c,d,1]) 1 3=itT [a,b,c,d,1] 4 (bB [a,b,c,d,1]) 0 2-itT [a,b,c,d,1] 4 (bB [a,b,c,d,1]) 0 3*d:=rfl;have e20:itT [a,b,c,d,1] 4 (bB [a,b,c,d,1]) 2 0=0-itT [a,b,c,d,1] 4 (bB [a,b,c,d,1]) 1 3*a:=rfl;have e21:itT [a,b,c,d,1] 4 (bB [a,b,c,d,1]) 2 1=itT [a,b,c,d,1] 4 (bB [a,b,c,d,1]) 1 0-itT [a,b,c,d,1] 4 (bB [a,b,c,d,1]) 1 3*b:=rfl
 have e22:itT [a,b,c,d,1] 4 (bB [a,b,c,d,1]) 2 2=itT [a,b,c,d,1] 4 (bB [a,b,c,d,1]) 1 1-itT [a,b,c,d,1] 4 (bB [a,b,c,d,1]) 1 3*c:=rfl;have e23:itT [a,b,c,d,1] 4 (bB [a,b,c,d,1]) 2 3=itT [a,b,c,d,1] 4 (bB [a,b,c,d,1]) 1 2-itT [a,b,c,d,1] 4 (bB [a,b,c,d,1]) 1 3*d:=rfl;have e30:itT [a,b,c,d,1] 4 (bB [a,b,c,d,1]) 3 0=0-itT [a,b,c,d,1] 4 (bB [a,b,c,d,1]) 2 3*a:=rfl
 have e31:itT [a,b,c,d,1] 4 (bB [a,b,c,d,1]) 3 1=itT [a,b,c,d,1] 4 (bB [a,b,c,d,1]) 2 0-itT [a,b,c,d,1] 4 (bB [a,b,c,d,1]) 2 3*b:=rfl;have e32:itT [a,b,c,d,1] 4 (bB [a,b,c,d,1]) 3 2=itT [a,b,c,d,1] 4 (bB [a,b,c,d,1]) 2 1-itT [a,b,c,d,1] 4 (bB [a,b,c,d,1]) 2 3*c:=rfl;have e33:itT [a,b,c,d,1] 4 (bB [a,b,c,d,1]) 3 3=itT [a,b,c,d,1] 4 (bB [a,b,c,d,1]) 2 2-itT [a,b,c,d,1] 4 (bB [a,b,c,d,1]) 2 3*d:=rfl
 have N:nrm [a,b,c,d,1] 4 (bB [a,b,c,d,1])=fW 4 (tbL 4<|itT [a,b,c,d,1] 4<|bB [a,b,c,d,1]):=rfl;rw[N,D];clear N D;generalize itT [a,b,c,d,1] 4 (bB [a,b,c,d,1]) 0 0=x00 at *;generalize itT [a,b,c,d,1] 4 (bB [a,b,c,d,1]) 0 1=x01 at *;generalize itT [a,b,c,d,1] 4 (bB [a,b,c,d,1]) 0 2=x02 at *;generalize itT [a,b,c,d,1] 4 (bB [a,b,c,d,1]) 0 3=x03 at *
 generalize itT [a,b,c,d,1] 4 (bB [a,b,c,d,1]) 1 0=x10 at *;generalize itT [a,b,c,d,1] 4 (bB [a,b,c,d,1]) 1 1=x11 at *;generalize itT [a,b,c,d,1] 4 (bB [a,b,c,d,1]) 1 2=x12 at *;generalize itT [a,b,c,d,1] 4 (bB [a,b,c,d,1]) 1 3=x13 at *;generalize itT [a,b,c,d,1] 4 (bB [a,b,c,d,1]) 2 0=x20 at *;generalize itT [a,b,c,d,1] 4 (bB [a,b,c,d,1]) 2 1=x21 at *
 generalize itT [a,b,c,d,1] 4 (bB [a,b,c,d,1]) 2 2=x22 at *;generalize itT [a,b,c,d,1] 4 (bB [a,b,c,d,1]) 2 3=x23 at *;generalize itT [a,b,c,d,1] 4 (bB [a,b,c,d,1]) 3 0=x30 at *;generalize itT [a,b,c,d,1] 4 (bB [a,b,c,d,1]) 3 1=x31 at *;generalize itT [a,b,c,d,1] 4 (bB [a,b,c,d,1]) 3 2=x32 at *;generalize itT [a,b,c,d,1] 4 (bB [a,b,c,d,1]) 3 3=x33 at *
 subst e00 e01 e02 e03 e10 e11 e12 e13 e20 e21 e22 e23 e30 e31 e32 e33;unfold dC
 grind
theorem dG5 (rp:cY p)(hn:p.length=n+1)(irr: ¬Red p):fW 4 (dJ p)≠0:=by
 have a: ∀y:∅,(∃j,j<n/\y j≠0)->nrm p n y≠0:=λy hy=>dG4 rp hn irr hy
 rcases rp.cases with⟨x,y,rfl,_⟩| ⟨x,y,z,rfl,_⟩| ⟨x,y,z,w,rfl,_⟩
 .have e:3=n+1:=hn;obtain rfl:n=2:=ad
  have:=a (bB [x,y,1]) ⟨1,ac,by show(1+((1:Nat):Int))*1≠0;decide⟩
  rw[nr2]at this;rw[id2];show dA x y≠0
  lia
 .have e:4=n+1:=hn;obtain rfl:n=3:=ad
  have:=a (bB [x,y,z,1]) ⟨2,ac,by show(1+((2:Nat):Int))*1≠0;decide⟩
  rw[nr3]at this;rw[id3];show dB x y z≠0
  lia
 .have e:5=n+1:=hn;obtain rfl:n=4:=ad
  have:=a (bB [x,y,z,w,1]) ⟨3,ac,by show(1+((3:Nat):Int))*1≠0;decide⟩
  rw[nr4]at this;rw[hank4];exact this
theorem cD8 {α:Type}{el:α->D}{p:α->PyData}(hp: ∀a,pd (el a)=some (p a)): ∀l:List α,pdL (l.map el)=some (l.map p)
 | []=>by simp[pdL]
 | e::l=>by simp[pdL,hp,cD8 hp l]
theorem cU3 {α:Type}{el:α->D}{p:α->PyData}{lt:α->α->Bool}{d:α}(hp: ∀a,pd (el a)=some (p a)){A:List α}{Q:B->Prop}(h:A.length<=5)(hl: ∀a∈A,∀b∈A,ltQ (p a) (p b)=some (lt a b))
  (tu:(∀x∈A,∃f r,el x=D.tup (.tup f::r))\/ ∀x∈A,∃i r,el x=D.tup (.int i::r)) (dp:PyData.depthAll (A.map p)<=30) (q:Q (.ow<|(xZ lt d A).map el)):b32 [.lst<|A.map el] Q:=by
 have g: ∀i,i<A.length->(A.map p).getD i .none=p (A.getD i d):=λi hi=>by simp[aL,hi]
 have mi: ∀i,i<A.length->A.getD i d∈A:=λi hi=>by rw[aL,aO hi];exact bY hi
 have ok:cL0 (A.map el) (A.map p):=by
  refine⟨by rw[aF];exact h,cD8 hp A,?_,dp,λi j hi hj=> ?_⟩
  .rcases tu with z|z
   .refine .inl λx hx=> ?_
    obtain⟨e,he,rfl⟩:=cD.mp hx;exact z e he
   .refine .inr λx hx=> ?_
    obtain⟨e,he,rfl⟩:=cD.mp hx;exact z e he
  .rw[aF]at hi hj;rw[g i hi,g j hj,hl _ (mi i hi) _<|mi j hj];rfl
 refine⟨A.map el,A.map p,rfl,ok,?_⟩
 have e:iB (bO8<|A.map p) (A.map el).length=sIO lt d A:=by
  rw[aF];refine b69 h λi j hi hj=> ?_
  unfold bO8;rw[g i hi,g j hj,hl _ (mi i hi) _<|mi j hj];rfl
 rw[e];have e2:((sIO lt d A).map λi=>(A.map el).getD i .non)=(xZ lt d A).map el:=by
  unfold xZ;rw[dW];refine iI λi hi=> ?_
  have:=aW3 h i hi;simp[aL,this]
 rw[e2];exact q
nonrec def el3 (e:lM):D:= .tup [aX e.1,.int e.2.1,aX e.2.2]
def pd3 (e:lM):PyData:= .tuple [.tuple<|e.1.map .int,.int e.2.1,.tuple<|e.2.2.map .int]
theorem pd_3 (e:lM):pd (el3 e)=some (pd3 e):=by simp[el3,pd3,pd,pdL,cM1]
theorem eqv_3 (a b:lM):(pd3 a).eqv (pd3 b)=decide (a=b):=by
 obtain⟨r,k,u⟩:=a;obtain⟨s,m,v⟩:=b;have e:=aX3 r s;have f:=aX3 u v;simp only[PyData.eqv]at e f;simp only[pd3,PyData.eqv,PyData.eqvAll,e,f]
 by_cases c:r=s<;>by_cases d:k=m<;>by_cases z:u=v<;>simp[c,d,z]
theorem cN3: ∀a b:List Int,a45 (a.map .int) (b.map .int)=some (ltR ltI a b)
 | [],[]=>by simp[a45,ltR]
 | [],_::_=>by simp[a45,ltR]
 | _::_,[]=>by simp[a45,ltR]
 | x::a,y::b=>by
  simp only[cS,a45,ltR,PyData.eqv]
  by_cases c:x=y
  .subst c;simp[cN3 a b]
  .simp[c,ltQ,ltI]
theorem dT0 (x y:Int):(PyData.int x).eqv (.int y)=decide (x=y):=by
 simp only[PyData.eqv]
 by_cases c:x=y<;>simp[c]
theorem ltQ_3 (a b:lM):ltQ (pd3 a) (pd3 b)=some (lt3 a b):=by
 unfold pd3 lt3 c00;simp only[ltQ,a45];rw[aX3,dT0,aX3]
 by_cases c:a.1=b.1
 .rw[a8<|bQ c,a8 c]
  by_cases d:a.2.1=b.2.1
  .rw[a8<|bQ d,a8 d]
   by_cases e:a.2.2=b.2.2
   .rw[a8<|bQ e,e,bB5];simp
   .rw[a7<|by simpa using e]
    exact cN3 _ _
  .rw[bZ d,a7 d,a7 ac]
   rfl
 .rw[bZ c,a7 c,a7 ac]
  exact cN3 a.1 b.1
theorem dG6: ∀l:List lM,PyData.depthAll (l.map pd3)<=2
 | []=>by simp[PyData.depthAll]
 | e::l=>by
  have:=dG6 l;simp[PyData.depthAll,pd3,PyData.depth,bG8];omega
theorem cN4: ∀a b:List lM,PyData.eqvAll (a.map pd3) (b.map pd3)=decide (a=b)
 | [],[]=>by simp[PyData.eqvAll]
 | [],_::_=>by simp[PyData.eqvAll]
 | _::_,[]=>by simp[PyData.eqvAll]
 | x::a,y::b=>by
  simp only[cS,PyData.eqvAll,eqv_3,cN4 a b]
  by_cases c:x=y<;>by_cases d:a=b<;>simp[c,d]
nonrec def b48:List lM->List lM:=xZ lt3 ([],0,[])
theorem dT1 {A:List lM}{Q:B->Prop}(h:A.length<=5)(q:Q (.ow<|(b48 A).map el3)):b32 [.lst<|A.map el3] Q:=
 cU3 pd_3 h (λa _ b _=>ltQ_3 a b) (.inl λx _=>⟨_,_,rfl⟩) (by have:=dG6 A;omega) q
nonrec def elP (e:cH):D:= .tup [.int e.1,.lst<|e.2.map el3]
def pdP (e:cH):PyData:= .tuple [.int e.1,.list<|e.2.map pd3]
theorem pd_P (e:cH):pd (elP e)=some (pdP e):=by simp[elP,pdP,pd,pdL,cD8 pd_3]
theorem eqv_P (a b:cH):(pdP a).eqv (pdP b)=decide (a=b):=by
 obtain⟨r,k⟩:=a;obtain⟨s,m⟩:=b;simp only[pdP,PyData.eqv,PyData.eqvAll,cN4]
 by_cases c:r=s<;>by_cases d:k=m<;>simp[c,d]
theorem dG7: ∀l:List cH,PyData.depthAll (l.map pdP)<=4
 | []=>by simp[PyData.depthAll]
 | e::l=>by
  have:=dG7 l;have:=dG6 e.2;simp[PyData.depthAll,pdP,PyData.depth];omega
theorem dG8: ∀a b:List cH,PyData.eqvAll (a.map pdP) (b.map pdP)=decide (a=b)
 | [],[]=>by simp[PyData.eqvAll]
 | [],_::_=>by simp[PyData.eqvAll]
 | _::_,[]=>by simp[PyData.eqvAll]
 | x::a,y::b=>by
  simp only[cS,PyData.eqvAll,eqv_P,dG8 a b]
  by_cases c:x=y<;>by_cases d:a=b<;>simp[c,d]
theorem dG9 {neg:Bool}{a b:List cH}{Q:B->Prop}(h:Q (.pu<|.bl<|neg ^^ decide (a=b))):cK3 neg (.lst<|a.map elP) (.lst<|b.map elP) Q:=by
 refine⟨.list<|a.map pdP,.list<|b.map pdP,by simp[pd,cD8 pd_P],by simp[pd,cD8 pd_P],?_,?_⟩
 .have:=dG7 a;simp[PyData.depth];omega
 .simp only[PyData.eqv];rw[dG8];exact h
theorem ltQ_P {a b:cH}(h:a.1=b.1->a.2=b.2):ltQ (pdP a) (pdP b)=some (dP7 a b):=by
 unfold pdP dP7 c00;simp only[ltQ,a45,PyData.eqv,cN4]
 by_cases c:a.1=b.1
 .rw[a8<|by simpa using c,a8 c,h c,bB5]
  simp
 .rw[a7<|by simpa using c,a7 c]
  rfl
nonrec def srtP:List cH->List cH:=xZ dP7 (0,[])
def One (A:List cH):Prop:= ∀a∈A,∀b∈A,a.1=b.1->a.2=b.2
theorem dT2 {A:List cH}{Q:B->Prop}(h:A.length<=5)(o:One A)(q:Q (.ow<|(srtP A).map elP)):b32 [.lst<|A.map elP] Q:=
 cU3 pd_P h (λa ha b hb=>ltQ_P (o a ha b hb)) (.inr λx _=>⟨_,_,rfl⟩) (by have:=dG7 A;omega) q
nonrec def inO (A:List cH):List cH:=srtP (A.map λe=>(e.1,b48 e.2))
theorem aJ0 {A S:List cH}(h:A.length<=5)(h2:S.length<=5):inO A=inO S↔(A.map λe=>(e.1,b48 e.2)).Perm (S.map λe=>(e.1,b48 e.2)):=
 c93 dA3 (by exists h) (by exists h2)
theorem cD9 {A S:List lM}(h:A.length<=5)(h2:S.length<=5):b48 A=b48 S↔A.Perm S:=c93 cR8 h h2
section
variable {α:Type}{js:List Nat}{cap:List (Option Nat)}{last t0 t1:Nat}{ui:UI}{tt:UT}{te:UE}{ρ:Ev}{Q:B->Ev->Prop}
theorem c37 {L:List α}{g:α->D}(h:i<L.length):(L.map g).getD i .non=g L[i]:=by
 rw[aL,bX,aO h];rfl
theorem b49 {L:List α}(h:i<L.length):L.take (i+1)=L.take i++[L[i]]:=by
 rw[List.take_succ,aO h];rfl
theorem aY2 (L:List α)(din dout:α->D)(c:α->Bool)(ρ1:Ev)(hui: ∀Q:Nat->(Nat->D)->Ev->Prop,Q (L.map din).length (λi=>(L.map din).getD i .non) ρ1->ui ρ Q)(hn:L.length<=1000)
  (G:Option B->List D->Ev) (x0:Option B) (h0:qW (wW ρ1 js) cap last=G x0 []) (h1: ∀x l b,(G x l).set t0 (some b)=G (some b) l) (h1': ∀x l,t0< (G x l).length) (h2: ∀x l (Q:List D->Prop),Q l->qC (G x l) last Q) (h3: ∀x l l',(G x l).set last (↑l')=G x l')
  (htt: ∀a∈L,∀l (Q':Bool->Ev->Prop),Q' (c a) (G (~~~din a) l)->tt (G (~~~din a) l) Q')
  (hte: ∀a∈L,c a=true-> ∀l (Q':B->Ev->Prop),(∀b:B,b.d=dout a->Q' b (G (~~~din a) l))->te (G (~~~din a) l) Q') (hq:Q (.ow<|(L.filter c).map dout) (wW ρ1 js)) :
  gD js cap last ui (dM t0) tt te ρ Q:=by
 refine hui _ ⟨λi ρ'=> ∃x,ρ'=G x (((L.take i).filter c).map dout),⟨x0,h0⟩,?_,?_⟩
 .rintro i ρ' hi ⟨x,rfl⟩;rw[aF]at hi;refine⟨h1' _ _,?_⟩;rw[h1];right;rw[c37 hi];have hm:L[i]∈L:=bY hi;have ln:((L.take i).filter c).length<=1000:=aN (a07 ..) (by rw[jV];omega)
  refine htt _ hm _ _ ?_
  rw[b49 hi,mS,bT]
  by_cases hc:c L[i]=true
  .rw[a8 hc];refine hte _ hm hc _ _ λb hb=>h2 _ _ _ ⟨?_,~~~din L[i],?_⟩
   .rw[aF];exact lF ln ac
   .rw[h3,List.filter_cons_of_pos hc,hb];rfl
  .rw[a7 hc];refine⟨~~~din L[i],?_⟩;rw[List.filter_cons_of_neg hc];simp
 .rintro ρ' ⟨x,rfl⟩;rw[aF,aR1];exact h2 _ _ _ hq
theorem b50 (L:List α)(d1 d2 dout:α->D)(ρ1:Ev)(hui: ∀Q:Nat->(Nat->D)->Ev->Prop,Q (L.map λa=>D.tup [d1 a,d2 a]).length (λi=>(L.map λa=>D.tup [d1 a,d2 a]).getD i .non) ρ1->ui ρ Q)(hn:L.length<=1000)
  (hte: ∀a∈L,∀l (Q':B->Ev->Prop),(∀b:B,b.d=dout a->Q' b [~~~d1 a,~~~d2 a,↑l])->te [~~~d1 a,~~~d2 a,↑l] Q') (hq:Q (.ow<|L.map dout) (wW ρ1 js)) :
  gD js [none,none,none] 2 ui (pP<|eH 0<|eH 1 pO) (λρ Q=>Q true ρ) te ρ Q:=by
 refine hui _ ⟨λi ρ'=> ∃x y,ρ'=[x,y,↑((L.take i).map dout)],⟨none,none,rfl⟩,?_,?_⟩
 .rintro i ρ' hi ⟨x,y,rfl⟩;rw[aF]at hi;right;rw[c37 hi];refine⟨ae,ae,rfl,?_⟩
  right;rw[a8 rfl];refine hte _ (bY hi) _ _ λb hb=>⟨?_,~~~d1 L[i],~~~d2 L[i],?_⟩
  .rw[aF,jV];exact lF (show min i L.length<=1000 by omega) ac
  .rw[b49 hi,bT,hb];rfl
 .rintro ρ' ⟨x,y,rfl⟩;rw[aF,aR1];exact hq
theorem aY3 (L:List α)(din:α->D)(ρ1:Ev)(hui: ∀Q:Nat->(Nat->D)->Ev->Prop,Q (L.map din).length (λi=>(L.map din).getD i .non) ρ1->ui ρ Q)(Pv:List α->Ev->Prop)(h0:Pv [] ρ1)
  (hs: ∀l a,a∈L->l.length<L.length-> ∀ρ,Pv l ρ->g (.pu<|din a) ρ λρ2=>tb {E with nx:=Pv (l++[a]),ct:=Pv (l++[a]),bk:=E.nx} ρ2) (hd: ∀ρ,Pv L ρ->E.nx ρ):mK ui g tb E ρ:=by
 refine fE (L.map din).length (λi=>(L.map din).getD i .non) ρ1 hui (λi=>Pv (L.take i)) h0 (λi ρ hi hp=> ?_) (λρ hp=>hd ρ ?_)
 .rw[aF]at hi;rw[c37 hi,b49 hi];exact hs _ _ (bY hi) (by rw[jV];omega) ρ hp
 .rw[aF,aR1]at hp;exact hp
end
theorem sz (h:n<=1000):n<=sizeLine:=aN h ac
theorem szl (h:n<=1000):n<sizeLine:=lF h ac
structure zT (A:List cH):Prop where
 len:A.length<=5
 pts: ∀e∈A,e.2.length<=5
 one:One A
def sZ:Φ:=λds Q=> ∃A:List cH,ds=[.lst<|A.map elP]/\zT A/\Q (.ow<|(inO A).map elP)
def yJ:US:=(eJ<|aU b32<|a6 (gD [] [none,none,none] 2 (fS<|aB 0) (pP<|eH 0<|eH 1 pO) (λρ Q=>Q true ρ)<|bL<|a6 (aB 0)<|a6 (aU b32<|a6 (aB 1) aI) aI) aI)
theorem bP6: Ra sZ yJ ["r"]:=by
 rintro ds Q ⟨A,rfl,ok,h⟩;unfold yJ;show(eJ _:US) _ [~~~.lst (A.map elP)];rw[kK,eB,bS];refine b50 A (λe=> .int e.1) (λe=> .lst (e.2.map el3)) (λe=>elP (e.1,b48 e.2)) [~~~.lst (A.map elP)] (λQ' q=>q) (aN ok.len ac) (λe he l Q' q=> ?_) ?_
 .left
  exact dT1 (ok.pts e he) ⟨ac,q _ rfl⟩
 .have e:A.map (λe=>elP (e.1,b48 e.2))=(A.map λe=>(e.1,b48 e.2)).map elP:=by rw[dW];rfl
  rw[e];refine dT2 (by rw[aF];exact ok.len) (λa ha b hb e1=> ?_) h
  obtain⟨a,ha2,rfl⟩:=cD.mp ha;obtain⟨b,hb2,rfl⟩:=cD.mp hb;exact bO b48 (ok.one a ha2 b hb2 e1)
structure aY4 (T:List cH):Prop where
 len:T.length<=3
 inc:T.Pairwise λa b=>a.1<b.1
 pr: ∀e∈T,e.1∈prL
 pts: ∀e∈T,1<=e.2.length/\e.2.length<=4/\e.2.Nodup/\ ∀x∈e.2,1<=x.1.length/\x.1.length<=10/\x.2.2.length<=10
def Bad (T A:List cH):Prop:=zT A/\inO A≠inO T
theorem bJ8 {α:Type}[DecidableEq α]{U V:List α}{x y:α}(h:(U++x::V).Perm (U++y::V)):x=y:=by
 have c:=((List.perm_append_left_iff U).mp h).count_eq x;rw[List.count_cons_self,List.count_cons]at c
 by_cases e:y=x
 .exact e.symm
 .rw[a7<|by simpa using e]at c
  omega
theorem bW3 {α:Type}{L:List α}(nd:L.Nodup)(h:1<L.length): ¬(L.take 1++L.take (L.length-1)).Perm L:=λp=>by
 have n2:=p.nodup_iff.mpr nd
 match L,h with
 | a::b::l,_=>
  rw[List.nodup_append]at n2;exact n2.2.2 a ae a ae rfl
section
variable {T:List cH}(ok:aY4 T)
include ok
theorem aY4.one:One T:=λa ha b hb e=>by
 obtain⟨i,hi,rfl⟩:=rK ha;obtain⟨j,hj,rfl⟩:=rK hb;rcases aQ2 i j with c|c|c
 .have:=uT.mp ok.inc i j hi hj c;omega
 .subst c;rfl
 .have:=uT.mp ok.inc j i hj hi c;omega
theorem aY4.inn:zT T:=⟨by have:=ok.len;omega,λe he=>by have:=(ok.pts e he).2.1;omega,ok.one⟩
theorem aY4.sub {A:List cH}(h: ∀a∈A,a∈T)(hl:A.length<=5):zT A:=⟨hl,λe he=>by have:=(ok.pts e<|h e he).2.1;omega,λa ha b hb=>ok.one a (h a ha) b (h b hb)⟩
theorem bC3 {A:List cH}(a:zT A)(h:A.length≠T.length):Bad T A:=⟨a,λe=>by
 have p:=(aJ0 a.len ok.inn.len).mp e;have:=p.length_eq;rw[aF,aF]at this;exact h this⟩
theorem dH0 {e:cH}(h:e∈T):Bad T (T++[e]):=by
 have:=ok.len;refine bC3 ok (ok.sub (λa ha=> ?_) (by rw[cI];show _+1<=5;omega)) (by rw[cI];show _+1≠_;omega)
 rcases bG.mp ha with ha|ha
 .exact ha
 .rw[eQ.mp ha];exact h
theorem one_in {U V:List cH}{r:cH}(hs: ∀a∈U++V,a∈T)(hr: ∀a∈U++V,a.1≠r.1):One (U++r::V):=by
 have q: ∀a∈U++r::V,a=r\/a∈U++V:=λa ha=>by
  rcases bG.mp ha with ha|ha
  .exact .inr (gS _ ha)
  .rcases aT.mp ha with ha|ha
   .exact .inl ha
   .exact .inr (cZ _ ha)
 intro a ha b hb e;rcases q a ha with rfl|ha2
 .rcases q b hb with rfl|hb2
  .rfl
  .exact absurd e.symm (hr b hb2)
 .rcases q b hb with rfl|hb2
  .exact absurd e (hr a ha2)
  .exact ok.one a (hs a ha2) b (hs b hb2) e
theorem c38 {U V:List cH}{r:cH}(hs: ∀a∈U++V,a∈T)(hr: ∀a∈U++V,a.1≠r.1)(hl:(U++r::V).length<=5)(h5:r.2.length<=5):zT (U++r::V):=⟨hl,λe he=>by
 rcases bG.mp he with he|he
 .have:=(ok.pts e<|hs e<|gS _ he).2.1;omega
 .rcases aT.mp he with rfl|he
  .exact h5
  .have:=(ok.pts e<|hs e<|cZ _ he).2.1;omega,one_in ok hs hr⟩
theorem cU4 {r:cH}(hr:r.1 ∉ prL)(h5:r.2.length<=5):Bad T (T++[r]):=by
 have:=ok.len;have l:(T++[r]).length=T.length+1:=ae
 refine bC3 ok (c38 ok (V:=[]) (λa ha=>by exists ha) (λa ha z=>hr (z▸ok.pr a (by exists ha))) aa h5) aa
theorem dT3 {U V:List cH}{e r:cH}(eT:T=U++e::V)(h5:r.2.length<=5)(h:(r.1=e.1/\ ¬r.2.Perm e.2)\/(r.1≠e.1/\r.1 ∉ prL)):Bad T (U++r::V):=by
 have l:=ok.len;have me:e∈T:=by rw[eT];simp
 have hs: ∀a∈U++V,a∈T:=λa ha=>by
  rw[eT];rcases bG.mp ha with ha|ha
  .exact gS _ ha
  .exact cZ _ (.tail _ ha)
 have ne: ∀a∈U++V,a.1≠e.1:=λa ha=>by
  have i:=ok.inc;rw[eT,uZ,iJ]at i;rcases bG.mp ha with ha|ha
  .have:=i.2.2 a ha e (.head _);omega
  .have:=i.2.1.1 a ha;omega
 have lr:(U++r::V).length=T.length:=by rw[eT];simp
 have rn:zT (U++r::V):=c38 ok hs (λa ha=>by
  rcases h with⟨h,_⟩| ⟨_,h⟩
  .rw[h];exact ne a ha
  .exact λz=>h (z▸ok.pr a (hs a ha))) aa h5
 refine⟨rn,λq=> ?_⟩
 have p:=(aJ0 rn.len ok.inn.len).mp q;rw[eT,bT,bT,cS,cS]at p;have k:=bJ8 p;obtain⟨k1,k2⟩:=a37 k;rcases h with⟨_,h⟩| ⟨h,_⟩
 .exact h ((cD9 h5 (by have:=(ok.pts e me).2.1;omega)).mp k2)
 .exact h k1
theorem dH1 {U V:List cH}{e:cH}(eT:T=U++e::V):Bad T (U++V):=by
 have l:=ok.len;have lr:(U++V).length+1=T.length:=by rw[eT];simp;omega
 refine bC3 ok (ok.sub (λa ha=> ?_) aa) aa
 rw[eT];rcases bG.mp ha with ha|ha
 .exact gS _ ha
 .exact cZ _ (.tail _ ha)
theorem d17 (h:1<T.length):Bad T (T.take 1++T.take (T.length-1)):=by
 have l:=ok.len;have i:zT (T.take 1++T.take (T.length-1)):=ok.sub (λa ha=>by
  rcases bG.mp ha with ha|ha<;>exact List.mem_of_mem_take ha) (by rw[cI,jV,jV];omega)
 refine⟨i,λq=> ?_⟩
 have p:=(aJ0 i.len ok.inn.len).mp q;rw[bT,jZ,jZ]at p;have nd:(T.map λe=>(e.1,b48 e.2)).Nodup:=by
  rw[List.nodup_iff_pairwise_ne,v9];exact ok.inc.imp λh z=>by have:=(a37 z).1;omega
 have:=bW3 nd (by rw[aF];exact h)
 rw[aF]at this;exact this p
end
noncomputable abbrev lsP (A:List cH):D:= .lst (A.map elP)
def aJ1:Φ:=λds Q=> ∃(T:List cH) (a b:Int),ds=[.lst<|T.map elP,.int a,.int b]/\aY4 T/\ ∀BB:List (List cH),(∀A∈BB,Bad T A)->BB.length<=200->Q (.ow<|BB.map lsP)
def aE1:US:=(eJ<|uOp fH (aB 12)<|dY<|a6 (uOp fH (uSl (aQ 0) fV<|jB<|aB 1)<|uSl (aQ 0) (jB<|uOp fH (aB 1)<|@1) fV)<|a6 (uOp fH (aB 0)<|dY<|a6 (uIx (aQ 0)<|aB 1) aI) aI)
def aE2:US:=(aW (fU (dF<|uOp (sA λi j=>decide (j<i)) (kE<|aQ 0)<|@1) (aR7 12<|uOp fH (uSl (aQ 0) fV<|jB<|@1)<|uSl (aQ 0) fV<|jB<|uOp M.gSub (kE<|aQ 0)<|@1) dG) aE1)
def aE3:US:=(aW (cE 12<|gD [1] [none,some 0,some 1,none] 3 (fS<|aB 11) (dM 0) (λρ Q=>Q true ρ)<|uOp fH (uOp fH (uSl (aQ 1) fV<|jB<|aB 2)<|dY<|a6 (aB 0) aI)<|uSl (aQ 1) (jB<|uOp fH (aB 2)<|@1) fV) aE2)
def aE4:US:=(aW (cE 11<|uOp fH (aB 11)<|dY<|a6 (bL<|a6 (aB 3)<|a6 (uOp fH (aB 8)<|aB 9) aI)<|a6 (bL<|a6 (aB 3)<|a6 (uOp fH (aB 4)<|dY<|a6 (uIx (aQ 4)<|aB 2) aI) aI)<|a6 (bL<|a6 (uOp iR (aB 3)<|aB 3)<|a6 (aB 4) aI)<|a6 (bL<|a6 (aB 3)<|a6 (dY aI) aI) aI) aE3)
def aT1:US:=(aW (fU (dF<|uOp (sA λi j=>decide (j<i)) (kE<|aQ 4)<|@1) (aR7 11<|bL<|a6 (aB 3)<|a6 (uOp fH (uSl (aQ 4) fV<|jB<|@1)<|uSl (aQ 4) fV<|jB<|uOp M.gSub (kE<|aQ 4)<|@1) aI) dG) aE4)
def aT2:US:=(aW (cE 11<|gD [3,8,9] [none,some 3,some 8,some 9,none] 4 (fS<|aB 10) (dM 0) (λρ Q=>Q true ρ)<|bL<|a6 (aB 1)<|a6 (uOp fH (uOp fH (aB 2)<|dY<|a6 (aB 0) aI)<|aB 3) aI) aT1)
def bJ9:US:=(aW (fU (dF<|uOp (sA λi j=>decide (j<i)) (kE<|aQ 7)<|@0) (cE 10<|uOp fH (aB 10)<|dY<|a6 (bL<|a6 (aB 5)<|a6 (aB 6)<|a6 (bL aI) aI)<|a6 (bL<|a6 (aB 5)<|a6 (aB 6)<|a6 (uOp fH (bL<|a6 (uOp fH (uIx (aQ 7)<|@0)<|aB 3) aI)<|uSl (aQ 7) (jB<|@1) fV) aI) aI) dG) aT2)
def aT3:US:=(aW (cE 10<|dY<|a6 (bL<|a6 (aB 5)<|a6 (uOp fH (aB 6)<|@1)<|a6 (aB 7) aI)<|a6 (bL<|a6 (aB 5)<|a6 (aB 6)<|a6 (uOp fH (aB 7)<|bL<|a6 (uOp iR (aB 3)<|aB 3) aI) aI)<|a6 (bL<|a6 (uOp fH (bL<|a6 (uOp fH (uIx (aQ 5)<|@0)<|aB 3) aI)<|uSl (aQ 5) (jB<|@1) fV)<|a6 (aB 6)<|a6 (aB 7) aI)<|a6 (bL<|a6 (aB 5)<|a6 (uOp M.gSub (aB 6)<|@1)<|a6 (aB 7) aI) aI) bJ9)
def aT4:US:=(aW (bD7 (bL<|a6 (uSl (aQ 4) fV<|jB<|aB 2)<|a6 (uSl (aQ 4) (jB<|uOp fH (aB 2)<|@1) fV) aI)<|pP<|eH 8<|eH 9 pO) aT3)
def bK0:US:=(aW (bD7 (uIx (aQ 4)<|aB 2)<|pP<|eH 5<|eH 6<|eH 7 pO) aT4)
def aT5:US:=(aW (cE 2<|uOp kX (aB 2)<|kE<|aQ 4) bK0)
def bK1:US:=(aW (bD7 (uIx (aQ 0)<|aB 1)<|pP<|eH 3<|eH 4 pO) aT5)
def bK2:US:=(aW (cE 1<|uOp kX (aB 1)<|kE<|aQ 0) bK1)
def b51:US:=(aW (fU (dF<|uOp (hG false) (kE<|aQ 0)<|@0) (eJ<|dY aI) dG) bK2)
theorem c39 (h:0<n)(a:Int): ∃k:Nat,k<n/\a.fmod (n:Int)=(k:Int):=by
 refine⟨(a.fmod n).toNat,?_,?_⟩<;>rw[dZ _ aa]<;>have:=dS a (show(n:Int)≠0 by omega)<;>have:=dO a (show(0:Int)<n by omega)<;>omega
theorem cE0 {α:Type}{L:List α}{k:Nat}(h:k<L.length): ∃U e V,L=U++e::V/\U.length=k:=⟨L.take k,L[k],L.drop<|k+1,by rw[List.getElem_cons_drop,aO9],by rw[jV];omega⟩
theorem dH2 {α:Type}{U V:List α}{e:α}{f:α->D}:cutD ((U++e::V).map f) none (some (U.length:Int))=U.map f:=by
 rw[aS5 _ _ ae,<-jZ,List.take_left]
theorem dH3 {α:Type}{U V:List α}{e:α}{f:α->D}:cutD ((U++e::V).map f) (some<|(U.length:Int)+1) none=V.map f:=by
 rw[show(U.length:Int)+1=((U.length+1:Nat):Int)by omega,zN _ _ ae,<-a29,show U.length+1=(U++[e]).length by simp,show U++e::V=(U++[e])++V by simp,List.drop_left]
theorem dY1 {α:Type}{L:List α}{f:α->D}(h:1<L.length):cutD (L.map f) none (some 1)=(L.take 1).map f:=by
 rw[show(1:Int)=((1:Nat):Int)from rfl,aS5 _ _ (by rw[aF];omega),jZ]
theorem dY2 {α:Type}{L:List α}{f:α->D}(h:1<L.length):cutD (L.map f) none (some<|(L.length:Int)-1)=(L.take<|L.length-1).map f:=by
 rw[show(L.length:Int)-1=((L.length-1:Nat):Int)by omega,aS5 _ _ (by rw[aF];omega),jZ]
theorem dT4 {α:Type}{U V:List α}{e:α}{f:α->D}:atI ((U++e::V).map f) (U.length:Int)=some (f e):=dL ae
theorem dH4 {α:Type}(L:List α):(L.filter λ_=>true)=L:=ae
def cE1 (e r:cH):Prop:=r.2.length<=5/\((r.1=e.1/\ ¬r.2.Perm e.2)\/(r.1≠e.1/\r.1 ∉ prL))
section
variable {T U V:List cH}{e:cH}(ok:aY4 T)(eT:T=U++e::V){Q:B->Prop}(h: ∀BB:List (List cH),(∀A∈BB,Bad T A)->BB.length<=200->Q (.ow (BB.map lsP))){s2 s3 s4 s5 s6 s7 s8 s9 s10:Option B}
include ok eT h
theorem sp_b (BB:List (List cH))(hb: ∀A∈BB,Bad T A)(hl:BB.length<=100){s11:Option B}:aE2 {Q with} [~~~.lst (T.map elP),!(U.length:Int),s2,s3,s4,s5,s6,s7,s8,s9,s10,s11,↑(BB.map lsP)]:=by
 unfold aE2;rw[aP];left;rw[aF];have c:=ok.len;have lT:T.length=U.length+(V.length+1):=by rw[eT,cI,dP]
 have go: ∀BB:List (List cH),(∀A∈BB,Bad T A)->BB.length<=101->aE1 {Q with} [~~~.lst (T.map elP),!(U.length:Int),s2,s3,s4,s5,s6,s7,s8,s9,s10,s11,↑(BB.map lsP)]:=λBB hb hl=>by
  unfold aE1;left;have e1:cutD (T.map elP) none (some (U.length:Int))=U.map elP:=by rw[eT];exact dH2
  have e2:cutD (T.map elP) (some<|(U.length:Int)+1) none=V.map elP:=by rw[eT];exact dH3
  have e3:atI (T.map elP) (U.length:Int)=some (elP e):=by rw[eT];exact dT4
  rw[e1,e2,e3];have e4:BB.map lsP++[.lst<|U.map elP++V.map elP,.lst<|T.map elP++[elP e]]=(BB++[U++V,T++[e]]).map lsP:=by simp[lsP]
  right;rw[e4];refine⟨sz (by simp;omega),ac,sz (by simp;omega),ac,sz (by simp;omega),h _ (λA hA=> ?_) (by simp;omega)⟩
  rcases bG.mp hA with hA|hA
  .exact hb A hA
  .simp only[aT,eR,eW]at hA;rcases hA with rfl|rfl
   .exact dH1 ok eT
   .exact dH0 ok (by rw[eT];simp)
 by_cases c1:(1:Int)< (T.length:Int)
 .rw[a8 c1,dY1 aa,dY2 aa]
  refine⟨sz (by simp;omega),szl (by simp;omega),?_⟩
  have e4:BB.map lsP++[.lst<|(T.take 1).map elP++(T.take<|T.length-1).map elP]=(BB++[T.take 1++T.take (T.length-1)]).map lsP:=by simp[lsP]
  rw[e4];refine go _ (λA hA=> ?_) (by simp;omega)
  rcases bG.mp hA with hA|hA
  .exact hb A hA
  .rw[eQ.mp hA];exact d17 ok aa
 .rw[a7 c1];exact go BB hb aa
theorem sp_a (RR:List cH)(hr: ∀r∈RR,cE1 e r)(hl:RR.length<=50):aE3 {Q with} [~~~.lst (T.map elP),!(U.length:Int),s2,s3,s4,s5,s6,s7,s8,s9,s10,↑(RR.map elP),none]:=by
 have c:=ok.len;have lT:T.length=U.length+(V.length+1):=by rw[eT,cI,dP]
 unfold aE3;rw[aP,gK]
 refine aY2 (t0:=0) RR elP (λr=>lsP (U++r::V)) (λ_=>true) [~~~.lst (T.map elP),!(U.length:Int),s2,s3,s4,s5,s6,s7,s8,s9,s10,~~~.lst (RR.map elP),none] (λQ' q=>q) aa (λx l=>[x,~~~.lst (T.map elP),!(U.length:Int),↑l]) none rfl (λ_ _ _=>rfl) (λ_ _=>dR _) (λ_ _ _ q=>q) (λ_ _ _=>rfl) (λ_ _ _ _ q=>q) (λr hr' _ l Q' q=> ?_) ?_
 .left
  rw[eT,dH2,dH3,<-eT];exact⟨ac,sz (by simp;omega),sz (by simp;omega),q _<|by simp[lsP,B.d]⟩
 .rw[dH4];have e4:RR.map (λr=>lsP (U++r::V))=(RR.map λr=>U++r::V).map lsP:=by rw[dW];rfl
  rw[e4];refine sp_b ok eT h _ (λA hA=> ?_) (by simp;omega)
  obtain⟨r,hr',rfl⟩:=cD.mp hA;exact dT3 ok eT (hr r hr').1 (hr r hr').2
theorem sp_c {X Z:List lM}{y:lM}(eP:e.2=X++y::Z)(N:List lM)(hN: ∀z∈N,z≠y)(hl:N.length<=10):aT2 {Q with} [~~~.lst (T.map elP),!(U.length:Int),!(X.length:Int),!e.1,~~~.lst (e.2.map el3),s5,s6,s7,~~~.lst (X.map el3),~~~.lst (Z.map el3),↑(N.map el3),none,none]:=by
 have me:e∈T:=by rw[eT];simp
 obtain⟨p1,p4,nd,_⟩:=ok.pts e me;have lP:e.2.length=X.length+(Z.length+1):=by rw[eP,cI,dP]
 have pe:=kH (ok.pr e me);have sq:e.1*e.1 ∉ prL/\e.1*e.1≠e.1:=by
  have h4:prL.all (λa=>not (prL.contains<|a*a)&&decide (a*a≠a))=true:=af
  have:=cC.mp h4 e.1 (ok.pr e me)
  exists this
 have rw': ∀z:lM,z≠y->cE1 e (e.1,X++z::Z):=λz hz=>⟨by simp;omega,.inl ⟨rfl,λp=>hz (bJ8<|eP▸p)⟩⟩
 have rl: ∀P:List lM,P.length<=5->P.length≠e.2.length->cE1 e (e.1,P):=λP h5 hP=>⟨h5,.inl ⟨rfl,λp=>hP p.length_eq⟩⟩
 unfold aT2;rw[aP,gK]
 refine aY2 (t0:=0) N el3 (λz=>elP (e.1,X++z::Z)) (λ_=>true) [~~~.lst (T.map elP),!(U.length:Int),!(X.length:Int),!e.1,~~~.lst (e.2.map el3),s5,s6,s7,~~~.lst (X.map el3),~~~.lst (Z.map el3),~~~.lst (N.map el3),none,none] (λQ' q=>q) aa (λx l=>[x,!e.1,~~~.lst (X.map el3),~~~.lst (Z.map el3),↑l]) none rfl (λ_ _ _=>rfl) (λ_ _=>dR _) (λ_ _ _ q=>q) (λ_ _ _=>rfl) (λ_ _ _ _ q=>q) (λr hr' _ l Q' q=> ?_) ?_
 .left
  exact⟨ac,sz (by simp;omega),sz (by simp;omega),ac,q _<|by simp[elP,B.d]⟩
 .rw[dH4];have e4:N.map (λz=>elP (e.1,X++z::Z))=(N.map λz=>(e.1,X++z::Z)).map elP:=by rw[dW];rfl
  rw[e4];have hR: ∀r∈N.map (λz=>(e.1,X++z::Z)),cE1 e r:=λr hr=>by
   obtain⟨z,hz,rfl⟩:=cD.mp hr;exact rw' z (hN z hz)
  have lR:(N.map λz=>(e.1,X++z::Z)).length<=10:=by exists hl
  generalize (N.map λz=>(e.1,X++z::Z))=RR at hR lR
  show aT1 _ [~~~.lst (T.map elP),!(U.length:Int),!(X.length:Int),!e.1,~~~.lst (e.2.map el3),s5,s6,s7,~~~.lst (X.map el3),~~~.lst (Z.map el3),~~~.lst (N.map el3),↑(RR.map elP),none]
  have go: ∀RR:List cH,(∀r∈RR,cE1 e r)->RR.length<=20->aE4 {Q with} [~~~.lst (T.map elP),!(U.length:Int),!(X.length:Int),!e.1,~~~.lst (e.2.map el3),s5,s6,s7,~~~.lst (X.map el3),~~~.lst (Z.map el3),~~~.lst (N.map el3),↑(RR.map elP),none]:=λRR hR lR=>by
   unfold aE4;rw[aP];left;have a1:atI (e.2.map el3) (X.length:Int)=some (el3 y):=by rw[eP];exact dT4
   rw[a1];have e5:RR.map elP++[.tup [.int e.1,.lst<|X.map el3++Z.map el3],.tup [.int e.1,.lst<|e.2.map el3++[el3 y]],.tup [.int<|e.1*e.1,.lst<|e.2.map el3],.tup [.int e.1,.lst []]]=(RR++[(e.1,X++Z),(e.1,e.2++[y]),(e.1*e.1,e.2),(e.1,[])]).map elP:=by simp[elP]
   right;rw[e5];have lo:=pe.lo;have hi:=pe.hi;refine⟨sz (by simp;omega),ac,ac,sz (by simp;omega),ac,cmL aa aa,ac,ac,ac,ac,sz (by simp;omega),sp_a ok eT h _ (λr hr=> ?_) (by simp;omega)⟩
   rcases bG.mp hr with hr|hr
   .exact hR r hr
   .simp only[aT,eR,eW]at hr;rcases hr with rfl|rfl|rfl|rfl
    .exact rl _ (by simp;omega) (by simp;omega)
    .exact rl _ (by simp;omega) ae
    .exact⟨by right;omega,.inr ⟨sq.2,sq.1⟩⟩
    .exact rl _ ae (by simp;omega)
  unfold aT1;rw[aP];left;rw[aF]
  by_cases c1:(1:Int)< (e.2.length:Int)
  .rw[a8 c1,dY1 aa,dY2 aa]
   have e5:RR.map elP++[.tup [.int e.1,.lst<|(e.2.take 1).map el3++(e.2.take<|e.2.length-1).map el3]]=(RR++[(e.1,e.2.take 1++e.2.take (e.2.length-1))]).map elP:=by simp[elP]
   rw[e5];refine⟨sz (by simp;omega),ac,szl (by simp;omega),go _ (λr hr=> ?_) (by simp;omega)⟩
   rcases bG.mp hr with hr|hr
   .exact hR r hr
   .rw[eQ.mp hr];exact⟨by simp;omega,.inl ⟨rfl,bW3 nd aa⟩⟩
  .rw[a7 c1];exact go RR hR aa
end
theorem at_h (x:Int)(l:List Int):atI ((x::l).map D.int) 0=some (.int x):=dL (j:=0) rfl
theorem dY3 (x:Int)(l:List Int):cutD ((x::l).map D.int) (some 1) none=l.map D.int:=zN _ 1 ae
theorem dY4 {z:Option Int}(h:0<n): ¬(HT.sIx n 0 (some 1)=0/\HT.sIx n n z=n):=λq=>by
 have:=q.1;rw[show(some (1:Int))=some ((1:Nat):Int)from rfl,HT.sIx_nat]at this
 omega
def nrQ (g0:Int)(gs:List Int)(m:Int)(w:List Int)(q:Int):List lM:=[(g0::gs,m+1,w),(g0::gs,m,w++[q*q]),((g0+q)::gs,m,w),(g0::gs,m-1,w)]
theorem nrQ_eq {w:List Int}:[D.tup [.tup<|(g0::gs).map .int,.int<|m+1,.tup<|w.map .int],.tup [.tup<|(g0::gs).map .int,.int m,.tup<|w.map .int++[.int<|q*q]],.tup [.tup<|[.int<|g0+q]++gs.map .int,.int m,.tup<|w.map .int],.tup [.tup<|(g0::gs).map .int,.int<|m-1,.tup<|w.map .int]]=(nrQ g0 gs m w q).map el3:=by simp[nrQ,el3,aX]
theorem nrQ_ne {w:List Int}(h:2<=q): ∀z∈nrQ g0 gs m w q,z≠(g0::gs,m,w):=λz hz=>by
 unfold nrQ at hz;simp only[aT,eR,eW]at hz;rcases hz with rfl|rfl|rfl|rfl<;>intro q<;>simp at q<;>omega
theorem nr6_eq {w0:Int}{N:List lM}:N.map el3++[.tup [.tup<|(g0::gs).map .int,.int m,.tup []],.tup [.tup<|(g0::gs).map .int,.int m,.tup<|[.int<|w0+q]++ws.map .int]]=(N++[(g0::gs,m,[]),(g0::gs,m,(w0+q)::ws)]).map el3:=by simp[el3,aX]
theorem d18: Ra aJ1 b51 ["t","a","p","q","r","g","m","l","h","b","n","s","f"]:=by
 rintro ds Q ⟨T,a,b,rfl,ok,h⟩;unfold b51;show(aW _ _:US) _ [~~~.lst (T.map elP),!a,!b,none,none,none,none,none,none,none,none,none,none];rw[aP];left;rw[aF]
 by_cases c:(T.length:Int)=0
 .rw[a8 c];exact⟨ac,h [] (λA hA=>by cases hA) ae⟩
 rw[a7 c];unfold bK2;rw[aP];left;rw[aF];refine⟨c,?_⟩;obtain⟨k,hk,ek⟩:=c39 (n:=T.length) aa a
 obtain⟨U,e,V,eT,eU⟩:=cE0 hk;rw[ek,<-eU];unfold bK1;rw[aP];have e3:atI (T.map elP) (U.length:Int)=some (elP e):=by rw[eT];exact dT4
 unfold bD7;left;rw[e3];have me:e∈T:=by rw[eT];simp
 obtain⟨p1,p4,nd,px⟩:=ok.pts e me;have pe:=kH (ok.pr e me);refine⟨ae,ae,rfl,?_⟩
 show aT5 _ [~~~.lst (T.map elP),!(U.length:Int),!b,!e.1,~~~.lst (e.2.map el3),none,none,none,none,none,none,none,none]
 unfold aT5;rw[aP];left;rw[aF];refine⟨aa,?_⟩
 obtain⟨j,hj,ej⟩:=c39 (n:=e.2.length) aa b
 obtain⟨X,y,Z,eP,eX⟩:=cE0 hj;rw[ej,<-eX];unfold bK0;rw[aP];have e4:atI (e.2.map el3) (X.length:Int)=some (el3 y):=by rw[eP];exact dT4
 unfold bD7;left;rw[e4];refine⟨ae,ae,ae,rfl,?_⟩
 have lP:e.2.length=X.length+(Z.length+1):=by rw[eP,cI,dP]
 obtain⟨g1,g2,w2⟩:=px y (by rw[eP];simp)
 obtain⟨g,m,w⟩:=y;dsimp only at g1 g2 w2
 match g,g1 with
 | g0::gs,_=>
 show aT4 _ [~~~.lst (T.map elP),!(U.length:Int),!(X.length:Int),!e.1,~~~.lst (e.2.map el3),~~~.tup ((g0::gs).map .int),!m,~~~.tup (w.map .int),none,none,none,none,none]
 unfold aT4;rw[aP];unfold bD7;left;have e5:cutD (e.2.map el3) none (some (X.length:Int))=X.map el3:=by rw[eP];exact dH2
 have e6:cutD (e.2.map el3) (some<|(X.length:Int)+1) none=Z.map el3:=by rw[eP];exact dH3
 rw[e5,e6];refine⟨ac,ae,ae,trivial,?_⟩
 show aT3 _ [~~~.lst (T.map elP),!(U.length:Int),!(X.length:Int),!e.1,~~~.lst (e.2.map el3),~~~.tup ((g0::gs).map .int),!m,~~~.tup (w.map .int),~~~.lst (X.map el3),~~~.lst (Z.map el3),none,none,none]
 unfold aT3;rw[aP];left;rw[at_h,dY3];right;have lo:=pe.lo;have hi:=pe.hi;have hg:gs.length<=9:=by exists g2
 refine⟨ac,cmL aa aa,ac,sz (by simp;omega),ac,ac,dY4 ae,sz (by simp;omega),ac,ac,ac,?_⟩
 have go:=λN hN hl=>sp_c ok eT h (s5:=some (.pu<|.tup<|(g0::gs).map .int)) (s6:=some (.pu<|.int m)) (s7:=some (.pu<|.tup<|w.map .int)) eP N hN hl
 rw[nrQ_eq];unfold bJ9;rw[aP];left;rw[aF];have n4:=nrQ_ne (g0:=g0) (gs:=gs) (m:=m) (w:=w) lo;have l4:(nrQ g0 gs m w e.1).length=4:=rfl
 match w,w2,go,n4,l4 with
 | [],_,go,n4,l4=>
  rw[a7 ac]
  exact go _ n4 aa
 | w0::ws,w2,go,n4,l4=>
  have hw:ws.length<=9:=by exists w2
  rw[a8 ae,at_h,dY3]
  right;generalize nrQ g0 gs m (w0::ws) e.1=N at n4 l4;rw[nr6_eq];refine⟨ac,ac,ac,dY4 ae,sz (by simp;omega),ac,ac,sz (by simp;omega),?_⟩
  refine go _ (λz hz=> ?_) (by simp;omega)
  rcases bG.mp hz with hz|hz
  .exact n4 z hz
  .simp only[aT,eR,eW]at hz;rcases hz with rfl|rfl<;>intro q<;>simp at q
   omega
def prF (i k:Nat):Bool:=not (decide (((2:Int)+(i:Int))%(2+(k:Int))=0))||decide ((2:Int)+(i:Int)=2+(k:Int))
def prG (i:Nat):Bool:=((List.range 13).map<|prF i).all id
theorem prG_eq:((List.range 198).filter prG).map (λi:Nat=>(2:Int)+(i:Int))=prL:=af
def c40:Φ:=λds Q=>ds=[]/\Q (.ow<|prL.map .int)
def cN5:US:=(eJ<|gD [] [none,none] 1 (aV4<|a6 @2<|a6 @200 aI) (dM 0) (dF<|aU cY1<|a6 (gD [0] [none,some 0,none] 2 (aV4<|a6 @2<|a6 @15 aI) (dM 0) (λρ Q=>Q true ρ)<|uOrV (uOp (hG true) (uOp kX (aB 1)<|aB 0)<|@0)<|uOp (hG false) (aB 1)<|aB 0) aI)<|aB 0)
theorem rd_low: Ra c40 cN5 []:=by
 rintro ds Q ⟨rfl,h⟩;unfold cN5;show(eJ _:US) _ [];rw[kK];refine aX6 (t0:=0) 198 (λk=> .int (2+(k:Int))) [] ?_ ac (λx l=>[x,↑l]) none rfl (λ_ _ _=>rfl) (λ_ _=>dR _) (λ_ _ _ q=>q) (λ_ _ _=>rfl) prG (λi=> .int (2+(i:Int))) ?_ ?_ ?_
 .intro Q' q;left;exact⟨ac,q⟩
 .intro i l Q' hi q;show(aU cY1<|a6 _ aI) _ _;rw[eB,bS];refine jJ (t0:=0) 13 (λk=> .int (2+(k:Int))) [!(2+(i:Int)),↑l] ?_ ac (λx l'=>[x,!(2+(i:Int)),↑l']) none rfl (λ_ _ _=>rfl) (λ_ _=>dR _) (λ_ _ _ q=>q) (λ_ _ _=>rfl) (λk=> .bl (prF i k)) ?_ ?_
  .intro Q'' q';left;exact⟨ac,q'⟩
  .intro k l' Q'' hk q';left;refine⟨aa,?_⟩
   rw[dZ _ aa]
   unfold prF at q'
   by_cases c:((2:Int)+(i:Int))%(2+(k:Int))=0
   .rw[a7 λz=>z c]
    rw[bQ c]at q';exact q'
   .rw[a8 c];rw[bZ c]at q';exact q'
  .have e:(List.range 13).map (λk=>D.bl (prF i k))=((List.range 13).map<|prF i).map D.bl:=by rw[dW];rfl
   rw[e];left;rw[a44];exact q
 .intro i l Q' hi q;left;exact q
 .have e:((List.range 198).filter prG).map (λi:Nat=>D.int (2+(i:Int)))=prL.map .int:=by rw[<-prG_eq,dW];rfl
  rw[e];exact h
def tH:Φ:=qI
def cE2:US:=(aW (cE 2<|@0)<|aW (mK (cQ8<|a6 (aB 0) aI) (dM 3)<|cE 2<|uOp fH (uOp iR (aB 2)<|aB 1)<|aB 3)<|vV 2)
theorem dH5: Ra tH cE2 ["f","z","v","c"]:=aX8
def vl (c b k:Int):Int:=c-b*k+k*k
theorem ev_two (c b k:Int):ev [c,b,1] (-k)=vl c b k:=by
 show 0+c*(-k)^0+b*(-k)^1+1*(-k)^2=_
 unfold vl
 grind
theorem c41 (hp:cY [c,b,1])(zb:k.natAbs<=499){Q:B->Prop}(h:Q (.pu<|.int<|vl c b k)):tH [.tup [.int c,.int b,.int 1],.int<|-k] Q:=by
 rw[<-ev_two]at h;exact⟨3,9,9,λj=>[c,b,1].getD j 0,-k,by rw[show 3=[c,b,1].length from rfl,<-c20];rfl,⟨λj=>aN (iS hp.ok.small j) ac,aN (show(-k).natAbs<=499 by omega) ac,ad,ac,ad⟩,h⟩
def rtL (c b q:Int):List Int:=((List.range q.toNat).filter λk:Nat=>decide (vl c b (k:Int)%q=0)).map λk:Nat=>(k:Int)
theorem cU5 (hp:cY [c,b,1])(hq:q∈prL){ρ1:Ev}(hui: ∀Q:Nat->(Nat->D)->Ev->Prop,Q q.toNat (λi=> .int (0+(i:Int))) ρ1->ui ρ Q)
  (h0:qW (wW ρ1 js) cap 3=[none,~~~.tup [.int c,.int b,.int 1],!q,↑[]]) (h:Q (.ow<|(rtL c b q).map .int) (wW ρ1 js)) :
  gD js cap 3 ui (dM 0) (dF<|uOp (hG false) (uOp kX (aU tH<|a6 (aB 1)<|a6 (kD<|aB 0) aI)<|aB 2)<|@0) (aB 0) ρ Q:=by
 have pp:=kH hq;have lo:=pp.lo;have hi:=pp.hi;refine aX6 (t0:=0) q.toNat (λk=> .int (0+(k:Int))) ρ1 hui aa (λx l=>[x,~~~.tup [.int c,.int b,.int 1],!q,↑l]) none h0 (λ_ _ _=>rfl) (λ_ _=>dR _) (λ_ _ _ q=>q) (λ_ _ _=>rfl) (λk=>decide (vl c b (k:Int)%q=0)) (λk=> .int (k:Int)) ?_ ?_ ?_
 .intro i l Q' hi' q';left;rw[eE]at q'⊢;refine c41 hp aa ?_
  left
  refine⟨aa,?_⟩
  rw[dZ _ aa]
  exact q'
 .intro i l Q' hi' q';left;rw[eE]at q'⊢;exact q'
 .have e:((List.range q.toNat).filter λk:Nat=>decide (vl c b (k:Int)%q=0)).map (λk:Nat=>D.int (k:Int))=(rtL c b q).map .int:=by unfold rtL;rw[dW];rfl
  rw[e];exact h
theorem bK3 (h:a∈rtL c b q):0<=a/\a<q/\vl c b a%q=0:=by
 obtain⟨k,hk,rfl⟩:=cD.mp h;obtain⟨h1,h2⟩:=eS.mp hk;have:=cJ.mp h1;exact⟨aa,aa,fZ h2⟩
theorem rt_of (h0:0<=a)(h1:a<q)(h:vl c b a%q=0):a∈rtL c b q:=
 cD.mpr ⟨a.toNat,eS.mpr ⟨cJ.mpr aa,bQ (by rw[show((a.toNat:Nat):Int)=a by omega];exact h)⟩,aa⟩
theorem rt_len (pq:Pr q):(rtL c b q).length<=2:=by
 have asc:(rtL c b q).Pairwise λx y=>x<y:=by
  unfold rtL;rw[v9];exact(List.pairwise_lt_range (n:=q.toNat)).filter _ |>.imp λh=>aa
 have mem: ∀a∈rtL c b q,0<=a/\a<q/\vl c b a%q=0:=λa h=>bK3 h
 match rtL c b q,asc,mem with
 | [],_,_=>decide
 | [_],_,_=>simp
 | [_,_],_,_=>simp
 | x::y::z::l,asc,mem=>
  exfalso
  simp only[iJ]at asc;obtain⟨x0,x1,x2⟩:=mem x ae
  obtain⟨y0,y1,y2⟩:=mem y ae
  obtain⟨z0,z1,z2⟩:=mem z ae
  have xy:=asc.1 y ae
  have yz:=asc.2.1 z ae
  have lo:=pq.lo;have two: ∀u v:Int,0<=u->u<v->v<q->vl c b u%q=0->vl c b v%q=0->q∣u+v-b:=λu v u0 uv vq hu hv=>by
   have d:q∣(v-u)*(u+v-b):=by
    have:=Int.dvd_sub (fY hv) (fY hu);rw[show vl c b v-vl c b u=(v-u)*(u+v-b)by unfold vl;grind]at this
    exact this
   rcases pq.or d with h|h
   .have:=le_of_dvd aa h
    omega
   .exact h
  have:=Int.dvd_sub (two x z x0 aa z1 x2 z2) (two x y x0 xy y1 x2 y2)
  have:=le_of_dvd aa this
  omega
theorem ixT {x:D}(h:ρ[i]? =some (~~~.tup l))(hx:atI l k=some x):uIx (aQ i) (uC<|.int k) ρ Q=Q (.pu x) ρ:=by
 simp only[uIx,aQ,bD4,h,uC,gIx,oE,hx,B.d]
theorem a0 {x:D}:atI (x::l) 0=some x:=dL (j:=0) rfl
theorem a1 {x y:D}:atI (x::y::l) 1=some y:=dL (j:=1) rfl
theorem c42 (t:UA)(ρ:Ev)(Q:B->Ev->Prop):bL t ρ Q=t ρ λl ρ1=>l.length<=sizeLine/\Q (.pu<|.tup l) ρ1:=rfl
theorem c43 (t:UA)(ρ:Ev)(Q:B->Ev->Prop):dY t ρ Q=t ρ λl ρ1=>l.length<=sizeLine/\Q (.ow l) ρ1:=rfl
def bK4:Φ:=λds Q=> ∃c b q:Int,ds=[.tup [.int c,.int b,.int 1],.int q]/\cY [c,b,1]/\q∈prL/\ ∀P:List lM,P.length<=5->Q (.pu<|elP (q,P))
def a61:US:=(eJ<|bL<|a6 (aB 1)<|a6 (dY<|a6 (bL<|a6 (bL<|a6 (uOp kX (uIx (aQ 0)<|@0)<|aB 1)<|a6 (uOp kX (uIx (aQ 0)<|@1)<|aB 1)<|a6 @1 aI)<|a6 @1<|a6 (aB 3) aI) aI) aI)
def aY5:US:=(aW (fU (dF<|uOp (hG false) (uIx (aQ 3)<|@1)<|@0) (cE 3<|uSl (aQ 3) fV<|jB<|aU cJ4<|a6 (uOp (hG true) (uIx (aQ 3)<|@0)<|@0) aI) dG) a61)
def a62:US:=(aW (cE 3<|bL<|a6 (uOp M.gSub (uIx (aQ 0)<|@0)<|uOp kX (uIx (aQ 0)<|@0)<|aB 1)<|a6 (uOp M.gSub (uIx (aQ 0)<|@1)<|uOp kX (uIx (aQ 0)<|@1)<|aB 1) aI) aY5)
def aY6:US:=(aR7 4<|bL<|a6 (bL<|a6 (aB 5)<|a6 @1 aI)<|a6 (uOp M.gSub @3<|kE<|aQ 2)<|a6 (uIf (dF<|uOp (hG true) (aB 3)<|@0) (bL<|a6 (aB 3) aI)<|bL aI) aI)
def a63:US:=(aW (cE 3<|aU tH<|a6 (aB 0)<|a6 (kD<|aB 5) aI) aY6)
def bK5:US:=(eJ<|bL<|a6 (aB 1)<|a6 (aB 4) aI)
def bK6:US:=(aW (mK (fS<|aB 2) (dM 5) a63) bK5)
def bK7:US:=(aW (cE 4<|dY aI) bK6)
def aT6:US:=(aW (fU (dF<|uOp (hG false) (kE<|aQ 2)<|@0) a62 dG) bK7)
def bK8:US:=(aW (cE 2<|gD [0,1] [none,some 0,some 1,none] 3 (pQ<|a6 (aB 1) aI) (dM 0) (dF<|uOp (hG false) (uOp kX (aU tH<|a6 (aB 1)<|a6 (kD<|aB 0) aI)<|aB 2)<|@0)<|aB 0) aT6)
theorem dH6 {Q:B->Prop}(q2:2<=q)(h: ∀P:List lM,P.length<=5->Q (.pu<|elP (q,P))){s2 s4 s5:Option B}{nx:Ev->Prop}:a62 {nx:=nx,rt:=Q} [~~~.tup [.int c,.int b,.int 1],!q,s2,none,s4,s5]:=by
 have go: ∀w:List Int,a61 {nx:=nx,rt:=Q} [~~~.tup [.int c,.int b,.int 1],!q,s2,~~~aX w,s4,s5]:=λw=>by
  unfold a61;simp only[kK,c42,c43,bS,kF];left;rw[a0,a1];right;exact⟨aa,aa,ac,ac,ac,ac,h [([c.fmod q,b.fmod q,1],1,w)] ae⟩
 unfold a62;rw[aP,gK,c42,bS,kF,ixT rfl a0,kF,ixT rfl a0];left;refine⟨aa,?_⟩
 rw[a1];right;refine⟨aa,ac,?_⟩
 generalize b-b.fmod q=y;generalize c-c.fmod q=x;unfold aY5;rw[aP,sX,sW,kF,ixT rfl a1];left
 by_cases z:y=0
 .rw[a8 z,a0];right
  by_cases z2:x=0
  .rw[a7 λw=>w z2]
   exact⟨ac,go []⟩
  .rw[a8 z2];exact⟨ac,go [x]⟩
 .rw[a7 z];exact go [x,y]
theorem dH7 (hp:cY [c,b,1])(h0:0<=a)(h1:a<200){rs:List Int}{P:List lM}(l5:P.length<=5){s3:Option B}(h: ∀y s,E.nx [~~~.tup [.int c,.int b,.int 1],!q,~~~.lst (rs.map .int),s,↑((P++[y]).map el3),!a]) :
  a63 E [~~~.tup [.int c,.int b,.int 1],!q,~~~.lst (rs.map .int),s3,↑(P.map el3),!a]:=by
 unfold a63;rw[aP];left;refine c41 hp aa ?_
 generalize vl c b a=v;have go: ∀w:List Int,E.nx [~~~.tup [.int c,.int b,.int 1],!q,~~~.lst (rs.map .int),!v,↑(P.map el3++[.tup [.tup [.int a,.int 1],.int<|3-(rs.length:Int),aX w]]),!a]:=λw=>by
  have:=h ([a,1],3-(rs.length:Int),w) (!v);rw[bT]at this;exact this
 unfold aY6;left;rw[show(rs.map D.int).length=rs.length from aF _]
 by_cases z:v=0
 .rw[a7 λw=>w z]
  exact⟨ac,ac,ac,szl (by simp;omega),go []⟩
 .rw[a8 z];exact⟨ac,ac,ac,szl (by simp;omega),go [v]⟩
theorem dH8: Ra bK4 bK8 ["f","p","r","l","s","a"]:=by
 rintro ds Q ⟨c,b,q,rfl,hp,hq,h⟩;have pp:=kH hq;have lo:=pp.lo;have hi:=pp.hi;have l2:=rt_len (c:=c) (b:=b) pp;have mem: ∀a∈rtL c b q,0<=a/\a<q:=λa ha=>⟨(bK3 ha).1,(bK3 ha).2.1⟩
 unfold bK8;show(aW _ _:US) _ [~~~.tup [.int c,.int b,.int 1],!q,none,none,none,none];rw[aP,gK];refine cU5 hp hq (ρ1:=[~~~.tup [.int c,.int b,.int 1],!q,none,none,none,none]) (λQ' z=> ?_) rfl ?_
 .left
  exact⟨aa,z⟩
 generalize rtL c b q=rs at l2 mem;show aT6 _ [~~~.tup [.int c,.int b,.int 1],!q,↑(rs.map .int),none,none,none];unfold aT6;rw[aP];left;rw[aF]
 by_cases c0:(rs.length:Int)=0
 .rw[a8 c0];exact dH6 lo h
 rw[a7 c0];unfold bK7;rw[aP];left;refine⟨ac,?_⟩
 unfold bK6;rw[aP];refine aY3 rs .int [~~~.tup [.int c,.int b,.int 1],!q,~~~.lst (rs.map .int),none,↑[],none] (λQ' q=>q) (λl ρ=> ∃s3 s5 P,P.length=l.length/\ρ=[~~~.tup [.int c,.int b,.int 1],!q,~~~.lst (rs.map .int),s3,↑(P.map el3),s5]) ⟨none,none,[],rfl,rfl⟩ ?_ ?_
 .rintro l a ha hl ρ ⟨s3,s5,P,eP,rfl⟩;have:=mem a ha;exact⟨ae,dH7 hp aa aa aa λy s=>⟨s,_,P++[y],by simp[eP],rfl⟩⟩
 .rintro ρ ⟨s3,s5,P,eP,rfl⟩;right;unfold bK5;left;exact⟨ac,h P aa⟩
def far (c b:Int):Int:=b*b-4*c
theorem c44 (d:D)(ρ:Ev)(Q:B->Ev->Prop):uC d ρ Q=Q (.pu d) ρ:=rfl
theorem dH9 (hp:cY [c,b,1])(hi:ρ[i]? =some (~~~.tup [.int c,.int b,.int 1]))(h:Q (.pu<|.int<|far c b) ρ) :
  uOp M.gSub (uOp iR (uIx (aQ i)<|@1)<|uIx (aQ i)<|@1) (uOp iR @4<|uIx (aQ i)<|@0) ρ Q:=by
 have hb:=hp.ok.small b ae
 have hc:=hp.ok.small c ae
 rw[kF,kF,ixT hi a1,ixT hi a1];refine⟨cmL aa aa,?_⟩
 right;rw[kF,c44,ixT hi a0];exact⟨cmL ac ac,h⟩
theorem bW4 (t u:UE)(ρ:Ev)(Q:B->Ev->Prop):bS9 t u ρ Q=t ρ λx ρ1=>isB (λc ρ1=>if c=true then u ρ1 Q else Q (.pu<|.bl false) ρ1) x ρ1:=rfl
theorem cU6 (t i:UE)(ρ:Ev)(Q:B->Ev->Prop):uIx (uV t) i ρ Q=t ρ λb ρ1=>i ρ1 λj ρ2=>gIx b.d j.d λx=>Q (.pu x) ρ2:=rfl
nonrec def cnd (c b q:Int):Bool:=decide (far c b≠0)&&sqB (far c b) q
def rt (c b q:Int):Int:=(rtL c b q).headD 0
def vOk (c b q:Int):Bool:=not (decide (vl c b (rt c b q)%(q*q)=0))
def d19 (v:Int):List Int:=if v=0 then []else [v]
def vP (c b q:Int):cH:=(q,[([rt c b q,1],2,d19<|vl c b<|rt c b q)])
def vg0 (c b:Int):Bool:=decide ((far c b).natAbs<=39999)&&not (((List.range 708).map λk:Nat=>decide ((0+(k:Int))*(0+(k:Int))=far c b)).any id)
nonrec def vg (c b:Int)(l:List Int):Bool:=vg0 c b&&(l.filter<|cnd c b).all (vOk c b)
nonrec def vt (c b:Int)(l:List Int):List cH:=(l.filter<|cnd c b).map (vP c b)
theorem dY5 (pq:Pr q)(h:cnd c b q=true):rt c b q∈rtL c b q:=by
 have lo:=pq.lo;unfold cnd at h;rw[bP]at h;have d:q*q∣far c b:=fY (fZ h.2);obtain⟨z,hz⟩:=root2 pq (c:=c) (b:=b) (Int.dvd_trans (aQ4 q q) d);have m:(-z)%q∈rtL c b q:=by
  refine rt_of (dS _ aa) (dO _ aa) (lB ?_)
  rw[Int.emod_def];generalize (-z)/q=k;exact dv2 (x:=1) (y:=b*k+2*z*k+q*k*k) hz (dvd_refl q) (by unfold vl;grind)
 unfold rt
 match rtL c b q,m with
 | x::l,_=>simp
def aT7:Φ:=λds Q=> ∃c b:Int,ds=[.tup [.int c,.int b,.int 1]]/\cY [c,b,1]/\Q (.ow [.bl<|vg c b prL,lsP<|vt c b prL])
def sH:US:=(aR7 3<|bL<|a6 (aB 4)<|a6 (dY<|a6 (bL<|a6 (bL<|a6 (aB 5)<|a6 @1 aI)<|a6 @2<|a6 (uIf (dF<|uOp (hG true) (aB 6)<|@0) (bL<|a6 (aB 6) aI)<|bL aI) aI) aI) aI)
def zU:US:=(aW (cE 2<|bS9 (aB 2)<|uOp (hG true) (uOp kX (aB 6)<|uOp iR (aB 4)<|aB 4)<|@0) sH)
def sI:US:=(aW (cE 6<|aU tH<|a6 (aB 0)<|a6 (kD<|aB 5) aI) zU)
def sJ:US:=(aW (cE 5<|uIx (uV<|gD [0,4] [none,some 0,some 4,none] 3 (pQ<|a6 (aB 4) aI) (dM 0) (dF<|uOp (hG false) (uOp kX (aU tH<|a6 (aB 1)<|a6 (kD<|aB 0) aI)<|aB 2)<|@0)<|aB 0)<|@0) sI)
def wF:US:=(fU (c75 (dF<|uOp (hG true) (aB 1)<|@0)<|dF<|uOp (hG false) (uOp kX (aB 1)<|uOp iR (aB 4)<|aB 4)<|@0) sJ dG)
def aY7:US:=(eJ<|dY<|a6 (aB 2)<|a6 (aB 3) aI)
def aY8:US:=(aW (mK (fS<|aU c40 aI) (dM 4) wF) aY7)
def a64:US:=(aW (cE 3<|dY aI) aY8)
def a65:US:=(aW (cE 2<|bS9 (uOp (sA λi j=>decide (i<=j)) (aU cX9<|a6 (aB 1) aI)<|@39999)<|d63<|aU gAny<|a6 (gD [1] [none,some 1,none] 2 (pQ<|a6 @708 aI) (dM 0) (λρ Q=>Q true ρ)<|uOp (hG false) (uOp iR (aB 0)<|aB 0)<|aB 1) aI) a64)
def aT8:US:=(aW (cE 1<|uOp M.gSub (uOp iR (uIx (aQ 0)<|@1)<|uIx (aQ 0)<|@1)<|uOp iR @4<|uIx (aQ 0)<|@0) a65)
theorem cU7 {l:List Int}:vg c b (l++[q])=(vg c b l&&(not (cnd c b q)||vOk c b q)):=by
 unfold vg;rw[mS,List.all_append,Bool.and_assoc];cases h:cnd c b q<;>simp[h]
theorem vt_yes {l:List Int}(h:cnd c b q=true):vt c b (l++[q])=vt c b l++[vP c b q]:=by
 unfold vt;rw[mS,bT];simp[h]
theorem vt_no {l:List Int}(h:cnd c b q=false):vt c b (l++[q])=vt c b l:=by
 unfold vt;rw[mS,bT];simp[h]
theorem dI0 {l:List Int}:(vt c b l).length<=l.length:=by
 unfold vt;rw[aF];exact a07 ..
section
variable {c b q:Int}(hp:cY [c,b,1])(hq:q∈prL){l:List Int}{E:UD}{s5 s6:Option B}
include hp hq
theorem dT5 (hc:cnd c b q=true)(ll:l.length<46)(h: ∀s5 s6,E.nx [~~~.tup [.int c,.int b,.int 1],!far c b,~~~.bl (vg c b (l++[q])),↑((vt c b<|l++[q]).map elP),!q,s5,s6]) :
  sJ E [~~~.tup [.int c,.int b,.int 1],!far c b,~~~.bl (vg c b l),↑((vt c b l).map elP),!q,s5,s6]:=by
 have pp:=kH hq;have lo:=pp.lo;have hi:=pp.hi;have ri:=dY5 pp hc;obtain⟨r0,r1,_⟩:=bK3 ri;have pq:0<q*q:=vM aa aa
 rw[cU7,vt_yes hc,hc]at h;have lT:=dI0 (c:=c) (b:=b) (l:=l);unfold sJ;rw[aP,gK,cU6];refine cU5 hp hq (ρ1:=[~~~.tup [.int c,.int b,.int 1],!far c b,~~~.bl (vg c b l),↑((vt c b l).map elP),!q,s5,s6]) (λQ' z=> ?_) rfl ?_
 .left
  exact⟨aa,z⟩
 have er:atI ((rtL c b q).map D.int) 0=some (.int<|rt c b q):=by
  unfold rt at ri⊢
  match rtL c b q,ri with
  | x::l,_=>exact a0
 show gIx (.lst<|(rtL c b q).map .int) (.int 0) _
 unfold gIx;simp only[oE];rw[er];show sI _ [~~~.tup [.int c,.int b,.int 1],!far c b,~~~.bl (vg c b l),↑((vt c b l).map elP),!q,!rt c b q,s6];unfold sI;rw[aP];left;refine c41 hp aa ?_
 have h2:=h (!rt c b q) (!vl c b (rt c b q));unfold vOk vP d19 at h2;generalize vl c b (rt c b q)=v at h2⊢;generalize rt c b q=a at h2⊢;generalize vg c b l=g at h2⊢;generalize vt c b l=T at h2 lT⊢;rw[bT]at h2
 have go:sH E [~~~.tup [.int c,.int b,.int 1],!far c b,~~~.bl (g&&(not true||not (decide (v%(q*q)=0)))),↑(T.map elP),!q,!a,!v]:=by
  unfold sH;left
  by_cases z:v=0
  .rw[a7 λw=>w z]
   rw[a8 z]at h2;exact⟨ac,ac,ac,ac,ac,szl (by simp;omega),h2⟩
  .rw[a8 z];rw[a7 z]at h2;exact⟨ac,ac,ac,ac,ac,szl (by simp;omega),h2⟩
 unfold zU;rw[aP];left;cases g with
 | true=>
  rw[a8 rfl];refine⟨cmL aa aa,aa,?_⟩
  rw[dZ _ pq];exact go
 | false=>
  rw[a7 ac]
  exact go
theorem dI1 (ll:l.length<46)(h: ∀s5 s6,E.nx [~~~.tup [.int c,.int b,.int 1],!far c b,~~~.bl (vg c b (l++[q])),↑((vt c b<|l++[q]).map elP),!q,s5,s6]) :
  wF E [~~~.tup [.int c,.int b,.int 1],!far c b,~~~.bl (vg c b l),↑((vt c b l).map elP),!q,s5,s6]:=by
 have lo:=(kH hq).lo;have hi:=(kH hq).hi;have pq:0<q*q:=vM aa aa
 have no:cnd c b q=false->dG E [~~~.tup [.int c,.int b,.int 1],!far c b,~~~.bl (vg c b l),↑((vt c b l).map elP),!q,s5,s6]:=λe=>by
  have:=h s5 s6;rw[cU7,vt_no e,e]at this;show E.nx _
  exists this
 unfold wF;rw[sX];left
 by_cases z:far c b=0
 .rw[a7 λw=>w z]
  exact no (by unfold cnd;rw[z];rfl)
 .rw[a8 z];refine⟨cmL aa aa,aa,?_⟩
  rw[dZ _ pq]
  by_cases z2:far c b%(q*q)=0
  .rw[a8 z2];exact dT5 hp hq (by unfold cnd sqB;rw[bQ z,bQ z2];rfl) ll h
  .rw[a7 z2];exact no (by unfold cnd sqB;rw[bZ z2,Bool.and_false])
end
theorem cN6: Ra aT7 aT8 ["f","d","g","t","p","a","l"]:=by
 rintro ds Q ⟨c,b,rfl,hp,h⟩;unfold aT8;show(aW _ _:US) _ [~~~.tup [.int c,.int b,.int 1],none,none,none,none,none,none];rw[aP,gK];refine dH9 hp rfl ?_;show a65 _ [~~~.tup [.int c,.int b,.int 1],!far c b,none,none,none,none,none]
 have go: ∀g,g=vg0 c b->a64 {Q with} [~~~.tup [.int c,.int b,.int 1],!far c b,~~~.bl g,none,none,none,none]:=λg eg=>by
  unfold a64;rw[aP];left;refine⟨ac,?_⟩
  unfold aY8;rw[aP]
  refine aY3 prL .int [~~~.tup [.int c,.int b,.int 1],!far c b,~~~.bl g,↑[],none,none,none] (λQ' q=>⟨rfl,q⟩) (λl ρ=> ∃s4 s5 s6,ρ=[~~~.tup [.int c,.int b,.int 1],!far c b,~~~.bl (vg c b l),↑((vt c b l).map elP),s4,s5,s6]) ⟨none,none,none,by rw[eg];unfold vg;rw[List.filter_nil,List.all_nil,Bool.and_true];rfl⟩ ?_ ?_
  .rintro l q hq hl ρ ⟨s4,s5,s6,rfl⟩;have ll:prL.length=46:=by rw[aC2];rfl
   exact⟨ae,dI1 hp hq aa λs5 s6=>⟨_,s5,s6,rfl⟩⟩
  .rintro ρ ⟨s4,s5,s6,rfl⟩;right;unfold aY7;left;exact⟨ac,h⟩
 unfold a65;rw[aP,gK,bW4,kF];left;have ab:((if far c b<0 then -far c b else far c b)<=39999)↔(far c b).natAbs<=39999:=by split<;>omega
 by_cases z:(far c b).natAbs<=39999
 .rw[a8<|ab.mpr z];refine jJ (t0:=0) 708 (λk=> .int (0+(k:Int))) [~~~.tup [.int c,.int b,.int 1],!far c b,none,none,none,none,none] (λQ' q=> ?_) ac (λx l=>[x,!far c b,↑l]) none rfl (λ_ _ _=>rfl) (λ_ _=>dR _) (λ_ _ _ q=>q) (λ_ _ _=>rfl) (λk=> .bl (decide ((0+(k:Int))*(0+(k:Int))=far c b))) ?_ ?_
  .left
   exact⟨ac,q⟩
  .intro k l Q' hk q;left;exact⟨cmL aa aa,q⟩
  .have e:(List.range 708).map (λk:Nat=>D.bl (decide ((0+(k:Int))*(0+(k:Int))=far c b)))=((List.range 708).map λk:Nat=>decide ((0+(k:Int))*(0+(k:Int))=far c b)).map D.bl:=by rw[dW];rfl
   rw[e];right;rw[a44];exact go _ (by unfold vg0;rw[bQ z,vG])
 .rw[a7 λw=>z (ab.mp w)]
  exact go _ (by unfold vg0;rw[bZ z,Bool.false_and])
structure Bes (c b:Int)(T A:List cH)(r:cH):Prop where
 pr:r.1∈prL
 no:far c b%(r.1*r.1)≠0
 pts:r.2.length<=5
 at':(∃U V,T=U++V/\A=U++r::V)\/ ∃e V,T=e::V/\A=r::V
def aJ2:Φ:=λds Q=> ∃(c b:Int) (T:List cH) (a m:Int),ds=[.tup [.int c,.int b,.int 1],lsP T,.int a,.int m]/\cY [c,b,1]/\T.length<=46/\ ∀BB:List (List cH),(∀A∈BB,∃r,Bes c b T A r)->BB.length<=2->Q (.ow<|BB.map lsP)
def aE5:US:=(vV 8)
def b76:US:=(aW (fU (dF<|uOp (sA λi j=>decide (j<i)) (kE<|aQ 1)<|@0) (aR7 8<|uOp fH (dY<|a6 (aB 7) aI)<|uSl (aQ 1) (jB<|@1) fV) dG) aE5)
def b77:US:=(aW (cE 8<|dY<|a6 (uOp fH (uOp fH (uSl (aQ 1) fV<|jB<|aB 2)<|dY<|a6 (aB 7) aI)<|uSl (aQ 1) (jB<|aB 2) fV) aI) b76)
def aE6:US:=(aW (cE 2<|uOp kX (aB 2)<|uOp fH (kE<|aQ 1)<|@1) b77)
def b78:US:=(aW (cE 7<|aU bK4<|a6 (aB 0)<|a6 (uIx (aQ 5)<|uOp kX (aB 2)<|kE<|aQ 5) aI) aE6)
def aE7:US:=(aW (fU (dF<|uOp (hG false) (kE<|aQ 5)<|@0) (eJ<|dY aI) dG) b78)
def aE8:US:=(aW (fU (c75 (dF<|uOp (hG false) (aB 3)<|@1)<|dF<|uOp (sA λi j=>decide (j<i)) (kE<|aQ 6)<|@0) (cE 5<|aB 6) dG) aE7)
def aE9:US:=(aW (cE 6<|gD [4] [none,some 4,none] 2 (fS<|aB 5) (dM 0) (dF<|uOp (hG false) (uOp kX (aB 1)<|aB 0)<|@0)<|aB 0) aE8)
def aF0:US:=(aW (cE 5<|gD [4] [none,some 4,none] 2 (fS<|aU c40 aI) (dM 0) (dF<|uOp (hG true) (uOp kX (aB 1)<|uOp iR (aB 0)<|aB 0)<|@0)<|aB 0) aE9)
def b52:US:=(aW (cE 4<|uOp M.gSub (uOp iR (uIx (aQ 0)<|@1)<|uIx (aQ 0)<|@1)<|uOp iR @4<|uIx (aQ 0)<|@0) aF0)
section
variable {c b:Int}{T:List cH}(hp:cY [c,b,1])(hT:T.length<=46){Q:B->Prop}(h: ∀BB:List (List cH),(∀A∈BB,∃r,Bes c b T A r)->BB.length<=2->Q (.ow (BB.map lsP))){a m:Int}{S:List Int}(hS: ∀q∈S,q∈prL/\far c b%(q*q)≠0){s6:Option B}
include hp hT h hS
theorem c45 {nx:Ev->Prop}:aE7 {nx:=nx,rt:=Q} [~~~.tup [.int c,.int b,.int 1],~~~lsP T,!a,!m,!far c b,~~~.lst (S.map .int),s6,none,none]:=by
 unfold aE7;rw[aP];left;rw[aF]
 by_cases z:(S.length:Int)=0
 .rw[a8 z];exact⟨ac,h [] (λA hA=>by cases hA) ac⟩
 rw[a7 z];unfold b78;rw[aP];left;rw[aF];obtain⟨k,hk,ek⟩:=c39 (n:=S.length) aa a
 have e1:atI (S.map D.int) (k:Int)=some (.int S[k]):=dL (by rw[bX,aO hk];rfl)
 refine⟨z,?_⟩
 rw[ek,e1];obtain⟨hq,hn⟩:=hS S[k] (bY hk);generalize S[k]=q at hq hn;refine⟨c,b,q,rfl,hp,hq,λP hP=> ?_⟩
 obtain⟨r,er⟩: ∃r:cH,r=(q,P):=⟨_,rfl⟩;rw[<-er];have r1: ∀A,((∃U V,T=U++V/\A=U++r::V)\/ ∃e V,T=e::V/\A=r::V)-> ∃r,Bes c b T A r:=λA hA=>⟨r,by rw[er];exact hq,by rw[er];exact hn,by rw[er];exact hP,hA⟩
 show aE6 _ [~~~.tup [.int c,.int b,.int 1],~~~lsP T,!a,!m,!far c b,~~~.lst (S.map .int),s6,~~~elP r,none]
 unfold aE6;rw[aP];unfold lsP;left;rw[aF];refine⟨aa,?_⟩
 obtain⟨j,hj,ej⟩:=c39 (n:=T.length+1) aa a
 rw[show(T.length:Int)+1=((T.length+1:Nat):Int)by omega,ej]
 unfold b77;rw[aP];left;rw[aS5 _ _ (by rw[aF];omega),zN _ _ (by rw[aF];omega)]
 have e2:(T.map elP).take j++[elP r]++(T.map elP).drop j=(T.take j++r::T.drop j).map elP:=ae
 rw[e2];refine⟨ac,sz (by simp;omega),sz (by simp;omega),ac,?_⟩
 have go: ∀BB:List (List cH),(∀A∈BB,∃r,Bes c b T A r)->BB.length<=2->aE5 {nx:=nx,rt:=Q} [~~~.tup [.int c,.int b,.int 1],~~~.lst (T.map elP),!(j:Int),!m,!far c b,~~~.lst (S.map .int),s6,~~~elP r,↑(BB.map lsP)]:=λBB hB hl=>by
  unfold aE5;left;exact h BB hB hl
 have b1:=r1 (T.take j++r::T.drop j) (.inl ⟨_,_,(aO9 j T).symm,rfl⟩);unfold b76;rw[aP];left;rw[aF]
 match T,b1,go,r1 with
 | [],b1,go,_=>
  rw[a7 ac]
  exact go [_] (λA hA=>by rw[eQ.mp hA];exact b1) ae
 | e::V,b1,go,r1=>
  rw[a8 ae]
  have e3:cutD ((e::V).map elP) (some 1) none=V.map elP:=zN _ 1 ae
  rw[e3];have lV:V.length<=45:=by exists hT
  refine⟨ac,sz (by simp;omega),ac,go [_,r::V] (λA hA=> ?_) ae⟩
  simp only[aT,eR,eW]at hA;rcases hA with rfl|rfl
  .exact b1
  .exact r1 _ (.inr ⟨e,V,rfl,rfl⟩)
end
theorem d20: Ra aJ2 b52 ["f","d","a","n","r","s","o","p","w"]:=by
 rintro ds Q ⟨c,b,T,a,m,rfl,hp,hT,h⟩;unfold b52;show(aW _ _:US) _ [~~~.tup [.int c,.int b,.int 1],~~~lsP T,!a,!m,none,none,none,none,none];rw[aP,gK];refine dH9 hp rfl ?_;show aF0 _ [~~~.tup [.int c,.int b,.int 1],~~~lsP T,!a,!m,!far c b,none,none,none,none]
 have ll:prL.length<=1000:=by rw[aC2];decide
 unfold aF0;rw[aP,gK]
 refine aY2 (t0:=0) prL .int .int (λq=>not (decide (far c b%(q*q)=0))) [~~~.tup [.int c,.int b,.int 1],~~~lsP T,!a,!m,!far c b,none,none,none,none] (λQ' q=>⟨rfl,q⟩) ll (λx l=>[x,!far c b,↑l]) none rfl (λ_ _ _=>rfl) (λ_ _=>dR _) (λ_ _ _ q=>q) (λ_ _ _=>rfl) (λq hq l Q' z=> ?_) (λq hq _ l Q' z=>z _ rfl) ?_
 .have lo:=(kH hq).lo;have hi:=(kH hq).hi;have pq:0<q*q:=vM aa aa
  left
  refine⟨cmL aa aa,aa,?_⟩
  rw[dZ _ pq];exact z
 have hS: ∀q∈prL.filter (λq=>not (decide (far c b%(q*q)=0))),q∈prL/\far c b%(q*q)≠0:=λq hq=>by
  obtain⟨h1,h2⟩:=eS.mp hq;exact⟨h1,by exists h2⟩
 have lS:(prL.filter λq=>not (decide (far c b%(q*q)=0))).length<=1000:=aN (a07 ..) ll
 generalize prL.filter (λq=>not (decide (far c b%(q*q)=0)))=S at hS lS
 show aE9 _ [~~~.tup [.int c,.int b,.int 1],~~~lsP T,!a,!m,!far c b,↑(S.map .int),none,none,none]
 unfold aE9;rw[aP,gK]
 refine aY2 (t0:=0) S .int .int (λq=>decide (far c b%q=0)) [~~~.tup [.int c,.int b,.int 1],~~~lsP T,!a,!m,!far c b,~~~.lst (S.map .int),none,none,none] (λQ' q=>q) lS (λx l=>[x,!far c b,↑l]) none rfl (λ_ _ _=>rfl) (λ_ _=>dR _) (λ_ _ _ q=>q) (λ_ _ _=>rfl) (λq hq l Q' z=> ?_) (λq hq _ l Q' z=>z _ rfl) ?_
 .have lo:=(kH (hS q hq).1).lo;left;refine⟨aa,?_⟩
  rw[dZ _ aa]
  exact z
 have hO: ∀q∈S.filter (λq=>decide (far c b%q=0)),q∈prL/\far c b%(q*q)≠0:=λq hq=>hS q (eS.mp hq).1
 generalize S.filter (λq=>decide (far c b%q=0))=O at hO
 show aE8 _ [~~~.tup [.int c,.int b,.int 1],~~~lsP T,!a,!m,!far c b,~~~.lst (S.map .int),↑(O.map .int),none,none]
 unfold aE8;rw[aP];left;rw[aF]
 by_cases z:m=1
 .rw[a8 z]
  by_cases z2:(0:Int)< (O.length:Int)
  .rw[a8 z2];exact c45 hp hT h hO
  .rw[a7 z2];exact c45 hp hT h hS
 .rw[a7 z];exact c45 hp hT h hS
abbrev Sps:=List ((Nat×∅)×Nat)
nonrec def pt3 (n:Nat)(f:∅)(x:(Nat×∅)×Nat):lM:=(rwF (x.1.1+1) x.1.2,(x.2:Int),zS n f x.1)
nonrec def cE3 (n:Nat)(f:∅)(size:Int)(xf:Int->Sps):List cH:=(prL.filter<|sqB size).map λq=>(q,(xf q).map<|pt3 n f)
theorem dT6 {size:Int}{xf:Int->Sps}:cM5 n f size xf=(cE3 n f size xf).map elP:=by
 unfold cM5 cE3;rw[dW];refine iI λq _=> ?_
 show d09 n f xf q=elP (q,(xf q).map<|pt3 n f)
 unfold d09 elP;right;rw[dW];rfl
noncomputable abbrev mes (p:List Int):Int:=fW 4 (dJ p)
def Pap (p:List Int)(T:List cH):Prop:= ∃xf,SPs (p.length-1) (fOf p) (mes p) xf/\T=cE3 (p.length-1) (fOf p) (mes p) xf
theorem SPs.uniq (rp:cY p){xf yf:Int->Sps}(hx:SPs (p.length-1) (fOf p) (mes p) xf)(hy:SPs (p.length-1) (fOf p) (mes p) yf)(hq:q∈prL)(hd:sqB (mes p) q=true):xf q=yf q:=
 SP.uniq (kH hq) (rp.rf.mp (kH hq).lo) rp.rf.n4 (hx q hq hd) (hy q hq hd)
theorem Pap.uniq {T S:List cH}(rp:cY p)(h:Pap p T)(h2:Pap p S):T=S:=by
 obtain⟨xf,hx,rfl⟩:=h;obtain⟨yf,hy,rfl⟩:=h2;unfold cE3;refine iI λq hq=> ?_
 obtain⟨h1,h2⟩:=eS.mp hq;rw[hx.uniq rp hy h1 h2]
theorem dT7 (rp:cY p)(h:NWh (p.length-1) (fOf p) (mes p)): ¬Wh (p.length-1) (fOf p) (mes p):=by
 rintro⟨yf,hy,fy⟩;obtain⟨xf,hx,no⟩:=h;exact no λq hq hd=>by rw[hx.uniq rp hy hq hd];exact fy q hq hd
def nX (p:List Int):Prop:=cY p/\RG p
theorem asc4 {d:Int}(ha:a∈prL)(hb:b∈prL)(hc:c∈prL)(hd:d∈prL)(h1:a<b)(h2:b<c)(h3:c<d){m:Nat}(da:a.natAbs*a.natAbs∣m)(db:b.natAbs*b.natAbs∣m)(dc:c.natAbs*c.natAbs∣m)(dd:d.natAbs*d.natAbs∣m)(m0:0<m):39999<m:=by
 have co:prL.all (λa=>prL.all λb=>decide (a=b)||decide (Nat.gcd (a.natAbs*a.natAbs) (b.natAbs*b.natAbs)=1))=true:=af
 have lo:prL.all (λa=>decide (2<=a)&&decide (a<=3\/5<=a)&&decide (a<=5\/7<=a))=true:=af
 have cp: ∀{a b:Int},a∈prL->b∈prL->a<b->Nat.Coprime (a.natAbs*a.natAbs) (b.natAbs*b.natAbs):=λ{a b} ha hb h=>by
  have:=cC.mp (cC.mp co a ha) b hb;rw[vD,cR,cR]at this;exact this.resolve_left aa
 have l: ∀a∈prL,2<=a/\(a<=3\/5<=a)/\(a<=5\/7<=a):=λa ha=>by
  have:=cC.mp lo a ha;simp only[bP,cR]at this;exact⟨this.1.1,this.1.2,this.2⟩
 have z1:=l a ha;have z3:=l c hc;have z4:=l d hd;have e1:=(cp ha hb h1).mul_dvd_of_dvd_of_dvd da db;have e2:=((cp ha hc aa).mul_left<|cp hb hc h2).mul_dvd_of_dvd_of_dvd e1 dc
 have e3:=(((cp ha hd aa).mul_left<|cp hb hd aa).mul_left<|cp hc hd h3).mul_dvd_of_dvd_of_dvd e2 dd
 have s: ∀{k:Nat} {x:Int},(k:Int)<=x->k*k<=x.natAbs*x.natAbs:=λ{k x} h=>eV aa aa
 have:=eV (eV (eV (s (k:=2) (x:=a) aa)<|s (k:=3) (x:=b) aa)<|s (k:=5) (x:=c) aa) (s (k:=7) (x:=d) aa)
 have:=a30 m0 e3;omega
theorem dI2:prL.Pairwise (λa b=>a<b):=by rw[aC2];exact cM4
theorem dT8 (h:sqB m q=true):q.natAbs*q.natAbs∣m.natAbs:=by
 rw[<-eC];exact aO8.mpr (fY<|fZ h)
theorem few (m0:m≠0)(m1:m.natAbs<=39999):(prL.filter<|sqB m).length<=3:=by
 have asc:=dI2.filter (sqB m);have mem: ∀q∈prL.filter (sqB m),q∈prL/\q.natAbs*q.natAbs∣m.natAbs:=λq hq=>⟨(eS.mp hq).1,dT8 (eS.mp hq).2⟩
 match prL.filter (sqB m),asc,mem with
 | [],_,_=>decide
 | [_],_,_=>simp
 | [_,_],_,_=>simp
 | [_,_,_],_,_=>simp
 | a::b::c::d::l,asc,mem=>
  exfalso
  simp only[iJ]at asc;have ha:=mem a ae
  have hb:=mem b ae
  have hc:=mem c ae
  have hd:=mem d ae
  have:=asc4 ha.1 hb.1 hc.1 hd.1 (asc.1 b ae) (asc.2.1 c ae) (asc.2.2.1 d ae) ha.2 hb.2 hc.2 hd.2 aa
  omega
theorem cU8 (p:Int): ∀(l:Sps) (a:Nat×∅),(∀x∈l,1<=x.1.1/\1<=x.2)->a.1+l.length<=(allT p a l).1
 | [],a,_=>aG _
 | x::l,a,h=>by
  have q:=cU8 p l (powT p a x.1 x.2) λy hy=>h y (.tail _ hy)
  rw[oJ]at q;have:=h x (.head _);have:1*1<=x.1.1*x.2:=eV this.1 this.2;show a.1+(l.length+1)<=(allT p (powT p a x.1 x.2) l).1;omega
theorem dI3: ∀r:List Int,ltL r r=false
 | []=>rfl
 | a::r=>by unfold ltL;rw[a8 rfl];exact dI3 r
theorem Pap.ok {T:List cH}(s:nX p)(h:Pap p T):aY4 T:=by
 obtain⟨rp,rg⟩:=s;obtain⟨xf,hx,rfl⟩:=h;have rf:=rp.rf;have lo:=rp.ok.lo;have n4:=rf.n4;have m0:=dG5 (n:=p.length-1) rp aa rg.irr
 refine⟨by unfold cE3;rw[aF];exact few m0 rg.meas,?_,?_,?_⟩
 .unfold cE3;rw[v9];exact dI2.filter _
 .intro e he;obtain⟨q,hq,rfl⟩:=cD.mp he;exact(eS.mp hq).1
 .intro e he;obtain⟨q,hq,rfl⟩:=cD.mp he;obtain⟨hp,hd⟩:=eS.mp hq;have sp:=hx q hp hd;have g:=cU8 q (xf q) i8 λx hx=>⟨(sp.mem x hx).2.1,(sp.mem x hx).2.2.2.1⟩
  rw[sp.prod]at g;have g':0+(xf q).length<=p.length-1:=g;refine⟨?_,by right;rw[aF];omega,?_,?_⟩
  .right;rw[aF]
   match e:xf q with
   | []=>
    have:=sp.prod;rw[e]at this;have:0=p.length-1:=bO Prod.fst this;omega
   | x::l=>simp
  .rw[List.nodup_iff_pairwise_ne,v9];refine sp.ord.imp λ{x y} h z=> ?_
   have r:rwF (x.1.1+1) x.1.2=rwF (y.1.1+1) y.1.2:=(a37 z).1;rcases h with h| ⟨_,h⟩
   .have:=bO length r;rw[a56,a56]at this;omega
   .rw[r,dI3]at h;cases h
  .intro z hz;obtain⟨x,hx,rfl⟩:=cD.mp hz;obtain⟨_,x1,x4,_⟩:=sp.mem x hx;unfold pt3 zS;right;rw[a56,a56];have:=xF (divL x.1.2 x.1.1 (p.length-1+1-x.1.1)<|fOf p) (p.length-1+1);omega
def xJ:Φ:=λds Q=> ∃(C:Addr) (p:List Int),ds=[qX C p]/\cY p/\ ∀T,Pap p T->Q (.ow<|T.map elP)
def aF1:US:=(eJ<|aU qJ<|a6 (aS4 "poly"<|aB 0)<|a6 (aS4 "measure"<|aB 0) aI)
theorem cE4: Ra xJ aF1 ["r"]:=by
 rintro ds Q ⟨C,p,rfl,rp,h⟩;unfold aF1;show(eJ _:US) _ [~~~qX C p];rw[kK,eB,bS,sG (C:=C) (p:=p) rfl,bS,c32 (C:=C) (p:=p) rfl];refine⟨p.length-1,fOf p,mes p,?_,rp.rf,λxf hx=> ?_⟩
 .rw[rp.row];rfl
 .rw[dT6];exact h _ ⟨xf,hx,rfl⟩
def bU:Φ:=λds Q=> ∃(p:List Int) (A:List cH),ds=[aX p,.lst<|A.map elP]/\p.length<=1000/\(¬nX p->Q (.pu<|.bl false))/\(nX p->zT A/\ ∀T,Pap p T->Q (.pu<|.bl<|decide (inO A=inO T)))
def sK:US:=(eJ<|uOp (cK3 false) (aU sZ<|a6 (aB 1) aI)<|aU sZ<|a6 (aU xJ<|a6 (aB 2) aI) aI)
def tX:US:=(aW (cA1 2 ["poly","degree","measure"] lN (a6 (aB 0) aI) ["FallsApart","TooGreat","NotWhole","NoPolynomial"]<|eJ<|uC<|.bl false) sK)
theorem b98: Ra bU tX ["p","r","g"]:=by
 rintro ds Q ⟨p,A,rfl,hl,h0,h1⟩;unfold tX;show(aW _ _:US) _ [~~~aX p,~~~.lst (A.map elP),none];rw[aP];unfold cA1;left;refine⟨p,rfl,hl,λrp=>⟨λnr me wh C=> ?_,λred _=>⟨ae,h0 λs=>s.2.irr red⟩,λgr=>⟨ae,h0 λs=>absurd s.2.meas aa⟩,λnw _ _=>⟨ae,h0 λs=>dT7 rp nw s.2.wh⟩⟩,λno=>⟨ae,h0 λs=>no s.1⟩⟩
 have sd:nX p:=⟨rp,nr,me,wh⟩;obtain⟨ia,h1⟩:=h1 sd;show sK _ [~~~aX p,~~~.lst (A.map elP),~~~qX C p];unfold sK;left;refine⟨A,rfl,ia,C,p,rfl,rp,λT pT=>⟨T,rfl,(pT.ok sd).inn,?_⟩⟩
 refine dG9 ?_
 rw[j9];exact h1 T pT
theorem dv2_at :divL (gP a).2 1 2 (fOf [c,b,1]) 0=vl c b a/\divL (gP a).2 1 2 (fOf [c,b,1]) 1=0/\divL (gP a).2 1 2 (fOf [c,b,1]) 2=0:=by
 refine⟨?_,?_,?_⟩
 .show c-1*0-(b-1*a)*a=vl c b a
  unfold vl
  grind
 .show b-1*a-(b-1*a)*1=0
  grind
 .show 1-1*1-(b-1*a)*0=0
  grind
theorem dI4 :zS 2 (fOf [c,b,1]) (gP a)=d19 (vl c b a):=by
 obtain⟨e0,e1,e2⟩:=dv2_at (c:=c) (b:=b) (a:=a);show rwF (gL (divL (gP a).2 1 2<|fOf [c,b,1]) 3) (divL (gP a).2 1 2<|fOf [c,b,1])=_;generalize divL (gP a).2 1 2 (fOf [c,b,1])=g at *;unfold d19 gL gL gL gL;rw[a8 e2,a8 e1,e0]
 by_cases z:vl c b a=0
 .rw[a8 z,a8 z];rfl
 .rw[a7 z,a7 z];show [g 0]=_;rw[e0]
theorem sp2 (hq:q∈prL)(hc:cnd c b q=true):SP q (2,md q<|fOf [c,b,1]) [(gP<|rt c b q,2)]:=by
 have pp:=kH hq;have lo:=pp.lo;obtain⟨r0,r1,r2⟩:=bK3 (dY5 pp hc);unfold cnd at hc;rw[bP]at hc;have d:q*q∣far c b:=fY (fZ hc.2);have dq:=Int.dvd_trans (aQ4 q q) d;generalize rt c b q=a at *;have dv:=fY r2;have h2:q∣2*a-b:=pp.sq (dv2 (x:=4) (y:=1) dv dq (by unfold vl far;grind))
 have h0:q∣a*a-c:=dv2 (x:= -1) (y:=a) dv h2 (by unfold vl;grind)
 have ml:=MP.lin lo r0 r1;refine⟨?_,?_,uW _ _,ae⟩
 .show tm q (tm q i8<|gP a) (gP a)=_
  rw[b39 ml];refine gJ rfl (funext λm=> ?_)
  show conv (gP a).2 (gP a).2 2 m%q=fOf [c,b,1] m%q
  rw[aX9 a λj hj=>ml.hi j (by show 1<j;omega)]
  match m with
  | 0=>
   show(a*a+0)%q=c%q
   rw[eF];exact aM8.mpr (lB h0)
  | 1=>
   show(a*1+a)%q=b%q
   exact aM8.mpr (lB (by rw[show a*1+a-b=2*a-b by grind];exact h2))
  | 2=>
   show(a*0+1)%q=1%q
   rw[aY,eE]
  | m+3=>
   show(a*0+0)%q=0%q
   rw[aY,eF]
 .intro x hx;rw[eQ.mp hx];exact⟨ml,aG 1,show 1<=4 by decide,show 1<=2 by decide,show 2<=4 by decide,λz=>absurd (show 2<=1 from z) ac,λz=>absurd (show 1=4 from z) ac⟩
theorem dY6 :bI1 2 (fOf [c,b,1]) q [(gP<|rt c b q,2)]↔vOk c b q=true:=by
 unfold bI1 vOk;rw[v8,a04];constructor
 .intro h;obtain⟨x,hx,nx⟩:=h _ (eQ.mpr rfl) (aG 2);dsimp only at hx;rw[dI4]at hx;unfold d19 at hx;split at hx
  .cases hx
  .rw[eQ.mp hx]at nx;exact nx
 .intro h x hx _;rw[eQ.mp hx];right;rw[dI4];refine⟨vl c b<|rt c b q,?_,h⟩;unfold d19;rw[a7 λz=>h (by rw[z,dD])]
  exact eQ.mpr rfl
theorem bC4 :Red [c,b,1]↔ ∃k:Int,k*k=far c b:=by
 constructor
 .rintro(⟨z,hz⟩| ⟨v,u,w,s,e⟩)
  .have:0+c*z^0+b*z^1+1*z^2=0:=hz;exact⟨2*z+b,by unfold far;grind⟩
  .have:=bO length e;cases this
 .rintro⟨k,hk⟩;unfold far at hk;obtain⟨t,ht⟩: ∃t,k-b=2*t:=by
   rcases aR5 (k-b)with e|e
   .exact⟨(k-b)/2,aa⟩
   .exfalso
    obtain⟨t,rfl⟩: ∃t,k=b+2*t+1:=⟨(k-b)/2,aa⟩
    have:4*(b*t)+2*b+4*(t*t)+4*t+1= -4*c:=by grind
    omega
  refine .inl ⟨t,?_⟩
  show 0+c*t^0+b*t^1+1*t^2=0
  obtain rfl:k=b+2*t:=aa
  grind
section
variable {c b:Int}(hp:cY [c,b,1])
include hp
theorem any2 (h:(far c b).natAbs<=39999):((List.range 708).map λk:Nat=>decide ((0+(k:Int))*(0+(k:Int))=far c b)).any id=true↔Red [c,b,1]:=by
 rw[bC4,List.any_eq_true];constructor
 .rintro⟨x,hx,e⟩;obtain⟨k,_,rfl⟩:=cD.mp hx;exact⟨_,fZ e⟩
 .rintro⟨k,hk⟩;have k7:k.natAbs<708:=by
   refine uS λz=> ?_
   have:708*708<=k.natAbs*k.natAbs:=eV aa aa
   rw[<-hk,eC]at h;omega
  refine⟨true,cD.mpr ⟨k.natAbs,cJ.mpr k7,bQ ?_⟩,rfl⟩
  rw[eE,<-hk,<-a23,Int.natAbs_mul_self]
theorem bK9 (f0:far c b≠0):cnd c b q=sqB (far c b) q:=by
 unfold cnd;rw[bQ f0,vG]
theorem sps2 (f0:far c b≠0):SPs 2 (fOf [c,b,1]) (far c b) λq=>[(gP<|rt c b q,2)]:=λq hq hd=>sp2 hq (by rw[bK9 hp f0];exact hd)
theorem dT9 (f0:far c b≠0):Pap [c,b,1] (vt c b prL):=by
 refine⟨λq=>[(gP<|rt c b q,2)],?_,?_⟩
 .show SPs 2 _ (fW 4<|dJ [c,b,1]) _
  rw[id2];exact sps2 hp f0
 .show _=cE3 2 _ (fW 4<|dJ [c,b,1]) _
  rw[id2];unfold cE3 vt;rw[show(b*b-4*c)=far c b from rfl,show cnd c b=sqB (far c b)from funext λq=>bK9 hp f0]
  refine iI λq _=> ?_
  unfold vP;rw[<-dI4];rfl
theorem aT9:vg c b prL=true↔nX [c,b,1]:=by
 have em:fW 4 (dJ [c,b,1])=far c b:=id2 c b;unfold vg vg0;rw[bP,bP,cR,v8];constructor
 .rintro⟨⟨h1,h2⟩,h3⟩;have irr: ¬Red [c,b,1]:=λr=>by rw[(any2 hp h1).mpr r]at h2;cases h2
  have f0:far c b≠0:=λz=>irr (bC4.mpr ⟨0,by rw[z];rfl⟩)
  refine⟨hp,irr,by rw[em];exact h1,?_⟩
  show Wh 2 _ _
  rw[em];refine⟨_,sps2 hp f0,λq hq hd=>dY6.mpr ?_⟩
  exact cC.mp h3 q (eS.mpr ⟨hq,by rw[bK9 hp f0];exact hd⟩)
 .rintro⟨_,irr,me,wh⟩;have f0:far c b≠0:=λz=>irr (bC4.mpr ⟨0,by rw[z];rfl⟩)
  rw[em]at me;have wh':Wh 2 (fOf [c,b,1]) (fW 4<|dJ [c,b,1]):=wh;rw[em]at wh';obtain⟨xf,sx,fx⟩:=wh';refine⟨⟨me,a14.mpr λz=>irr ((any2 hp me).mp z)⟩,cC.mpr λq hq=> ?_⟩
  obtain⟨hq,hc⟩:=eS.mp hq;rw[<-dY6];have hd:sqB (far c b) q=true:=by rw[<-bK9 hp f0];exact hc
  have e:xf q=[(gP<|rt c b q,2)]:=SP.uniq (kH hq) (hp.rf.mp (kH hq).lo) (show 2<=4 by decide) (sx q hq hd) (sp2 hq hc)
  rw[<-e];exact fx q hq hd
theorem aY9 (s:nX [c,b,1]):far c b≠0:=λz=>s.2.irr (bC4.mpr ⟨0,by rw[z];rfl⟩)
end
theorem dU0 {T A:List cH}{r:cH}(hb:Bes c b T A r)(ok:aY4 T)(hT: ∀e∈T,far c b%(e.1*e.1)=0):Bad T A:=by
 have ne: ∀e∈T,e.1≠r.1:=λe he z=>hb.no (z▸hT e he)
 have l:=ok.len;rcases hb.at' with⟨U,V,eT,eA⟩| ⟨e,V,eT,eA⟩
 .have lT:T.length=U.length+V.length:=by rw[eT,cI]
  subst eA;refine bC3 ok (c38 ok (λa ha=>by rw[eT];exact ha) (λa ha=>ne a (by rw[eT];exact ha)) (by simp;omega) hb.pts) (by simp;omega)
 .have lT:T.length=V.length+1:=by rw[eT,dP]
  subst eA;have hs: ∀a∈[]++V,a∈T:=λa ha=>by rw[eT];exact .tail _ ha
  have rn:=c38 ok (U:=[]) (V:=V) (r:=r) hs (λa ha=>ne a (hs a ha)) (by simp;omega) hb.pts
  refine⟨rn,λq=> ?_⟩
  have p:=(aJ0 rn.len ok.inn.len).mp q;rw[eT]at p;have k:=bJ8 (U:=[]) p;exact ne e (by rw[eT];simp) (a37 k).1.symm
theorem ixO {x:D}(h:ρ[i]? =some (↑l))(hx:atI l k=some x):uIx (aQ i) (uC<|.int k) ρ Q=Q (.pu x) ρ:=by
 simp only[uIx,aQ,bD4,h,uC,gIx,oE,hx,B.d]
theorem qK (ρ:Ev)(Q:List D->Ev->Prop):aI ρ Q=Q [] ρ:=rfl
theorem xK {xs:List Int}(h:Below xs ws)(k:Nat)(j:Int)(hj:(k:Int)=j)(hk:ws[k]? =some w): ∃x,atI (xs.map D.int) j=some (.int x)/\0<=x/\x<w:=by
 have hl:k<xs.length:=by
  rw[h.1];exact(l8.mp hk).1
 subst hj;exact⟨xs[k],dL (by rw[bX,aO hl];rfl),h.2 k _ w (aO hl) hk⟩
def t6:Φ:=λds Q=> ∃c q:Int,ds=[.int c,.int q]/\0<q/\Q (.pu<|.bl true)
def xL:US:=(cE 3<|bL<|a6 (uOp M.gSub (uOp iR (aB 5)<|aB 5)<|uOp iR (uOp iR (aB 4)<|aB 4)<|uOp M.gSub (uIx (aQ 2)<|@6)<|@3)<|a6 (uOp iR @2<|aB 5)<|a6 @1 aI)
def xM:US:=(aW (cE 5<|uOp M.gSub (uIx (aQ 2)<|@5)<|@8) xL)
def xN:US:=(aW (cE 4<|uIx (uV<|dY<|a6 @2<|a6 @3<|a6 @5<|a6 @7<|a6 @11 aI)<|uIx (aQ 2)<|@4) xM)
def qL:US:=(fU (dF<|b30 true false<|aU bU<|a6 (aB 3)<|a6 (aB 7) aI) (eJ<|uC<|.bl false) dG)
def a88:US:=(eJ<|bS9 (uOp (hG false) (aU bU<|a6 (aB 3)<|a6 (uIx (aQ 6)<|@1) aI)<|uIx (aQ 6)<|@0)<|uOp (hG false) (aU bU<|a6 (aB 3)<|a6 (c86 (uV<|uIx (aQ 6)<|@1)<|kD<|@1) aI)<|uIx (aQ 6)<|@0)
def tY:US:=(aW (mK (fS<|aU aJ2<|a6 (aB 3)<|a6 (uIx (aQ 6)<|@1)<|a6 (uIx (aQ 2)<|@7)<|a6 (uIx (aQ 2)<|@8) aI) (dM 7) qL) a88)
def tZ:US:=(aW (cE 6<|aU aT7<|a6 (aB 3) aI) tY)
def u4:US:=(aW (fU (dF<|uOp (sA λi j=>decide (j<i)) (uIx (aQ 2)<|@0)<|@1) xN dG) tZ)
def a89:US:=(aW (fU (dF<|uOp (hG false) (uIx (aQ 2)<|@0)<|@1) (cE 3<|bL<|a6 (uOp M.gSub (uOp kX (uIx (aQ 2)<|@1)<|@401)<|@200)<|a6 (uOp M.gSub (uIx (aQ 2)<|@3)<|@30)<|a6 @1 aI) dG) u4)
def a90:US:=(aW (cE 3<|bL<|a6 (uOp M.gSub (uIx (aQ 2)<|@1)<|@499)<|a6 (uOp M.gSub (uIx (aQ 2)<|@2)<|@499)<|a6 @1 aI) a89)
def yK:US:=(aW (cE 2<|aU qF<|a6 (aB 0)<|a6 (dY<|a6 @4<|a6 @999<|a6 @999<|a6 @61<|a6 @5<|a6 @17<|a6 @7<|a6 @46<|a6 @2 aI)<|a6 (aB 1) aI) a90)
theorem cU9 {A:List cH}(hl:p.length<=1000)(h: ∀T,nX p->Pap p T->Bad T A)(hi:nX p->zT A){Q:B->Prop}(q:Q (.pu<|.bl false)):bU [aX p,lsP A] Q:=
 ⟨p,A,rfl,hl,λ_=>q,λs=>⟨hi s,λT pT=>by rw[bZ (h T s pT).2];exact q⟩⟩
theorem c46 {A:List cH}(hl:p.length<=1000)(h: ¬nX p){Q:B->Prop}(q:Q (.pu<|.bl false)):bU [aX p,lsP A] Q:=⟨p,A,rfl,hl,λ_=>q,λs=>absurd s h⟩
theorem bC5 {A T:List cH}(hl:p.length<=1000)(s:nX p)(pT:Pap p T)(hi:zT A)(e:inO A=inO T){Q:B->Prop}(q:Q (.pu<|.bl true)):bU [aX p,lsP A] Q:=
 ⟨p,A,rfl,hl,λz=>absurd s z,λs=>⟨hi,λS pS=>by rw[pS.uniq s.1 pT,bQ e];exact q⟩⟩
theorem cV0 {A T:List cH}(h:zT T)(p:A.Perm T):zT A/\inO A=inO T:=
 have i:zT A:=⟨by rw[p.length_eq];exact h.len,λe he=>h.pts e (p.mem_iff.mp he),λa ha b hb=>h.one a (p.mem_iff.mp ha) b (p.mem_iff.mp hb)⟩
 ⟨i,(aJ0 i.len h.len).mpr<|p.map _⟩
theorem dI5 {α:Type}(L:List α)(din:α->D)(ρ:Ev)(Pv:List α->Ev->Prop)(h0:Pv [] ρ)
  (hs: ∀l a,a∈L->l.length<L.length-> ∀ρ,Pv l ρ->g (.pu<|din a) ρ λρ2=>tb {E with nx:=Pv (l++[a]),ct:=Pv (l++[a]),bk:=E.nx} ρ2) (hd: ∀ρ,Pv L ρ->E.nx ρ):mK (λρ Q=>Q (L.map din).length (λi=>(L.map din).getD i .non) ρ) g tb E ρ:=aY3 L din ρ (λ_ q=>q) Pv h0 hs hd
section
variable {c b:Int}(hp:cY [c,b,1]){Q:B->Prop}(h:Q (.pu (.bl true))){x0 x1 x4 x5:Option B}{xs:List Int}(bl:Below xs [4,999,999,61,5,17,7,46,2])
include hp h bl
theorem cV1:tZ {Q with} [x0,x1,↑(xs.map .int),~~~.tup [.int c,.int b,.int 1],x4,x5,none,none]:=by
 obtain⟨d7,e7,_⟩:=xK bl 7 7 rfl rfl;obtain⟨d8,e8,_⟩:=xK bl 8 8 rfl rfl;unfold tZ;rw[aP,gK,eB,bS];refine⟨c,b,rfl,hp,?_⟩;have p1: ∀A:List cH,(nX [c,b,1]->zT A/\inO A=inO (vt c b prL))-> ∀Q:B->Prop,Q (.pu<|.bl<|vg c b prL)->bU [aX [c,b,1],lsP A] Q:=λA hA Q q=>by
  by_cases s:nX [c,b,1]
  .rw[(aT9 hp).mpr s]at q;exact bC5 ae s (dT9 hp<|aY9 hp s) (hA s).1 (hA s).2 q
  .rw[a14.mpr λz=>s ((aT9 hp).mp z)]at q
   exact c46 ae s q
 have p2: ∀A r,Bes c b (vt c b prL) A r-> ∀Q:B->Prop,Q (.pu<|.bl false)->bU [aX [c,b,1],lsP A] Q:=λA r hb Q q=>by
  have bad:nX [c,b,1]->Bad (vt c b prL) A:=λs=>dU0 hb ((dT9 hp<|aY9 hp s).ok s) λe he=>by
   obtain⟨q,hq,rfl⟩:=cD.mp he;have:=(eS.mp hq).2;rw[bK9 hp<|aY9 hp s]at this;exact fZ this
  exact cU9 ae (λT s pT=>by rw[pT.uniq hp<|dT9 hp<|aY9 hp s];exact bad s) (λs=>(bad s).1) q
 have ok:nX [c,b,1]->zT (vt c b prL):=λs=>((dT9 hp<|aY9 hp s).ok s).inn
 have l46:(vt c b prL).length<=46:=aN dI0 (by rw[aC2];decide)
 generalize vg c b prL=g at p1⊢;generalize vt c b prL=T at p1 p2 ok l46⊢;show tY _ [x0,x1,↑(xs.map .int),~~~.tup [.int c,.int b,.int 1],x4,x5,↑[.bl g,lsP T],none];unfold tY;rw[aP];have e9:atI [D.bl g,lsP T] 1=some (lsP T):=a1
 have ui: ∀(Q':Nat->(Nat->D)->Ev->Prop),(∀BB:List (List cH),(∀A∈BB,∃r,Bes c b T A r)->BB.length<=2->Q' (BB.map lsP).length (λi=>(BB.map lsP).getD i .non) [x0,x1,↑(xs.map .int),~~~.tup [.int c,.int b,.int 1],x4,x5,↑[.bl g,lsP T],none])->fS (aU aJ2<|a6 (aB 3)<|a6 (uIx (aQ 6)<|@1)<|a6 (uIx (aQ 2)<|@7)<|a6 (uIx (aQ 2)<|@8) aI) [x0,x1,↑(xs.map .int),~~~.tup [.int c,.int b,.int 1],x4,x5,↑[.bl g,lsP T],none] Q':=λQ' q=>by
  unfold fS;rw[eB,bS,nO rfl,bS,ixO rfl e9,bS,ixO rfl e7,bS,ixO rfl e8];exact⟨c,b,T,d7,d8,rfl,hp,l46,q⟩
 refine ui _ λBB hB hl=>dI5 BB lsP [x0,x1,↑(xs.map .int),~~~.tup [.int c,.int b,.int 1],x4,x5,↑[.bl g,lsP T],none] (λ_ ρ=> ∃s,ρ=[x0,x1,↑(xs.map .int),~~~.tup [.int c,.int b,.int 1],x4,x5,↑[.bl g,lsP T],s]) ⟨_,rfl⟩ ?_ ?_
 .rintro l A hA _ ρ ⟨s,rfl⟩;refine⟨ae,?_⟩
  obtain⟨r,hr⟩:=hB A hA;show qL _ [x0,x1,↑(xs.map .int),~~~.tup [.int c,.int b,.int 1],x4,x5,↑[.bl g,lsP T],~~~lsP A];unfold qL;left;exact p2 A r hr _ ⟨_,rfl⟩
 .rintro ρ ⟨s,rfl⟩;right;unfold a88;rw[kK,bW4,kF,eB,bS,nO rfl,bS,ixO rfl e9,qK];refine p1 T (λs=>⟨ok s,rfl⟩) _ ?_
  rw[ixO rfl a0];have rv:lsP T.reverse= .lst (T.map elP).reverse:=by unfold lsP;rw[aR2]
  have q1:=p1 T.reverse λs=>cV0 (ok s) (aQ5 T)
  rw[rv]at q1;left;rw[e9,a0];refine⟨trivial,q1 _ ?_⟩;right;rw[bQ rfl];exact h
end
theorem rp3 (hc:c.natAbs<=499)(hb:b.natAbs<=499):cY [c,b,1]:=dF0 hc hb
theorem dU1 (h0:0<=k)(h1:k<5): ∃p:Int,atI [D.int 2,.int 3,.int 5,.int 7,.int 11] k=some (.int p)/\2<=p/\p<=11:=by
 obtain⟨z,hz,e⟩:=atI_in (ns:=[2,3,5,7,11]) h0 h1;exact⟨z,e,(by decide: ∀z∈[(2:Int),3,5,7,11],2<=z/\z<=11) z hz⟩
theorem own_sq {p d:Int}(s8:s.natAbs<=8)(p1:2<=p/\p<=11)(d3:d.natAbs<=3):(s*s-p*p*d).natAbs<=499/\(2*s).natAbs<=499:=by
 have a:(s*s).natAbs<=8*8:=by rw[eC];exact eV s8 s8
 have b:(p*p*d).natAbs<=11*11*3:=by rw[eC,eC];exact eV (eV aa aa) d3
 exact⟨aa,aa⟩
theorem bP7: Ra t6 yK ["c","q","d","f","p","s","u","b"]:=by
 rintro ds Q ⟨c,q,rfl,hq,h⟩;unfold yK;show(aW _ _:US) _ [!c,!q,none,none,none,none,none,none];rw[aP];left;refine⟨ac,c,[4,999,999,61,5,17,7,46,2],q,rfl,ac,hq,ac,λxs bl=> ?_⟩
 obtain⟨d0,e0,_⟩:=xK bl 0 0 rfl rfl;obtain⟨d1,e1,_⟩:=xK bl 1 1 rfl rfl;obtain⟨d2,e2,_⟩:=xK bl 2 2 rfl rfl;obtain⟨d3,e3,_⟩:=xK bl 3 3 rfl rfl;obtain⟨d4,e4,l4,h4⟩:=xK bl 4 4 rfl rfl;obtain⟨d5,e5,_⟩:=xK bl 5 5 rfl rfl;obtain⟨d6,e6,_⟩:=xK bl 6 6 rfl rfl
 have go: ∀u v:Int,cY [u,v,1]->u4 {Q with} [!c,!q,↑(xs.map .int),~~~.tup [.int u,.int v,.int 1],none,none,none,none]:=λu v hp=>by
  unfold u4;rw[aP,sX,sW,kF,ixO rfl e0];left
  by_cases z:(1:Int)<d0
  .rw[a8 z];unfold xN;rw[aP];left;obtain⟨p,ep,hp'⟩:=dU1 l4 h4;rw[e4];right;rw[ep];refine⟨ac,?_⟩
   right;unfold xM;rw[aP,gK,kF,ixO rfl e5];left;unfold xL;left;rw[e6];right;obtain⟨g1,g2⟩:=own_sq (s:=d5-8) (d:=d6-3) aa hp' aa
   refine⟨cmL aa aa,cmL aa aa,?_,cmL ac ac,ac,cV1 (rp3 g1 g2) h bl⟩
   exact cmR aa aa
  .rw[a7 z];exact cV1 hp h bl
 unfold a90;rw[aP];left;rw[e1,e2];right;refine⟨ac,?_⟩
 unfold a89;rw[aP,sX,sW,kF,ixO rfl e0];left
 by_cases z:d0=1
 .rw[a8 z,e1,e3];right;refine⟨ac,ac,?_⟩
  rw[dZ _ ac]
  exact go _ _ (rp3 aa aa)
 .rw[a7 z];exact go _ _ (rp3 aa aa)
def bL0:US:=(cE 1<|bU8 ["poly","degree","measure"] lN<|a6 (uIx (uV<|uOp fH (aB 3)<|dY<|a6 (bL<|a6 (kD<|@2)<|a6 @0<|a6 @0<|a6 @0<|a6 @1 aI)<|a6 (bL<|a6 (kD<|@6)<|a6 @0<|a6 @0<|a6 @1 aI) aI)<|uIx (aQ 2)<|@1) aI)
def bL1:US:=(aW (cE 3<|dY<|a6 (bL<|a6 (kD<|@2)<|a6 @0<|a6 @0<|a6 @1 aI)<|a6 (bL<|a6 @1<|a6 @0<|a6 @0<|a6 @0<|a6 @1 aI)<|a6 (bL<|a6 @5<|a6 @0<|a6 @1 aI)<|a6 (bL<|a6 @1<|a6 @0<|a6 (kD<|@1)<|a6 @0<|a6 @1 aI)<|a6 (bL<|a6 (kD<|@10)<|a6 @0<|a6 @1 aI)<|a6 (bL<|a6 (kD<|@3)<|a6 @0<|a6 @1 aI) aI) bL0)
def aU0:US:=(fU (dF<|b30 true false<|aU bU<|a6 (aS4 "poly"<|aB 1)<|a6 (aB 7) aI) (eJ<|uC<|.bl false) dG)
def aF2:US:=(fU (uOr (dF<|b30 true false<|aU bU<|a6 (aB 8)<|a6 (aB 4) aI)<|dF<|b30 true false<|aU bU<|a6 (aB 8)<|a6 (dY aI) aI) (eJ<|uC<|.bl false) dG)
def aF3:US:=(fU (dF<|b30 true false<|aU bU<|a6 (aB 8)<|a6 (aB 7) aI) (eJ<|uC<|.bl false) dG)
def aJ3:US:=(eJ<|b30 false true<|aU bU<|a6 (aS4 "poly"<|aB 1)<|a6 (aB 4) aI)
def b53:US:=(aW (mK (fS<|dY<|a6 (bL<|a6 (bL<|a6 @0<|a6 @1<|a6 @1 aI)<|a6 (dY aI) aI)<|a6 (bL<|a6 (bL<|a6 @1<|a6 @499<|a6 @1 aI)<|a6 (dY aI) aI)<|a6 (bL<|a6 (bL<|a6 @3<|a6 @0<|a6 @1 aI)<|a6 (dY<|a6 (bL<|a6 @2<|a6 (dY<|a6 (bL<|a6 (bL<|a6 @1<|a6 @1 aI)<|a6 @2<|a6 (bL<|a6 @4 aI) aI) aI) aI) aI) aI) aI) (pP<|eH 8<|eH 7 pO) aF3) aJ3)
def aJ4:US:=(aW (fU (uOr (bY5<|dF<|aU t6<|a6 (aU a50<|a6 (aB 0)<|a6 @4 aI)<|a6 @999999893 aI)<|bY5<|dF<|aU t6<|a6 (aU a50<|a6 (aB 0)<|a6 @5 aI)<|a6 @999999883 aI) (eJ<|uC<|.bl false) dG) b53)
def aJ5:US:=(aW (mK (fS<|dY<|a6 (bL<|a6 @3<|a6 @0<|a6 @1 aI)<|a6 (bL<|a6 (kD<|@1)<|a6 @0<|a6 @1 aI)<|a6 (bL<|a6 @4<|a6 @0<|a6 @0<|a6 @0<|a6 @1 aI)<|a6 (bL<|a6 @499<|a6 @498<|a6 @497<|a6 @0<|a6 @1 aI)<|a6 (bL<|a6 @1<|a6 @1 aI)<|a6 (uOp fH (uSl (uV<|aS4 "poly"<|aB 1) fV<|jB<|@2)<|bL<|a6 @2 aI)<|a6 (bL aI) aI) (dM 8) aF2) aJ4)
def aZ0:US:=(aW (mK (fS<|uOp fH (aU aJ1<|a6 (aB 4)<|a6 (uIx (aQ 2)<|@3)<|a6 (uIx (aQ 2)<|@4) aI)<|dY<|a6 (uOp fH (aB 4)<|dY<|a6 (bL<|a6 @211<|a6 (dY aI) aI) aI)<|a6 (uOp fH (aB 4)<|dY<|a6 (bL<|a6 @4<|a6 (dY<|a6 (bL<|a6 (bL<|a6 @0<|a6 @1 aI)<|a6 @2<|a6 (bL<|a6 @2 aI) aI) aI) aI) aI) aI) (dM 7) aU0) aJ5)
def aZ1:US:=(aW (fU (dF<|uOp (hG true) (aU bU<|a6 (aS4 "poly"<|aB 1)<|a6 (dY aI) aI)<|uOp (hG false) (kE<|aQ 4)<|@0) (eJ<|uC<|.bl false) dG) aZ0)
def aZ2:US:=(aW (fU (uOr (dF<|b30 true true<|aU bU<|a6 (aS4 "poly"<|aB 1)<|a6 (aB 5) aI)<|uOr (dF<|uOp (cK3 true) (aB 5)<|aB 6)<|dF<|b30 true true<|aU bU<|a6 (aS4 "poly"<|aB 1)<|a6 (aB 4) aI) (eJ<|uC<|.bl false) dG) aZ1)
def aZ3:US:=(aW (cE 6<|gD [] [none,none,none] 2 (fS<|aB 5) (pP<|eH 0<|eH 1 pO) (λρ Q=>Q true ρ)<|bL<|a6 (aB 0)<|a6 (aU aI1<|a6 (aB 1) aI) aI) aZ2)
def bL2:US:=(aW (fU (dF<|uOp (hG false) (uIx (aQ 2)<|@2)<|@1) (cE 5<|c86 (aQ 5)<|kD<|@1) dG) aZ3)
def aZ4:US:=(aW (cE 5<|gD [] [none,none,none] 2 (fS<|aB 4) (pP<|eH 0<|eH 1 pO) (λρ Q=>Q true ρ)<|bL<|a6 (aB 0)<|a6 (c86 (aQ 1)<|kD<|@1) aI) bL2)
def aZ5:US:=(aW (cE 4<|aU xJ<|a6 (aB 1) aI) aZ4)
def aZ6:US:=(aW (fU (dF<|uOp (hG false) (uIx (aQ 2)<|@0)<|@1) bL1 dG) aZ5)
def bL3:US:=(aW (cE 2<|aU qF<|a6 (aU a50<|a6 (aB 0)<|a6 @3 aI)<|a6 (dY<|a6 @2<|a6 @8<|a6 @2<|a6 @46<|a6 @12 aI)<|a6 @999999929 aI) aZ6)
def c47:US:=(aW (cE 1<|aU c28<|a6 (aB 0)<|a6 @0<|a6 @999999937 aI) bL3)
def d21:List (List Int×List cH):=[([0,1,1],[]),([1,499,1],[]),([3,0,1],[(2,[([1,1],2,[4])])])]
theorem dU2: ∀x∈d21,¬nX x.1:=by
 have e1:vg 0 1 prL=false:=af
 have e2:vg 1 499 prL=false:=af
 have e3:vg 3 0 prL=false:=af
 intro x hx;unfold d21 at hx;simp only[aT,eR,eW]at hx;rcases hx with rfl|rfl|rfl
 .exact λs=>by rw[(aT9 s.1).mpr s]at e1;cases e1
 .exact λs=>by rw[(aT9 s.1).mpr s]at e2;cases e2
 .exact λs=>by rw[(aT9 s.1).mpr s]at e3;cases e3
theorem dU3 (q:Q' (d21.map λx=>D.tup [aX x.1,lsP x.2]).length (λi=>(d21.map λx=>D.tup [aX x.1,lsP x.2]).getD i .non) ρ):fS (dY<|a6 (bL<|a6 (bL<|a6 @0<|a6 @1<|a6 @1 aI)<|a6 (dY aI) aI)<|a6 (bL<|a6 (bL<|a6 @1<|a6 @499<|a6 @1 aI)<|a6 (dY aI) aI)<|a6 (bL<|a6 (bL<|a6 @3<|a6 @0<|a6 @1 aI)<|a6 (dY<|a6 (bL<|a6 @2<|a6 (dY<|a6 (bL<|a6 (bL<|a6 @1<|a6 @1 aI)<|a6 @2<|a6 (bL<|a6 @4 aI) aI) aI) aI) aI) aI) aI) ρ Q':=by
 left
 exact⟨ac,ac,ac,ac,ac,ac,ac,ac,ac,ac,ac,ac,ac,ac,ac,q⟩
set_option maxHeartbeats 40000 in
theorem cE5 {φt φc:Φ}{A Bt:US}{d:D}{k1 k2 m1 m2:Int}(h0:ρ[0]? =some (~~~d))(c1: ∀k∈[k1,k2],∀Q':B->Prop,(∀c,Q'<|.pu<|.int c)->φc [d,.int k] Q')(t1: ∀c,∀q∈[m1,m2],∀Q':B->Prop,Q' (.pu<|.bl true)->φt [.int c,.int q] Q')(n:Bt E ρ) :
  aW (fU (uOr (bY5<|dF<|aU φt<|a6 (aU φc<|a6 (aB 0)<|a6 (uC<|.int k1) aI)<|a6 (uC<|.int m1) aI)<|bY5<|dF<|aU φt<|a6 (aU φc<|a6 (aB 0)<|a6 (uC<|.int k2) aI)<|a6 (uC<|.int m2) aI) A dG) Bt E ρ:=by
 simp only[aW,fU,uOr,bY5,dF,aU,a6,aB,aL0,h0,uC,aI];refine c1 k1 ae _ λc=>t1 _ m1 ae _ ?_
 simp only[isB,h0];rw[a7 ac]
 refine c1 k2 ae _ λc=>t1 _ m2 ae _ ?_
 simp only[isB];rw[a7 ac]
 exact n
section
variable {p:List Int}{T:List cH}(sd:nX p)(pT:Pap p T){ns:List Int}(hl:ns.length<=63){Q:B->Prop}(h:Q (.pu (.bl true)))(C:Addr)(xs:List Int)(x3 x5 x6 x7 x8:Option B)
include sd pT hl h
noncomputable abbrev fr (p:List Int)(T:List cH)(ns xs:List Int)(C:Addr)(x3 x5 x6 x7 x8:Option B):Ev:=[~~~.rol (ns.map .int),~~~qX C p,↑(xs.map .int),x3,~~~lsP T,x5,x6,x7,x8]
theorem law13:aJ3 {Q with} (fr p T ns xs C x3 x5 x6 x7 x8):=by
 have ok:=pT.ok sd;unfold aJ3;rw[kK];show aU _ _ _ _;rw[eB,bS,sG (C:=C) (p:=p) rfl,bS,nO rfl,qK];exact bC5 (by have:=sd.1.ok.hi;omega) sd pT ok.inn rfl h
theorem law12:b53 {Q with} (fr p T ns xs C x3 x5 x6 x7 x8):=by
 have n:=law13 sd pT hl h C xs x3 x5 x6;unfold b53;generalize aJ3=Tl at n⊢;rw[aP];refine aY3 d21 (λx=> .tup [aX x.1,lsP x.2]) (fr p T ns xs C x3 x5 x6 x7 x8) (λQ' q=>dU3 q) (λ_ ρ=> ∃x7 x8,ρ=fr p T ns xs C x3 x5 x6 x7 x8) ⟨_,_,rfl⟩ ?_ ?_
 .rintro l ⟨u,A⟩ hA _ ρ ⟨x7,x8,rfl⟩;refine⟨ae,ae,rfl,?_⟩
  show aF3 _ (fr p T ns xs C x3 x5 x6 (~~~lsP A)<|~~~aX u)
  unfold aF3;left;have u5:u.length<=1000:=(by decide: ∀x∈d21,x.1.length<=1000) _ hA
  exact c46 u5 (dU2 _ hA) ⟨_,_,rfl⟩
 .rintro ρ ⟨x7,x8,rfl⟩;exact n _ _
set_option maxHeartbeats 40000 in
theorem law11:aJ4 {Q with} (fr p T ns xs C x3 x5 x6 x7 x8):=by
 have n:=law12 sd pT hl h C xs x3 x5 x6 x7 x8;unfold aJ4;refine cE5 (d:= .rol (ns.map .int)) rfl (λk hk Q' q=>⟨ns,k,rfl,hl,?_,?_,q⟩) (λc q hq Q' q'=>⟨c,q,rfl,?_,q'⟩) n
 .exact(by decide: ∀k∈[(4:Int),5],0<=k) k hk
 .exact(by decide: ∀k∈[(4:Int),5],k<4294967296) k hk
 .exact(by decide: ∀k∈[(999999893:Int),999999883],0<k) q hq
def cN7 (p:List Int):List (List Int):=[[3,0,1],[-1,0,1],[4,0,0,0,1],[499,498,497,0,1],[1,1],p.take 2++[2],[]]
omit sd pT hl h in
theorem dU4 {p:List Int}(rp:cY p): ∀x∈cN7 p,¬nX x/\x.length<=1000:=by
 have e1:vg 3 0 prL=false:=af
 have e2:vg (-1) 0 prL=false:=af
 have e3:39999< (fW 4<|dJ [499,498,497,0,1]).natAbs:=af
 intro x hx;unfold cN7 at hx;simp only[aT,eR,eW]at hx;rcases hx with rfl|rfl|rfl|rfl|rfl|rfl|rfl
 .exact⟨λsd=>(by rw[(aT9 sd.1).mpr sd]at e1;cases e1),ac⟩
 .exact⟨λsd=>(by rw[(aT9 sd.1).mpr sd]at e2;cases e2),ac⟩
 .exact⟨λsd=>sd.2.irr (.inr ⟨2,2,2,-2,rfl⟩),ac⟩
 .exact⟨λsd=>absurd sd.2.meas aa,ac⟩
 .exact⟨λsd=>absurd sd.1.ok.lo ac,ac⟩
 .refine⟨λsd=> ?_,by simp;omega⟩
  obtain⟨q,e⟩:=sd.1.one;have:=bO List.getLast? e;simp at this
 .exact⟨λsd=>absurd sd.1.ok.lo ac,ac⟩
omit sd pT hl h in
theorem dU5 (h1:ρ[1]? =some (~~~qX C p))(rp:cY p)(q:Q' ((cN7 p).map aX).length (λi=>((cN7 p).map aX).getD i .non) ρ):fS (dY<|a6 (bL<|a6 @3<|a6 @0<|a6 @1 aI)<|a6 (bL<|a6 (kD<|@1)<|a6 @0<|a6 @1 aI)<|a6 (bL<|a6 @4<|a6 @0<|a6 @0<|a6 @0<|a6 @1 aI)<|a6 (bL<|a6 @499<|a6 @498<|a6 @497<|a6 @0<|a6 @1 aI)<|a6 (bL<|a6 @1<|a6 @1 aI)<|a6 (uOp fH (uSl (uV<|aS4 "poly"<|aB 1) fV<|jB<|@2)<|bL<|a6 @2 aI)<|a6 (bL aI) aI) ρ Q':=by
 have lo:=rp.ok.lo;have hi:=rp.ok.hi;have e1: ∀Q:B->Ev->Prop,aS4 "poly" (aB 1) ρ Q=Q (.pu<|aX p) ρ:=λQ=>sG h1
 left
 rw[e1];dsimp only[aX];have e2:cutD (p.map D.int) none (some 2)=(p.take 2).map D.int:=by rw[show(2:Int)=((2:Nat):Int)from rfl,aS5 _ _ (by simp;omega),jZ]
 have e3:(cN7 p).map aX=[.tup [.int 3,.int 0,.int 1],.tup [.int<|-1,.int 0,.int 1],.tup [.int 4,.int 0,.int 0,.int 0,.int 1],.tup [.int 499,.int 498,.int 497,.int 0,.int 1],.tup [.int 1,.int 1],.tup<|(p.take 2).map D.int++[D.int 2],.tup []]:=by simp[cN7,aX]
 rw[e3]at q;rw[e2];refine⟨ac,ac,ac,ac,ac,λz=> ?_,ac,sz (by simp;omega),ac,ac,q⟩
 have z2:=z.2;rw[show(some (2:Int))=some ((2:Nat):Int)from rfl,HT.sIx_nat,aF]at z2
 omega
theorem law10:aJ5 {Q with} (fr p T ns xs C x3 x5 x6 x7 x8):=by
 have n:=law11 sd pT hl h C xs x3 x5 x6 x7;unfold aJ5;generalize aJ4=Tl at n⊢;rw[aP];refine aY3 (cN7 p) aX (fr p T ns xs C x3 x5 x6 x7 x8) (λQ' q=>dU5 C rfl sd.1 q) (λ_ ρ=> ∃x8,ρ=fr p T ns xs C x3 x5 x6 x7 x8) ⟨_,rfl⟩ ?_ ?_
 .rintro l u hu _ ρ ⟨x8,rfl⟩;obtain⟨no,u5⟩:=dU4 sd.1 u hu;refine⟨ae,?_⟩
  show aF2 _ (fr p T ns xs C x3 x5 x6 x7<|~~~aX u)
  unfold aF2;left;refine c46 u5 no ?_;refine⟨ac,c46 (A:=[]) u5 no ⟨_,rfl⟩⟩
 .rintro ρ ⟨x8,rfl⟩;exact n _
omit sd pT hl h in
theorem sp_ui (h4:ρ[4]? =some (~~~lsP T))(h2:ρ[2]? =some (↑(xs.map .int)))(ok:aY4 T)(bl:Below xs [2,8,2,46,12])(q: ∀BB:List (List cH),(∀A∈BB,Bad T A)->Q' (BB.map lsP).length (λi=>(BB.map lsP).getD i .non) ρ):fS (uOp fH (aU aJ1<|a6 (aB 4)<|a6 (uIx (aQ 2)<|@3)<|a6 (uIx (aQ 2)<|@4) aI)<|dY<|a6 (uOp fH (aB 4)<|dY<|a6 (bL<|a6 @211<|a6 (dY aI) aI) aI)<|a6 (uOp fH (aB 4)<|dY<|a6 (bL<|a6 @4<|a6 (dY<|a6 (bL<|a6 (bL<|a6 @0<|a6 @1 aI)<|a6 @2<|a6 (bL<|a6 @2 aI) aI) aI) aI) aI) aI) ρ Q':=by
 obtain⟨d3,e3,_⟩:=xK bl 3 3 rfl rfl;obtain⟨d4,e4,_⟩:=xK bl 4 4 rfl rfl;have l:=ok.len;unfold fS;rw[kF,eB,bS,nO h4,bS,ixO h2 e3,bS,ixO h2 e4,qK];refine⟨T,d3,d4,rfl,ok,λBB hB hl=> ?_⟩
 have v4: ∀Q:B->Ev->Prop,aB 4 ρ Q=Q (.pu<|lsP T) ρ:=λQ=>nO h4
 have n2:(211:Int) ∉ prL/\(4:Int) ∉ prL:=af
 simp only[c43,bS,kF,c42,c44,qK,v4,fH,B.d,oE];have e5:BB.map lsP++[.lst<|T.map elP++[.tup [.int 211,.lst []]],.lst<|T.map elP++[.tup [.int 4,.lst [.tup [.tup [.int 0,.int 1],.int 2,.tup [.int 2]]]]]]=(BB++[T++[(211,[])],T++[(4,[([0,1],2,[2])])]]).map lsP:=by simp[lsP,elP,el3,aX]
 rw[e5];refine⟨ac,ac,ac,sz (by simp;omega),ac,ac,ac,ac,ac,ac,sz (by simp;omega),sz ae,sz (by simp;omega),q _ λA hA=> ?_⟩
 rcases bG.mp hA with hA|hA
 .exact hB A hA
 .simp only[aT,eR,eW]at hA;rcases hA with rfl|rfl
  .exact cU4 ok n2.1 ae
  .exact cU4 ok n2.2 ae
theorem law9 (bl:Below xs [2,8,2,46,12]):aZ0 {Q with} (fr p T ns xs C x3 x5 x6 x7 x8):=by
 have n:=law10 sd pT hl h C xs x3 x5 x6;have hi:=sd.1.ok.hi;unfold aZ0;generalize aJ5=Tl at n⊢;rw[aP];refine sp_ui xs rfl rfl (pT.ok sd) bl λBB hB=>dI5 BB lsP (fr p T ns xs C x3 x5 x6 x7 x8) (λ_ ρ=> ∃x7,ρ=fr p T ns xs C x3 x5 x6 x7 x8) ⟨_,rfl⟩ ?_ ?_
 .rintro l A hA _ ρ ⟨x7,rfl⟩;refine⟨ae,?_⟩
  have bad:=hB A hA;show aU0 _ (fr p T ns xs C x3 x5 x6 (~~~lsP A) x8);unfold aU0;rw[sX,sW];show aU _ _ _ _;rw[eB,bS,sG (C:=C) (p:=p) rfl,bS,nO rfl,qK];exact cU9 aa (λS _ pS=>by rw[pS.uniq sd.1 pT];exact bad) (λ_=>bad.1) ⟨_,rfl⟩
 .rintro ρ ⟨x7,rfl⟩;exact n _ _
theorem law8 (bl:Below xs [2,8,2,46,12]):aZ1 {Q with} (fr p T ns xs C x3 x5 x6 x7 x8):=by
 have n:=law9 sd pT hl h C xs x3 x5 x6 x7 x8 bl;have hi:=sd.1.ok.hi;have ok:=pT.ok sd;unfold aZ1;generalize aZ0=Tl at n⊢;rw[aP,sX,sW,kF,eB,bS,sG (C:=C) (p:=p) rfl,bS,c43,qK,qK];have e0:zT []:=⟨ae,λe he=>(by cases he),λe he=>(by cases he)⟩
 have e1:inO []=inO T↔(T.length:Int)=0:=by
  rw[aJ0 e0.len ok.inn.len];constructor
  .intro p;have:=p.length_eq;rw[aF,aF]at this;have:0=T.length:=this;omega
  .intro z;have:T=[]:=oP.mp aa
   rw[this]
 refine⟨ac,p,[],rfl,aa,λz=>absurd sd z,λ_=>⟨e0,λS pS=> ?_⟩⟩
 rw[pS.uniq sd.1 pT];left;rw[aF,decide_eq_decide.mpr e1,a7 λz=>z rfl]
 exact n
omit sd pT hl h in
theorem cV2 (t u:UT)(ρ:Ev)(Q:Bool->Ev->Prop):uOr t u ρ Q=t ρ λc ρ1=>if c=true then Q true ρ1 else u ρ1 Q:=rfl
omit sd pT hl h in
theorem dY7 {K:Bool->Ev->Prop}(h:K false ρ):(match(B.pu<|D.bl true).d with| .bl k=>isB K (.pu<|.bl<|true ^^ (k==true)) ρ|_=>False):=h
omit sd pT hl h in
theorem isB_f {K:Bool->Ev->Prop}(h:K false ρ):isB K (.pu<|.bl<|true ^^ true) ρ:=h
omit sd pT hl h in
theorem cE6 (n c:Bool)(t:UE)(ρ:Ev)(Q:B->Ev->Prop):b30 n c t ρ Q=t ρ λb ρ1=>match b.d with| .bl k=>Q (.pu<|.bl<|n ^^ (k==c)) ρ1|_=>False:=rfl
theorem law7 (bl:Below xs [2,8,2,46,12]){M:List cH}(iM:zT M)(eM:inO M=inO T):aZ2 {Q with} (fr p T ns xs C x3 (~~~lsP M) (↑(M.map elP)) x7 x8):=by
 have n:=law8 sd pT hl h C xs x3 (~~~lsP M) (~~~lsP M) x7 x8 bl;have hi:=sd.1.ok.hi;have ok:=pT.ok sd;unfold aZ2;generalize aZ1=Tl at n⊢;rw[aP,sX,cV2,sW,cE6,eB,bS,sG (C:=C) (p:=p) rfl,bS,nO rfl,qK];refine bC5 aa sd pT iM eM (dY7 ?_)
 right;rw[a7 ac,cV2,sW,kF,nO rfl,cS7 rfl]
 refine dG9 ?_
 rw[bQ rfl];refine isB_f ?_;rw[a7 ac,sW,cE6,eB,bS,sG (C:=C) (p:=p) rfl,bS,nO rfl,qK]
 refine bC5 aa sd pT ok.inn rfl (dY7 ?_)
 rw[a7 ac]
 exact n
theorem law6 (bl:Below xs [2,8,2,46,12]){M:List cH}(iM:zT M)(eM:inO M=inO T):aZ3 {Q with} (fr p T ns xs C x3 (↑(M.map elP)) x6 x7 x8):=by
 have n:=law7 sd pT hl h C xs x3 x7 x8 bl iM eM;have l:=iM.len;unfold aZ3;generalize aZ2=Tl at n⊢;rw[aP,gK];refine b50 M (λe=> .int e.1) (λe=> .lst (e.2.map el3)) elP (fr p T ns xs C x3 (~~~lsP M) x6 x7 x8) (λQ' q=>q) aa (λe he l Q' q=> ?_) n
 left
 exact⟨ac,q _ rfl⟩
theorem law4 (bl:Below xs [2,8,2,46,12]):aZ4 {Q with} [~~~.rol (ns.map .int),~~~qX C p,↑(xs.map .int),x3,↑(T.map elP),x5,x6,x7,x8]:=by
 have ok:=pT.ok sd;have l:=ok.len;obtain⟨d2,e2,_⟩:=xK bl 2 2 rfl rfl;have i0:zT (T.map λe=>(e.1,e.2.reverse)):=⟨by rw[aF];omega,λe he=>by
  obtain⟨x,hx,rfl⟩:=cD.mp he;have:=(ok.pts x hx).2.1;right;rw[a08];omega,λa ha b hb e=>by
  obtain⟨x,hx,rfl⟩:=cD.mp ha;obtain⟨y,hy,rfl⟩:=cD.mp hb;exact bO List.reverse (ok.one x hx y hy e)⟩
 have e0:inO (T.map λe=>(e.1,e.2.reverse))=inO T:=by
  unfold inO;rw[dW];refine bO srtP (iI λx hx=> ?_)
  have:=(ok.pts x hx).2.1;show(x.1,b48 x.2.reverse)=(x.1,b48 x.2);rw[(cD9 (by rw[a08];omega) aa).mpr<|aQ5 x.2]
 have n:=λM iM eM=>law6 sd pT hl h C xs x3 x6 x7 x8 bl (M:=M) iM eM
 unfold aZ4;rw[aP,gK];refine b50 T (λe=> .int e.1) (λe=> .lst (e.2.map el3)) (λe=>elP (e.1,e.2.reverse)) (fr p T ns xs C x3 x5 x6 x7 x8) (λQ' q=>q) aa (λe he l Q' q=> ?_) ?_
 .left
  refine⟨trivial,ac,q _ ?_⟩
  show D.tup [.int e.1,.lst (e.2.map el3).reverse]= .tup [.int e.1,.lst<|e.2.reverse.map el3]
  rw[aR2]
 .have e3:T.map (λe=>elP (e.1,e.2.reverse))=(T.map λe=>(e.1,e.2.reverse)).map elP:=by rw[dW];rfl
  rw[e3];generalize (T.map λe=>(e.1,e.2.reverse))=M at i0 e0
  show bL2 _ (fr p T ns xs C x3 (↑(M.map elP)) x6 x7 x8)
  unfold bL2;generalize aZ3=Tl at n⊢;rw[aP,sX,sW,kF,ixO rfl e2];obtain⟨r1,r2⟩:=cV0 i0 (aQ5 M);have n1:=n M i0 e0;have n2:=n M.reverse r1 (r2.trans e0);rw[aR2]at n2;rw[c44];simp only[hG,isB,B.d,j9,cR]
  by_cases z:d2=1
  .rw[a8 z];exact⟨rfl,n2⟩
  .rw[a7 z];exact n1
end
theorem law3 (s:nX p)(hl:ns.length<=63){Q:B->Prop}(h:Q (.pu<|.bl true))(C:Addr)(xs:List Int)(x3:Option B)(bl:Below xs [2,8,2,46,12]):aZ5 {Q with} [~~~.rol (ns.map .int),~~~qX C p,↑(xs.map .int),x3,none,none,none,none,none]:=by
 have n:=λT pT=>law4 (T:=T) s pT hl h C xs x3 none none none none bl
 unfold aZ5;generalize aZ4=Tl at n⊢;rw[aP,gK,eB,bS,nO rfl,qK];exact⟨C,p,rfl,s.1,λT pT=>n T pT⟩
def c48:List (List Int):=[[-2,0,0,1],[1,0,0,0,1],[5,0,1],[1,0,-1,0,1],[-10,0,1],[-3,0,1],[-2,0,0,0,1],[-6,0,0,1]]
theorem eig_at (h0:0<=k)(h1:k<8): ∃p∈tW,atI (c48.map aX) k=some (aX p):=by
 obtain⟨i,rfl⟩: ∃i:Nat,k=(i:Int):=⟨k.toNat,ad⟩
 have hi:i<c48.length:=show i<8 by lia
 exact⟨c48[i],(by decide +kernel: ∀p∈c48,p∈tW) _<|bY hi,dL (by rw[bX,aO hi];rfl)⟩
theorem dU6 (ρ:Ev)(Q':B->Ev->Prop)(q:Q' (.ow<|(c48.take 6).map aX) ρ):(dY<|a6 (bL<|a6 (kD<|@2)<|a6 @0<|a6 @0<|a6 @1 aI)<|a6 (bL<|a6 @1<|a6 @0<|a6 @0<|a6 @0<|a6 @1 aI)<|a6 (bL<|a6 @5<|a6 @0<|a6 @1 aI)<|a6 (bL<|a6 @1<|a6 @0<|a6 (kD<|@1)<|a6 @0<|a6 @1 aI)<|a6 (bL<|a6 (kD<|@10)<|a6 @0<|a6 @1 aI)<|a6 (bL<|a6 (kD<|@3)<|a6 @0<|a6 @1 aI) aI) ρ Q':=by
 left
 exact⟨ac,ac,ac,ac,ac,ac,ac,q⟩
theorem dU7 (ρ:Ev)(Q':B->Ev->Prop)(q:Q' (.ow<|(c48.drop 6).map aX) ρ):(dY<|a6 (bL<|a6 (kD<|@2)<|a6 @0<|a6 @0<|a6 @0<|a6 @1 aI)<|a6 (bL<|a6 (kD<|@6)<|a6 @0<|a6 @0<|a6 @1 aI) aI) ρ Q':=by
 left
 exact⟨ac,ac,ac,q⟩
theorem pick {tl t2 ti:UE}{l6 l2:List D}{u:List Int}(h6: ∀Q':B->Ev->Prop,Q' (.ow l6) ρ->tl ρ Q')(h2: ∀(ρ:Ev) (Q':B->Ev->Prop),Q' (.ow l2) ρ->t2 ρ Q')(hi: ∀ρ':Ev,ρ'[2]? =ρ[2]? -> ∀Q':B->Ev->Prop,Q' (.pu<|.int k) ρ'->ti ρ' Q')(len:3<ρ.length)(e:atI (l6++l2) k=some (aX u))(hs:l6.length+l2.length<=sizeLine)(hu:u∈tW)(go: ∀C,nX u->E.nx ((ρ.set 3<|~~~.lst l6).set 1<|~~~qX C u)) :
  aW (cE 3 tl) (cE 1<|bU8 ["poly","degree","measure"] lN<|a6 (uIx (uV<|uOp fH (aB 3) t2) ti) aI) E ρ:=by
 rw[aP,gK];refine h6 _ ?_;right;rw[gK];unfold bU8;rw[bS,cU6,kF,cS7 (l:=l6)<|by rw[aN8 len],List.set_set]
 refine h2 _ _ ⟨hs,hi _ (by rw[aP0 ac]) _ ?_⟩
 show gIx (.lst<|l6++l2) (.int k) _
 unfold gIx;simp only[oE];rw[e];right;rw[qK];refine bI8 hu λrp rg C=> ?_
 exact go C ⟨rp,rg⟩
theorem law2 (s:nX p)(hl:ns.length<=63){Q:B->Prop}(h:Q (.pu<|.bl true))(C:Addr)(xs:List Int)(bl:Below xs [2,8,2,46,12]):aZ6 {Q with} [~~~.rol (ns.map .int),~~~qX C p,↑(xs.map .int),none,none,none,none,none,none]:=by
 obtain⟨d0,e0,_⟩:=xK bl 0 0 rfl rfl;obtain⟨d1,e1,l1,h1⟩:=xK bl 1 1 rfl rfl;have n:=fun(p:List Int) (s:nX p) C x3=>law3 s hl h C xs x3 bl
 unfold aZ6 bL1 bL0;generalize aZ5=Tl at n⊢;have e4:(c48.take 6).map aX++(c48.drop 6).map aX=c48.map aX:=by rw[<-bT,aO9]
 obtain⟨u,hu,eu⟩:=eig_at l1 h1;rw[<-e4]at eu;rw[aP,sX,sW,kF,ixO rfl e0,c44];simp only[hG,isB,B.d,j9,cR]
 by_cases z:d0=1
 .rw[a8 z];exact pick (λQ' q=>dU6 _ Q' q) (λρ Q' q=>dU7 ρ Q' q) (λρ' e Q' q=>by rw[ixO e e1];exact q) ae eu ac hu λC s=>n u s C _
 .rw[a7 z];exact n p s C none
theorem rd_law: Ra bT1 c47 ["s","r","d","k","t","m","c","b","p"]:=by
 rintro ds Q ⟨ns,rfl,hl,h⟩;have n:=fun(p:List Int) (s:nX p) C xs bl=>law2 s hl h C xs bl
 unfold c47;show(aW _ _:US) _ [~~~.rol (ns.map .int),none,none,none,none,none,none,none,none];rw[aP,gK,eB,bS,nO rfl];refine⟨ns,0,999999937,rfl,hl,ac,ac,λC p rp rg=> ?_⟩
 show bL3 _ [~~~.rol (ns.map .int),~~~qX C p,none,none,none,none,none,none,none]
 have n:=n p ⟨rp,rg⟩ C;unfold bL3;generalize aZ6=Tl at n⊢;rw[aP];left;refine⟨ns,3,rfl,hl,ac,ac,λc=> ?_⟩
 refine⟨ac,c,[2,8,2,46,12],999999929,rfl,ac,ac,ac,λxs bl=> ?_⟩
 exact n xs bl
abbrev qY:=tQ
abbrev qZ:=tT
theorem aA1: Ra qY qZ ["f","p","u","s","total","v","w"]:=b95
theorem b54:bootBuiltins "sorted"=some (.builtin "sorted"):=af
end M
end
namespace M
set_option maxHeartbeats 4000000
def top (i:Nat):Stmt:=PySem.Challenge.pw_ringhouse_k74_sees_whole.main.body.getD i (.Pass ⟨0,0,0,0⟩)
abbrev bmV:List Value:=[.type "ValueError",.type "Exception",.type "BaseException",.type "object"]
abbrev vN:String:="ValueError.__new__"
def nk:NameKind->Bool
 | .local=>true
 | .cell=>true
 | _=>false
def nm (s:Stmt):List Str:=((aJ s).names.filter λx=>nk x.2).map (·.1)
def pm (s:Stmt):List Str:=(nm s).take (kJ s).args.length
abbrev j4:Stmt:=top 9
abbrev sL:List Str:=nm j4
abbrev xO:List Str:=pm j4
abbrev fF:Stmt:=top 10
abbrev pI:List Str:=nm fF
abbrev oA:List Str:=pm fF
abbrev aZ7:Stmt:=top 12
abbrev cV3:List Str:=nm aZ7
abbrev cE7:List Str:=pm aZ7
abbrev wG:Stmt:=top 13
abbrev bL4:List Str:=nm wG
abbrev b79:List Str:=pm wG
abbrev lQ:Stmt:=top 14
abbrev a91:List Str:=nm lQ
abbrev zV:List Str:=pm lQ
abbrev tI:Stmt:=top 15
abbrev b80:List Str:=nm tI
abbrev aZ8:List Str:=pm tI
abbrev aF4:Stmt:=top 18
abbrev cE8:List Str:=nm aF4
abbrev bW5:List Str:=pm aF4
abbrev kO:Stmt:=top 19
abbrev zW:List Str:=nm kO
abbrev xP:List Str:=pm kO
abbrev zX:Stmt:=top 21
abbrev bW6:List Str:=nm zX
abbrev bL5:List Str:=pm zX
abbrev qM:Stmt:=top 22
abbrev aZ9:List Str:=nm qM
abbrev aL6:List Str:=pm qM
abbrev jR:Stmt:=top 23
abbrev xQ:List Str:=nm jR
abbrev wH:List Str:=pm jR
abbrev iD:Stmt:=top 24
abbrev tJ:List Str:=nm iD
abbrev r6:List Str:=pm iD
abbrev qN:Stmt:=top 26
abbrev b00:List Str:=nm qN
abbrev aL7:List Str:=pm qN
abbrev aJ6:Stmt:=top 28
abbrev cV4:List Str:=nm aJ6
abbrev kP:List Str:=pm aJ6
abbrev pV:Stmt:=top 29
abbrev aF5:List Str:=nm pV
abbrev b01:List Str:=pm pV
abbrev nQ:Stmt:=top 31
abbrev a66:List Str:=nm nQ
abbrev aL8:List Str:=pm nQ
abbrev nB:Stmt:=top 32
abbrev aF6:List Str:=nm nB
abbrev a92:List Str:=pm nB
abbrev sM:Stmt:=top 33
abbrev aU1:List Str:=nm sM
abbrev b81:List Str:=pm sM
abbrev nE:Stmt:=top 34
abbrev aF7:List Str:=nm nE
abbrev a93:List Str:=pm nE
abbrev qO:Stmt:=top 36
abbrev b02:List Str:=nm qO
abbrev aL9:List Str:=pm qO
abbrev oK:Stmt:=top 37
abbrev aM0:List Str:=nm oK
abbrev aF8:List Str:=pm oK
abbrev hZ:Stmt:=top 38
abbrev pJ:List Str:=nm hZ
abbrev uE:List Str:=pm hZ
abbrev iE:Stmt:=top 39
abbrev tK:List Str:=nm iE
abbrev r8:List Str:=pm iE
abbrev wI:Stmt:=top 42
abbrev bL6:List Str:=nm wI
abbrev b82:List Str:=pm wI
abbrev lW:Stmt:=top 43
abbrev yL:List Str:=nm lW
abbrev aF9:List Str:=pm lW
abbrev nR:Stmt:=top 44
abbrev a67:List Str:=nm nR
abbrev aM1:List Str:=pm nR
abbrev kQ:Stmt:=top 45
abbrev wJ:List Str:=nm kQ
abbrev a94:List Str:=pm kQ
abbrev pW:Stmt:=top 47
abbrev aG0:List Str:=nm pW
abbrev b03:List Str:=pm pW
abbrev lX:Stmt:=top 48
abbrev yM:List Str:=nm lX
abbrev aG1:List Str:=pm lX
abbrev gM:Stmt:=top 52
abbrev xR:List Str:=nm gM
abbrev wK:List Str:=pm gM
abbrev iF:Stmt:=top 53
abbrev wL:List Str:=nm iF
abbrev a95:List Str:=pm iF
abbrev nF:Stmt:=top 55
abbrev aG2:List Str:=nm nF
abbrev a96:List Str:=pm nF
abbrev nS:Stmt:=top 56
abbrev a68:List Str:=nm nS
abbrev aM2:List Str:=pm nS
abbrev bL7:Stmt:=top 58
abbrev dI6:List Str:=nm bL7
abbrev cV5:List Str:=pm bL7
abbrev b04:Stmt:=top 59
abbrev cV6:List Str:=nm b04
abbrev cE9:List Str:=pm b04
abbrev b05:Stmt:=top 60
abbrev cV7:List Str:=nm b05
abbrev cF0:List Str:=pm b05
abbrev zY:Stmt:=top 61
abbrev bW7:List Str:=nm zY
abbrev bL8:List Str:=pm zY
abbrev b55:Stmt:=top 62
abbrev cN8:List Str:=nm b55
abbrev cV8:List Str:=pm b55
abbrev qP:Stmt:=top 63
abbrev b06:List Str:=nm qP
abbrev aM3:List Str:=pm qP
abbrev bL9:Stmt:=top 64
abbrev dI7:List Str:=nm bL9
abbrev cV9:List Str:=pm bL9
abbrev b07:Stmt:=top 65
abbrev cW0:List Str:=nm b07
abbrev cF1:List Str:=pm b07
abbrev wM:Stmt:=top 66
abbrev b08:List Str:=nm wM
abbrev bW8:List Str:=pm wM
abbrev bW9:Stmt:=top 67
abbrev dI8:List Str:=nm bW9
abbrev dI9:List Str:=pm bW9
abbrev bC6:Stmt:=top 68
abbrev c49:List Str:=["_law_poly_here","_law_p","_law_roots","_law_left","_law_parts","_law_a"]
abbrev cF2:List Str:=["_law_poly_here","_law_p"]
abbrev wN:Stmt:=top 69
abbrev b09:List Str:=nm wN
abbrev bX0:List Str:=pm wN
abbrev sN:Stmt:=top 70
abbrev aJ7:List Str:=nm sN
abbrev bM0:List Str:=pm sN
abbrev qQ:Stmt:=top 71
abbrev b10:List Str:=nm qQ
abbrev aM4:List Str:=pm qQ
abbrev aG3:Stmt:=top 72
abbrev cW1:List Str:=nm aG3
abbrev PP_law:List Str:=pm aG3
local macro_rules| `(tactic| walk_at "s")=> `(tactic| exact⟨rfl,rfl,rfl,by decide +kernel,rfl,by decide +kernel,by decide +kernel⟩)
theorem b11:bC sL xO (aJ j4):=by walk_at "s"
theorem uF:bC pI oA (aJ fF):=by walk_at "s"
theorem bM1:bC cV3 cE7 (aJ aZ7):=by walk_at "s"
theorem cF3:bC bL4 b79 (aJ wG):=by walk_at "s"
theorem fK:bC a91 zV (aJ lQ):=by walk_at "s"
theorem uL:bC b80 aZ8 (aJ tI):=by walk_at "s"
theorem zZ:bC cE8 bW5 (aJ aF4):=by walk_at "s"
theorem b12:bC zW xP (aJ kO):=by walk_at "s"
theorem aU2:bC bW6 bL5 (aJ zX):=by walk_at "s"
theorem yN:bC aZ9 aL6 (aJ qM):=by walk_at "s"
theorem pK:bC xQ wH (aJ jR):=by walk_at "s"
theorem gR:bC tJ r6 (aJ iD):=by walk_at "s"
theorem yO:bC b00 aL7 (aJ qN):=by walk_at "s"
theorem qR:bC cV4 kP (aJ aJ6):=by walk_at "s"
theorem c50:bC aF5 b01 (aJ pV):=by walk_at "s"
theorem bP8:bC a66 aL8 (aJ nQ):=by walk_at "s"
theorem lU:bC aF6 a92 (aJ nB):=by walk_at "s"
theorem cF4:bC aU1 b81 (aJ sM):=by walk_at "s"
theorem oM:bC aF7 a93 (aJ nE):=by walk_at "s"
theorem yP:bC b02 aL9 (aJ qO):=by walk_at "s"
theorem jC:bC aM0 aF8 (aJ oK):=by walk_at "s"
theorem uG:bC pJ uE (aJ hZ):=by walk_at "s"
theorem fQ:bC tK r8 (aJ iE):=by walk_at "s"
theorem cF5:bC bL6 b82 (aJ wI):=by walk_at "s"
theorem bM2:bC yL aF9 (aJ lW):=by walk_at "s"
theorem bP9:bC a67 aM1 (aJ nR):=by walk_at "s"
theorem jK:bC wJ a94 (aJ kQ):=by walk_at "s"
theorem a69:bC aG0 b03 (aJ pW):=by walk_at "s"
theorem kR:bC yM aG1 (aJ lX):=by walk_at "s"
theorem wO:bC xR wK (aJ gM):=by walk_at "s"
theorem oN:bC wL a95 (aJ iF):=by walk_at "s"
theorem a97:bC aG2 a96 (aJ nF):=by walk_at "s"
theorem bQ0:bC a68 aM2 (aJ nS):=by walk_at "s"
theorem dU8:bC dI6 cV5 (aJ bL7):=by walk_at "s"
theorem bM3:bC cV6 cE9 (aJ b04):=by walk_at "s"
theorem a00:bC cV7 cF0 (aJ b05):=by walk_at "s"
theorem a70:bC bW7 bL8 (aJ zY):=by walk_at "s"
theorem aJ8:bC cN8 cV8 (aJ b55):=by walk_at "s"
theorem yQ:bC b06 aM3 (aJ qP):=by walk_at "s"
theorem aJ9:bC dI7 cV9 (aJ bL9):=by walk_at "s"
theorem b13:bC cW0 cF1 (aJ b07):=by walk_at "s"
theorem i4:bC b08 bW8 (aJ wM):=by walk_at "s"
theorem sc_low:bC dI8 dI9 (aJ bW9):=by walk_at "s"
theorem wP:bC c49 cF2 (aJ bC6):=by walk_at "s"
theorem pX:bC b09 bX0 (aJ wN):=by walk_at "s"
theorem nG:bC aJ7 bM0 (aJ sN):=by walk_at "s"
theorem i9:bC b10 aM4 (aJ qQ):=by walk_at "s"
theorem sO:bC cW1 PP_law (aJ aG3):=by walk_at "s"
abbrev qS:Stmt:=(c13<|top 3).getD 0 (.Pass ⟨0,0,0,0⟩)
theorem bQ1:bC ["self","left","right"] ["self","left","right"] (aJ qS):=by walk_at "s"
abbrev wQ:Stmt:=(c13<|top 5).getD 0 (.Pass ⟨0,0,0,0⟩)
theorem cF6:bC ["self","prime","number"] ["self","prime","number"] (aJ wQ):=by walk_at "s"
abbrev aG4:Stmt:=(c13<|top 51).getD 0 (.Pass ⟨0,0,0,0⟩)
theorem cW2:bC ["self","poly","size"] ["self","poly"] (aJ aG4):=by walk_at "s"
structure Zs (mg:Str->Option Value):Prop where
 z0:mg "len"=none
 z1:mg "all"=none
 z2:mg "abs"=none
 z3:mg "max"=none
 z4:mg "list"=none
 z5:mg "reversed"=none
 z6:mg "range"=none
 z7:mg "enumerate"=none
 z8:mg "tuple"=none
 z9:mg "sorted"=none
 z10:mg "sum"=none
 z11:mg "min"=none
 z12:mg "int"=none
 z13:mg "any"=none
abbrev DT (P:Program)(w:World)(K:Frag)(mg:Str->Option Value)(base:Heap)(N:List Str)(q:Str)(t:Stmt)(k:Nat)(u:US):Prop:= ∀{f:Addr} {cdv:Value} {A:Around} {outer:List Env} {s:Shared} {H:Hp} {E:XK},iX k (A.deeper<|envOfC q (aJ t) s.heap.objs.size f cdv)->tL (vT CX0 P w K mg base N q (aJ t) f cdv A outer s H E).nox (eZ t) u
section
variable (P:Program)(w:World)(K:Frag)(mg:Str->Option Value)(base:Heap)
abbrev xS:=Fn P w K mg base "is_ring_poly" xO 1 mI
abbrev uH:=Fn P w K mg base "need_ring_poly" oA 2 kL
abbrev cF7:=Fn P w K mg base "cut" cE7 1 aC0
abbrev cF8:=Fn P w K mg base "padded" b79 1 aD3
abbrev nT:=Fn P w K mg base "poly_parted" zV 2 hV
abbrev b14:=Fn P w K mg base "poly_at" aZ8 1 qI
abbrev d22:=Fn P w K mg base "root" bW5 1 b41
abbrev xT:=Fn P w K mg base "small_primes" xP 1 mJ
abbrev cN9:=Fn P w K mg base "apart" bL5 4 aS7
abbrev aM5:=Fn P w K mg base "dividers" aL6 1 sY
abbrev aU3:=Fn P w K mg base "line_and_rest" wH 3 pG
abbrev aA2:=Fn P w K mg base "two_by_two_apart" r6 3 lZ
abbrev bQ2:=Fn P w K mg base "two_with" aL7 2 yF
abbrev dJ0:=Fn P w K mg base "det" kP 5 (iC 4)
abbrev c51:=Fn P w K mg base "without" b01 1 a51
abbrev yR:=Fn P w K mg base "mod_poly" aL8 2 kG
abbrev b99:=Fn P w K mg base "mod_parted" a92 4 tO
abbrev cF9:=Fn P w K mg base "scaled" b81 3 xI
abbrev bA0:=Fn P w K mg base "inverse_of" a93 1 tM
abbrev bQ3:=Fn P w K mg base "split_by" aL9 6 yA
abbrev bM4:=Fn P w K mg base "lines_out" aF8 5 wC
abbrev aK8:=Fn P w K mg base "rootless_parts" uE 2 o7
abbrev aA3:=Fn P w K mg base "two_by_two_split" r8 1 qY
abbrev b83:=Fn P w K mg base "papers" b82 9 xJ
abbrev aG5:=Fn P w K mg base "papers_of" aF9 8 qJ
abbrev bQ4:=Fn P w K mg base "parts_at" aM1 7 yC
abbrev bA1:=Fn P w K mg base "outside_of" a94 3 tU
abbrev c52:=Fn P w K mg base "measure" b03 6 a54
abbrev bM5:=Fn P w K mg base "root_sums" aG1 1 w8
abbrev a98:=Fn P w K mg base "sees_whole" a96 12 bU
abbrev bQ5:=Fn P w K mg base "in_order" aM2 1 sZ
abbrev cW3:=Fn P w K mg base "_law_cell" cV5 1 a50
abbrev cG0:=Fn P w K mg base "_law_mixed" cE9 1 aB8
abbrev bM6:=Fn P w K mg base "_law_draws" cF0 2 qF
abbrev cO0:=Fn P w K mg base "_law_shifted" bL8 1 a60
abbrev dU9:=Fn P w K mg base "_law_poly" cV8 3 c27
abbrev bQ6:=Fn P w K mg base "_law_known_ring" aM3 2 yH
abbrev dV0:=Fn P w K mg base "_law_ring" cV9 12 c28
abbrev cG1:=Fn P w K mg base "_law_value" cF1 1 tH
abbrev d23:=Fn P w K mg base "_law_spoilt" bW8 1 aJ1
abbrev dJ1:=Fn P w K mg base "_law_low" dI9 1 c40
abbrev dJ2:=Fn P w K mg base "_law_paper" cF2 2 bK4
abbrev d24:=Fn P w K mg base "_law_beside" bX0 3 aJ2
abbrev cO1:=Fn P w K mg base "_law_verdict" bM0 2 aT7
abbrev bQ7:=Fn P w K mg base "_law_two_by_own" aM4 13 t6
end
section
variable {P:Program}{w:World}{K:Frag}{mg:Str->Option Value}{base:Heap}
theorem aU4 (Z:Zs mg){sP:Tok}(i5:mg "GREATEST_PLACE"=some (.int 499 sP)):DT<$>sL "is_ring_poly" j4 0 qG:=λhr=>
 (iW (PUW.pt<|b22 (hJ cQ2 (eO (bH 0) rfl Z.z0) aE)<|b22 (hJ aA8 (eO (bH 0) rfl Z.z0) aE)<|bB1<|hJ aL1 (cW (bH 0)<|jG aE) aE) (gF aV3)<|gF<|jN (cK0 rfl) rfl Z.z1 cK1 (aC (xE ["c",".acc"] (aJ j4).names sL (gZ<|aS 0) (λ_ _ _ _ _ _=>jE) λ_ _ _ _ _ _=>(b92 d72 (jN bZ0 rfl Z.z2 c15 (aR 0 aA))<|cQ5 rfl i5)) aA))
theorem aG6 (Z:Zs mg)(j5:xS<$>P):DT<$>pI "need_ring_poly" fF 1 nZ:=λhr=>
 (bN<|aW4 (bB2<|bS8<|eI j5 hr<|aR 0 aA)<|bN c76)
theorem d25 (Z:Zs mg):DT<$>cV3 "cut" aZ7 0 bH0:=λhr=>
 (cM 1 bM1.nd (eO (bH 0) rfl Z.z0)<|bV (bD8 jY (PUW.pt<|aI0 (hJ aA8 (aS 1) aE)<|zD<|hJ i7 (cW (bH 0)<|aM cL (aS 1) aE) aE)<|bN<|us_g 1 bM1.nd aE iu_sub)<|gF<|cY9 (aS 0) fT<|eK<|aS 1)
theorem c53 (Z:Zs mg):DT<$>bL4 "padded" wG 0 aD4:=λhr=>
 (gF<|aM cF (aS 0)<|aM dP2 (bK<|aZ aA)<|aM cL (aS 1)<|eO (bH 0) rfl Z.z0)
theorem b15 (Z:Zs mg)(a73:cF7<$>P):DT<$>a91 "poly_parted" lQ 1 sD:=λhr=>
 (cM 2 fK.nd (aM cL (eO (bH 1) rfl Z.z0) aE)<|cM 3 fK.nd (jN (cu_max rfl) rfl Z.z3 bt_max (aZ<|aC (aM cL (eO (bH 0) rfl Z.z0)<|aS 2) aA))<|cM 4 fK.nd (gY bB3 rfl Z.z4 bC0 (aR 0 aA))<|cM 5 fK.nd (aM dE (cN<|aZ aA)<|aS 3)<|bV (zH 6 fK.nd (dO7 rfl Z.z5 rfl Z.z6 (aR 3 aA))<|cM 7 fK.nd (cW (bH 4)<|aM cF (aS 6)<|aS 2)<|bV (bE1 5 (pv 5) (aS 7)<|aS 6)<|bN<|b24 jY rfl (dO6 (by rfl) Z.z7<|aR 1 aA) (qB rfl (cX 8 (cA fK.nd rfl (Or.inl rfl))<|cX 9 (cA fK.nd rfl (Or.inl rfl)) mE) (cK<|cK jO)) (bN<|dO5 4 (pv 4) (aM cF (aS 6)<|aS 8) (aM dE (aS 7)<|aS 9) d43))<|gF<|bK<|aC (eI a73 hr<|aC (gY oF rfl Z.z8 oH (aR 5 aA)) aA)<|aC (eI a73 hr<|aC (gY oF rfl Z.z8 oH (aR 4 aA)) aA) aA)
theorem bQ8 (Z:Zs mg):DT<$>b80 "poly_at" tI 0 a57:=λhr=>
 (cM 2 uL.nd aE<|bV (zH 3 uL.nd (cQ9 rfl Z.z5 (aR 0 aA))<|bN<|aB3 2 uL.nd<|aM cF (aM dE (aS 2)<|aS 1)<|aS 3)<|bN<|qA 2<|pv 2)
theorem cO2 (Z:Zs mg):DT<$>cE8 "root" aF4 0 b42:=λhr=>
 (cM 1 zZ.nd (aS 0)<|cM 2 zZ.nd (aM aR8 (aM cF (aS 0) aE) aE)<|bV (bD8 jY (hJ cQ2 (aS 2)<|aS 1)<|cM 1 zZ.nd (aS 2)<|bN<|aB3 2 zZ.nd<|aM aR8 (aM cF (aS 1)<|aM aR8 (aS 0)<|aS 1) aE)<|bN<|qA 1<|pv 1)
theorem aU5 (Z:Zs mg){kS:Addr}(jD:mg "SMALL_PRIMES"=some (.ref kS))(wR:KT K kS (T_SMALL_PRIMES.map V.int)):DT<$>zW "small_primes" kO 0 qH:=λhr=>
 (gF<|gY bB3 rfl Z.z4 bC0 (aC (dP3 rfl jD wR) aA))
theorem cG2 (Z:Zs mg)(i6:uH<$>P)(qT:aU3<$>P)(nI:aA2<$>P):DT<$>bW6 "apart" zX 3 aS8:=λhr=>
 (bV (cQ6<|eI i6 hr<|aR 0 aA)<|cM 1 aU2.nd (eI qT hr<|aR 0 aA)<|iW (PUW.pt<|aI0 (bZ6<|aS 1)<|zD<|hJ i7 (eO (bH 0) rfl Z.z0) aE) (bN<|aB3 1 aU2.nd<|eI nI hr<|aR 0 aA)<|bN<|qA 1<|pv 1)
theorem bM7 (Z:Zs mg):DT<$>aZ9 "dividers" qM 0 yE:=λhr=>
 (iW (hJ i7 (aS 0) aE) (gF<|cN<|aZ aA)<|cM 1 yN.nd (cN aA)<|bV (zH 2 yN.nd (zE rfl Z.z6 (aZ<|aC (aM cF (jN bZ0 rfl Z.z2 c15 (aR 0 aA)) aE) aA))<|bN<|aW4 (hJ i7 (aM fJ (aS 0)<|aS 2) aE)<|bV (kN 1 (pv 1)<|aS 2)<|bN<|kN 1 (pv 1)<|jG<|aS 2)<|bN<|qA 1<|pv 1)
theorem aK9 (Z:Zs mg)(nU:aM5<$>P)(pY:b14<$>P)(dN:nT<$>P):DT<$>xQ "line_and_rest" jR 2 pH:=λhr=>
 (bV (zH 1 pK.nd (gZ<|eI nU hr<|aC (cW (bH 0) aE) aA)<|bN<|aW4 (hJ i7 (eI pY hr<|aR 0<|aR 1 aA) aE)<|cM 2 pK.nd (bK<|xC (jG<|aS 1)<|aZ aA)<|gF<|bK<|aR 2<|aC (cW (a83<|eI dN hr<|aR 0<|aR 2 aA) aE) aA)<|gF bD3)
theorem a71 (Z:Zs mg)(nU:aM5<$>P)(a74:bQ2<$>P):DT<$>tJ "two_by_two" iD 2 m8:=λhr=>
 (bV (zH 1 gR.nd (gZ<|eI nU hr<|aC (cW (bH 0) aE) aA)<|cM 2 gR.nd (aM aR8 (cW (bH 0) aE)<|aS 1)<|bN<|zH 3 gR.nd (gZ<|eI a74 hr<|aC (cW (bH 0) aE)<|aC (aM cL (aM cL (cW (bH 0) aE)<|aS 1)<|aS 2) aA)<|cM 4 gR.nd (aM cL (cW (bH 0) aE)<|aS 3)<|bN<|aW4 (hJ i7 (aM cF (aM dE (aS 3)<|aS 2)<|aM dE (aS 1)<|aS 4)<|cW (bH 0) aE)<|gF<|bK<|iH (bK<|aR 1<|aR 3<|aZ aA)<|iH (bK<|aR 2<|aR 4<|aZ aA) aA)<|gF bD3)
theorem bM8 (Z:Zs mg)(bN5:d22<$>P):DT<$>b00 "two_with" qN 1 yG:=λhr=>
 (cM 2 yO.nd (aM cL (aM dE (aS 0)<|aS 0)<|aM dE aE<|aS 1)<|iW (hJ cQ2 (aS 2) aE) (gF<|cN aA)<|cM 3 yO.nd (eI bN5 hr<|aR 2 aA)<|iW (hJ aL1 (aM dE (aS 3)<|aS 3)<|aS 2) (gF<|cN aA)<|gF<|cN<|aC (aM aR8 (aM cF (aS 0)<|aS 3) aE)<|aC (aM aR8 (aM cL (aS 0)<|aS 3) aE) aA)
theorem aK0 (Z:Zs mg){k:Nat}{iC:Φ}(hk:1<=k)(b17:Fn<$>"det" kP k iC)(pZ:c51<$>P):DT<$>cV4 "det" aJ6 k (bG4 iC):=λhr=>
 (bV (d66 (bB0 i7 (eO (a40 0<|pv 0) rfl Z.z0) aE<|bX6 _) (bN<|d65<|bE2 (a83<|bE2 (a40 0<|pv 0) aE λ_ _=>rfl) aE λ_ _=>rfl) cJ1)<|bV (aA7 1 qR.nd rfl (Or.inl rfl) aE (hl:=il (n:=4) rfl ac))<|bV (aA7 2 qR.nd rfl (Or.inl rfl) aE (hl:=il (n:=4) rfl ac))<|bV (b24 jY rfl (jI rfl Z.z6 (aC (eO (a40 0<|pv 0) rfl Z.z0) aA)) (sV 3<|cA qR.nd rfl (Or.inl rfl)) (bV (d68 1 qR.nd rfl (Or.inl rfl) (aM dE (aM dE (gX 2<|pv 2)<|bE2 (a83<|bE2 (a40 0<|pv 0) (gX 3<|pv 3) λ_ _=>rfl) aE λ_ _=>rfl)<|aV6 b17 hr (aG _) rfl (aC (aV6 pZ hr hk rfl (aC (gX 0<|pv 0)<|aC (gX 3<|pv 3) aA)) aA)) cJ3 (hl:=il (n:=4) rfl ac))<|bN<|aA7 2 qR.nd rfl (Or.inl rfl) (jG<|gX 2<|pv 2) (hl:=il (n:=4) rfl ac)))<|bN<|qA 1<|pv 1)
theorem bQ9 (Z:Zs mg):DT<$>aF5 "without" pV 0 a52:=λhr=>
 (gF<|gY oF rfl Z.z8 oH (aC (xE ["row",".acc"] (aJ pV).names aF5 (gZ<|aM cF (fM (bH 0) fT<|eK<|aS 1)<|fM (bH 0) (eK<|aM cF (aS 1) aE) fT) (λ_ _ _ _ _ _=>jE) λ_ _ _ _ _ _=>(fM (bH 0) (eK aE) fT)) aA))
theorem bM9 (Z:Zs mg)(a73:cF7<$>P):DT<$>a66 "mod_poly" nQ 1 y9:=λhr=>
 (gF<|eI a73 hr<|aC (gY oF rfl Z.z8 oH (aC (xE ["c","p",".acc"] (aJ nQ).names a66 (gZ<|aS 0) (λ_ _ _ _ _ _=>jE) λ_ _ _ _ _ _=>(aM fJ (aS 0)<|aS 1)) aA)) aA)
theorem b56 (Z:Zs mg)(gN:yR<$>P)(wS:bA0<$>P)(dN:nT<$>P)(a75:cF9<$>P):DT<$>aF6 "mod_parted" nB 3 tP:=λhr=>
 (cM 3 lU.nd (eI gN hr<|aR 1<|aR 2 aA)<|cM 4 lU.nd (eI wS hr<|aC (cW (bH 3)<|jG aE)<|aR 2 aA)<|bV (b23 (eI dN hr<|aC (eI gN hr<|aR 0<|aR 2 aA)<|aC (eI a75 hr<|aR 3<|aR 4<|aR 2 aA) aA)<|qB rfl (cX 5 (cA lU.nd rfl (Or.inl rfl))<|cX 6 (cA lU.nd rfl (Or.inl rfl)) mE) (cK<|cK jO))<|gF<|bK<|aC (eI a75 hr<|aR 5<|aR 4<|aR 2 aA)<|aC (eI gN hr<|aR 6<|aR 2 aA) aA)
theorem c54 (Z:Zs mg)(gN:yR<$>P):DT<$>aU1 "scaled" sM 2 aC1:=λhr=>
 (gF<|eI gN hr<|aC (gY oF rfl Z.z8 oH (aC (xE ["c","k",".acc"] (aJ sM).names aU1 (gZ<|aS 0) (λ_ _ _ _ _ _=>jE) λ_ _ _ _ _ _=>(aM dE (aS 1)<|aS 0)) aA))<|aR 2 aA)
theorem b57 (Z:Zs mg):DT<$>aF7 "inverse_of" nE 0 tN:=λhr=>
 (cM 2 oM.nd aE<|bV (zH 3 oM.nd (jI rfl Z.z6 (aC (aM cL (aS 1) aE) aA))<|bN<|aB3 2 oM.nd<|aM fJ (aM dE (aS 2)<|aS 0)<|aS 1)<|bN<|qA 2<|pv 2)
theorem bN0 (Z:Zs mg)(j6:xT<$>P)(yS:bM4<$>P)(gN:yR<$>P)(pL:aK8<$>P):DT<$>b02 "split_by" qO 5 yB:=λhr=>
 (iW (bB0 d79 (aS 1) (bZ3 j6 hr ac rfl) rfl) (bN c76)<|bV (b23 (eI yS hr<|aC (eI gN hr<|aR 0<|aR 1 aA)<|aR 1 aA)<|qB rfl (cX 2 (cA yP.nd rfl (Or.inl rfl))<|cX 3 (cA yP.nd rfl (Or.inl rfl)) mE) (cK<|cK jO))<|gF<|aM cF (aS 2)<|eI pL hr<|aR 3<|aR 1 aA)
theorem bA2 (Z:Zs mg)(pY:b14<$>P)(wT:b99<$>P):DT<$>aM0 "lines_out" oK 4 wD:=λhr=>
 (cM 2 jC.nd (cN aA)<|cM 3 jC.nd (aS 0)<|bV (zH 4 jC.nd (jI rfl Z.z6 (aR 1 aA))<|cM 5 jC.nd aE<|bV (bD8 jY (hJ i7 (aM fJ (eI pY hr<|aR 3<|xC (jG<|aS 4) aA)<|aS 1) aE)<|cM 3 jC.nd (cW (a83<|eI wT hr<|aR 3<|iH (bK<|aR 4<|aZ aA)<|aR 1 aA) aE)<|bN<|us_g 5 jC.nd aE cJ3)<|bN<|aW4 (hJ aA8 (aS 5) aE)<|bN<|kN 2 (pv 2)<|bK<|iH (bK<|aR 4<|aZ aA)<|aR 5 aA)<|gF<|bK<|aR 2<|aR 3 aA)
theorem aG7 (Z:Zs mg)(nJ:aA3<$>P):DT<$>pJ "rootless_parts" hZ 1 o8:=λhr=>
 (iW (hJ i7 (eO (bH 0) rfl Z.z0) aE) (gF<|cN aA)<|cM 2 uG.nd (bD5 (hJ i7 (eO (bH 0) rfl Z.z0) aE) (eI nJ hr<|aR 0<|aR 1 aA)<|cN aA)<|iW (hJ i7 (eO (bH 2) rfl Z.z0) aE) (gF<|cN<|iH (bK<|aR 0<|aZ aA) aA)<|iW (hJ (d86 hr.units) (cW (bH 2) aE)<|cW (bH 2) aE) (gF<|cN<|iH (bK<|aC (cW (bH 2) aE)<|aZ aA) aA)<|gF<|xE ["g",".acc"] (aJ hZ).names pJ (gZ<|jN d97 rfl Z.z9 b54 (aR 2 aA)) (λ_ _ _ _ _ _=>jE) λ_ _ _ _ _ _=>(bK<|aR 0<|aZ aA))
theorem a72 (Z:Zs mg):DT<$>tK "two_by_two" iE 0 qZ:=λhr=>
 (bV (zH 2 fQ.nd (jI rfl Z.z6 (aR 1 aA))<|cM 3 fQ.nd (aM fJ (aM cL (cW (bH 0) aE)<|aS 2)<|aS 1)<|cM 4 fQ.nd (aM cL (cW (bH 0) aE)<|aM dE (aS 2)<|aS 3)<|bN<|zH 5 fQ.nd (jI rfl Z.z6 (aR 1 aA))<|cM 6 fQ.nd (aM fJ (aM cL (aS 4)<|aS 5)<|aS 1)<|bN<|aW4 (PUW.pt<|aI0 (hJ i7 (aM fJ (aM dE (aS 5)<|aS 6)<|aS 1)<|cW (bH 0) aE)<|zD<|hJ i7 (aM fJ (aM cF (aM dE (aS 2)<|aS 6)<|aM dE (aS 5)<|aS 3)<|aS 1)<|cW (bH 0) aE)<|gF<|cN<|iH (bK<|aR 5<|aR 2<|aZ aA)<|iH (bK<|aR 6<|aR 3<|aZ aA) aA)<|gF<|cN aA)
theorem c55 (Z:Zs mg)(lY:aG5<$>P):DT<$>bL6 "papers" wI 8 aF1:=λhr=>
 (gF<|eI lY hr<|aC (aB7<|aS 0)<|aC (aB7<|aS 0) aA)
theorem bA3 (Z:Zs mg)(j6:xT<$>P)(a76:bQ4<$>P):DT<$>yL "papers_of" lW 7 wE:=λhr=>
 (gF<|xE ["p","poly","size",".acc"] (aJ lW).names yL (gZ<|bZ3 j6 hr ac rfl) (λ_ _ _ _ _ _=>(aI2<|hJ i7 (aM fJ (aS 2)<|aM dE (aS 0)<|aS 0) aE)) λ_ _ _ _ _ _=>(bK<|aR 0<|aC (eI a76 hr<|aR 1<|aR 0 aA) aA))
theorem bN1 (Z:Zs mg)(a77:bQ3<$>P)(dN:nT<$>P):DT<$>a67 "parts_at" nR 6 yD:=λhr=>
 (gF<|aV7 (js:=[0]) (N:=["g","often","poly",".acc"]) (cap:=[none,none,some 0,none]) (last:=3) (esc:=(aJ nR).names) (XN:=a67) rfl rfl af ac ac rfl (gZ<|eI a77 hr<|aR 0<|aR 1 aA) (λ_ _ _ _ _ _=>(qB rfl (cX 0 (cA (show Nodup (["g","often","poly",".acc"]:List Str)by decide +kernel) rfl (Or.inl rfl))<|cX 1 (cA (show Nodup (["g","often","poly",".acc"]:List Str)by decide +kernel) rfl (Or.inl rfl)) mE) (cK<|cK jO))) (λ_ _ _ _ _ _=>jE) (λ_ _ _ _ _ _=>(bK<|aR 0<|aR 1<|aC (cW (a83<|eI dN hr<|aR 2<|aR 0 aA) aE) aA)))
theorem b58 (Z:Zs mg)(dN:nT<$>P):DT<$>wJ "outside_of" kQ 2 tV:=λhr=>
 (bV (b24 jY rfl (gZ<|aS 1) (qB rfl (cX 2 (cA jK.nd rfl (Or.inr rfl))<|cX 3 (cA jK.nd rfl (Or.inl rfl)) mE) (cK<|cK jO)) (bN<|b24 jY rfl (gZ<|aS 3) (qB rfl (cX 4 (cA jK.nd rfl (Or.inl rfl))<|cX 5 (cA jK.nd rfl (Or.inl rfl))<|cX 6 (cA jK.nd rfl (Or.inl rfl)) mE) (cK<|cK<|cK jO)) (bN<|aW4 (PUW.pt<|aI0 (hJ dW8 (aS 5) aE)<|zD<|bS8<|jN (cK0 rfl) rfl Z.z1 cK1 (aC (xE ["c","p",".acc"] (aJ kQ).names wJ (gZ<|aS 6) (λ_ _ _ _ _ _=>jE) λ_ _ _ _ _ _=>(b92 i7 (aM fJ (aS 0)<|aM dE (aS 1)<|aS 1) aE)) aA))<|gF<|bK<|aR 2<|aC (cW (a83<|eI dN hr<|aR 0<|aR 4 aA) aE) aA)))<|gF bD3)
theorem bR0 (Z:Zs mg)(i6:uH<$>P)(yT:bM5<$>P)(b17:dJ0<$>P):DT<$>aG0 "measure" pW 5 a55:=λhr=>
 (bV (cQ6<|eI i6 hr<|aR 0 aA)<|cM 1 a69.nd (aM cL (eO (bH 0) rfl Z.z0) aE)<|cM 2 a69.nd (eI yT hr<|aR 0<|aC (aM cL (aM dE aE<|aS 1) aE) aA)<|gF<|eI b17 hr<|aC (gY oF rfl Z.z8 oH (aC (xE ["i","sums","n",".acc"] (aJ pW).names aG0 (jI rfl Z.z6 (aR 1 aA)) (λ_ _ _ _ _ _=>jE) λ_ _ _ _ _ _=>(gY oF rfl Z.z8 oH (aC (fM (bH 1) (eK<|aS 0)<|eK<|aM cF (aS 0)<|aS 2) aA))) aA)) aA)
theorem bA4 (Z:Zs mg):DT<$>yM "root_sums" lX 0 wA:=λhr=>
 (cM 2 kR.nd (aM cL (eO (bH 0) rfl Z.z0) aE)<|cM 3 kR.nd (cN<|aR 2 aA)<|bV (zH 4 kR.nd (zE rfl Z.z6 (aZ<|aR 1 aA))<|cM 5 kR.nd (jN (cu_sum rfl) rfl Z.z10 bt_sum (aC (xE ["i","poly","n","sums","k",".acc"] (aJ lX).names yM (zE rfl Z.z6 (aZ<|aC (aM cF (jN (cu_min rfl) rfl Z.z11 bt_min (aC (aM cL (aS 4) aE)<|aR 2 aA)) aE) aA)) (λ_ _ _ _ _ _=>jE) λ_ _ _ _ _ _=>(aM dE (cW (bH 1)<|aM cL (aS 2)<|aS 0)<|cW (bH 3)<|aM cL (aS 4)<|aS 0)) aA))<|iW (hJ d72 (aS 4)<|aS 2) (bN<|us_g 5 kR.nd (aM dE (aS 4)<|cW (bH 0)<|aM cL (aS 2)<|aS 4) cJ3)<|bN<|kN 3 (pv 3)<|jG<|aS 5)<|bN<|qA 3<|pv 3)
theorem aG8 (Z:Zs mg){fX:Addr}(jS:mg "FallsApart"=some (.ref fX)){iY:Addr}{bR1:FuncData}(nV:aB6 K fX iY bmV vN=true)(a78:c98 K fX iY bR1 "left" "right")(b60:cN9<$>P){f:Addr}{cdv:Value}{A:Around}{outer:List Env}{s:Shared}{H:Hp}{E:XK}(hr:iX 4 (A.deeper<|envOfC "need_together" (aJ gM) s.heap.objs.size f cdv)) :
  zL (vT (CXr P w base) P w K mg base xR "need_together" (aJ gM) f cdv A outer s H E) E (eZ gM) o9:=
 (c08 (bB8<|aA7 1 wO.nd rfl (Or.inl rfl) (aV6 b60 hr ac rfl (aC (gX 0<|pv 0) aA)) (hl:=il (n:=2) rfl ac))<|aS3<|cR9 (c84<|gX 1<|pv 1) (aS3<|bU7 (k:=0) rA nV a78 (hr.mono ac) rfl jS rfl (aC (bE2 (a40 1<|pv 1) aE λ_ _=>rfl)<|aC (bE2 (a40 1<|pv 1) aE λ_ _=>rfl) aA) c06 rfl ac) c09)
theorem b16 (Z:Zs mg){iU:Addr}(nK:mg "NotWhole"=some (.ref iU)){kZ:Addr}{cG5:FuncData}(sQ:aB6 K iU kZ bmV vN=true)(aU6:c98 K iU kZ cG5 "prime" "number")(wU:bA1<$>P)(lY:aG5<$>P)(aU7:cF8<$>P){f:Addr}{cdv:Value}{A:Around}{outer:List Env}{s:Shared}{H:Hp}{E:XK}(hr:iX 8 (A.deeper<|envOfC "need_whole" (aJ iF) s.heap.objs.size f cdv)) :
  zL (vT (CXr P w base) P w K mg base wL "need_whole" (aJ iF) f cdv A outer s H E) E (eZ iF) sF:=
 (c08 (bB8<|aA7 2 oN.nd rfl (Or.inl rfl) (aV6 wU hr ac rfl (aC (gX 0<|pv 0)<|aC (aV6 lY hr ac rfl (aC (gX 0<|pv 0)<|aC (gX 1<|pv 1) aA)) aA)) (hl:=il (n:=5) rfl ac))<|aS3<|cR9 (c84<|gX 2<|pv 2) (c08 (bB8<|b23 (gX 2<|pv 2)<|qB rfl (cX 3 (cA oN.nd rfl (Or.inr rfl))<|cX 4 (cA oN.nd rfl (Or.inl rfl)) mE) (cK<|cK jO))<|aS3<|bU7 (k:=0) rA sQ aU6 (hr.mono ac) rfl nK rfl (aC (gX 3<|pv 3)<|aC (aV6 aU7 hr ac rfl (aC (gY oF rfl Z.z8 oH (aC (aV7 (js:=[3]) (N:=["c","p",".acc"]) (cap:=[none,some 3,none]) (last:=2) (esc:=(aJ iF).names) (XN:=wL) rfl rfl af ac ac rfl (gZ<|gX 4<|pv 4) (λ_ _ _ _ _ _=>(sV 0<|cA (show Nodup (["c","p",".acc"]:List Str)by decide +kernel) rfl (Or.inl rfl))) (λ_ _ _ _ _ _=>jE) (λ_ _ _ _ _ _=>(aM fJ (gX 0<|pv 0)<|gX 1<|pv 1))) aA))<|aC (aM cL (eO (a40 0<|pv 0) rfl Z.z0) aE) aA)) aA) c06 rfl ac) c09)
theorem b59 (Z:Zs mg){fG:Addr}(iZ:mg "RingError"=some (.ref fG))(l7:excIn K fG bmV vN=true)(j7: ∀n∈(["FallsApart","TooGreat","NotWhole","NoPolynomial"]:List Str),∀C,mg n=some (.ref C)->b33 K fG C bmV vN)(t7:MkX<$>"Ring" 10 ["poly","degree","measure"] lN)(uM:bQ5<$>P)(sR:b83<$>P):DT<$>aG2 "sees_whole" nF 11 tX:=λhr=>
 (bV (cS1 2 ["FallsApart","TooGreat","NotWhole","NoPolynomial"] rA t7 hr ac rfl rfl rfl rfl rfl (λ_=>(aR 0 aA)) a97.nd rfl (Or.inl rfl) (λ_=>(gF aV3)) rfl iZ l7 j7 (il (n:=3) rfl ac))<|gF<|b92 (d86 hr.units) (eI uM hr<|aR 1 aA)<|eI uM hr<|aC (eI sR hr<|aR 2 aA) aA)
theorem bN2 (Z:Zs mg):DT<$>a68 "in_order" nS 0 yJ:=λhr=>
 (gF<|jN (c90 hr.units) rfl Z.z9 b54 (aC (aV7 (js:=[]) (N:=["p","parts",".acc"]) (cap:=[none,none,none]) (last:=2) (esc:=(aJ nS).names) (XN:=a68) rfl rfl af ac ac rfl (gZ<|aS 0) (λ_ _ _ _ _ _=>(qB rfl (cX 0 (cA (show Nodup (["p","parts",".acc"]:List Str)by decide +kernel) rfl (Or.inl rfl))<|cX 1 (cA (show Nodup (["p","parts",".acc"]:List Str)by decide +kernel) rfl (Or.inl rfl)) mE) (cK<|cK jO))) (λ_ _ _ _ _ _=>jE) (λ_ _ _ _ _ _=>(bK<|aR 0<|aC (jN (c90 hr.units) rfl Z.z9 b54 (aR 1 aA)) aA))) aA))
theorem dJ3 (Z:Zs mg):DT<$>dI6 "_law_cell" bL7 0 c14:=λhr=>
 (iW (hJ i7 (eO (bH 0) rfl Z.z0) aE) (gF<|aM dE aE<|aM cF (aS 1) aE)<|iW (hJ cQ2 (aS 1)<|eO (bH 0) rfl Z.z0) (gF<|cW (bH 0)<|aS 1)<|gF<|aM cF (cW (bH 0)<|aM fJ (aS 1)<|eO (bH 0) rfl Z.z0)<|aM dE aE<|aS 1)
theorem d26 (Z:Zs mg):DT<$>cV6 "_law_mixed" b04 0 bG1:=λhr=>
 (cM 3 bM3.nd (aM fJ (aM dE (aM cF (aM cF (aM cF (aS 0)<|aM dE (aM dE aE<|aS 1)<|aS 1)<|aM dE aE<|aS 1) aE) aE) aE)<|cM 3 bM3.nd (aM fJ (aM dE (aS 3)<|aS 3) aE)<|gF<|aM fJ (aM dE (aS 3) aE)<|aS 2)
theorem d27 (Z:Zs mg)(aK1:cG0<$>P):DT<$>cV7 "_law_draws" b05 1 bG2:=λhr=>
 (cM 3 a00.nd aE<|iW (hJ dW8 (aS 0)<|aM d71 aE aE) (bN<|aB3 3 a00.nd<|aM cL (aS 0)<|aM d71 aE aE)<|cM 4 a00.nd (cN aA)<|bV (zH 5 a00.nd (jI rfl Z.z6 (aC (eO (bH 1) rfl Z.z0) aA))<|bN<|d66 (hJ aA8 (aS 3) aE) (bV (kN 4 (pv 4)<|aM fJ (aS 3)<|cW (bH 1)<|aS 5)<|bN<|aB3 3 a00.nd<|aM aR8 (aS 3)<|cW (bH 1)<|aS 5)<|bN<|kN 4 (pv 4)<|aM fJ (eI aK1 hr<|aR 0<|aR 5<|aR 2 aA)<|cW (bH 1)<|aS 5)<|bN<|qA 4<|pv 4)
theorem cG3 (Z:Zs mg):DT<$>bW7 "_law_shifted" zY 0 aT0:=λhr=>
 (cM 2 a70.nd (gY bB3 rfl Z.z4 bC0 (aR 0 aA))<|bV (zH 3 a70.nd (jI rfl Z.z6 (aC (aM cL (eO (bH 2) rfl Z.z0) aE) aA))<|bN<|zH 4 a70.nd (cY3 rfl Z.z6 (aC (aM cL (eO (bH 2) rfl Z.z0) aE)<|aC (aM cL (aS 3) aE)<|xC (jG aE) aA))<|bN<|bE1 2 (pv 2) (aM cF (cW (bH 2)<|aS 4)<|aM dE (aS 1)<|cW (bH 2)<|aM cF (aS 4) aE)<|aS 4)<|gF<|gY oF rfl Z.z8 oH (aR 2 aA))
theorem dJ4 (Z:Zs mg)(nW:bM6<$>P)(aK2:cO0<$>P):DT<$>cN8 "_law_poly" b55 2 c30:=λhr=>
 (cM 2 aJ8.nd (eI nW hr<|aR 0<|aC (cN<|aZ<|aZ aA)<|aR 1 aA)<|cM 3 aJ8.nd (fM (a83<|eI nW hr<|aR 0<|aC (cN<|aZ<|aZ<|aZ<|aZ<|aZ<|aZ aA)<|aR 1 aA) (eK aE)<|eK<|aM cF (cW (bH 2) aE) aE)<|iW (hJ i7 (cW (bH 2) aE) aE) (gF<|gY oF rfl Z.z8 oH (aC (aM cF (xE ["_law_place",".acc"] (aJ b55).names cN8 (gZ<|aS 3) (λ_ _ _ _ _ _=>jE) λ_ _ _ _ _ _=>(aM cL (aS 0) aE))<|cN<|aZ aA) aA))<|cM 4 aJ8.nd (eI nW hr<|aR 0<|aC (cN<|aZ<|aZ<|aZ<|aZ<|aZ<|aZ<|aZ aA)<|aR 1 aA)<|iW (hJ i7 (cW (bH 2) aE) aE) (cM 4 aJ8.nd (eI nW hr<|aR 0<|aC (cN<|aZ<|aZ<|aZ<|aZ aA)<|aR 1 aA)<|gF<|bK<|aC (aM cL (cW (bH 4) aE) aE)<|aC (aM cL (cW (bH 4) aE) aE)<|aZ aA)<|iW (hJ i7 (cW (bH 2) aE) aE) (gF<|eI aK2 hr<|iH (bK<|aC (aM cL (cW (bH 4) aE) aE)<|aC (aM cL (cW (bH 4) aE) aE)<|aC (aM cL (cW (bH 4) aE) aE)<|aZ aA)<|aC (aM cL (cW (bH 4) aE) aE) aA)<|cM 4 aJ8.nd (eI nW hr<|aR 0<|aC (cN<|aZ<|aZ<|aZ<|aZ<|aZ<|aZ<|aZ aA)<|aR 1 aA)<|gF<|eI aK2 hr<|iH (bK<|aC (aM cL (cW (bH 4) aE) aE)<|aC (aM cL (cW (bH 4) aE) aE)<|aC (aM cL (cW (bH 4) aE) aE)<|aC (aM cL (cW (bH 4) aE) aE)<|aZ aA)<|aC (aM cL (cW (bH 4) aE) aE) aA)
theorem bN3 (Z:Zs mg)(aK1:cG0<$>P):DT<$>b06 "_law_known_ring" qP 1 yI:=λhr=>
 (by refine WS.out ?_;exact dX0 (nN (eY<|eY<|eY cQ)<|nN (bE9<|eY<|eY cQ)<|nN (eY<|eY<|eY cQ)<|nN (bE9<|eY<|eY cQ)<|nN (bE9<|bE9<|eY<|eY cQ)<|nN (bE9<|eY<|eY<|eY cQ)<|nN (bE9<|eY<|eY<|eY cQ) cQ) (cR2<|cM 1 yQ.nd (aM cF (aS 1)<|cN<|iH (bK<|aZ<|aZ<|aZ<|aZ<|aZ aA)<|iH (bK<|xC (jG aE)<|xC (jG aE)<|aZ<|aZ<|aZ aA)<|iH (bK<|aZ<|aZ<|aZ<|aZ<|aZ aA)<|iH (bK<|xC (jG aE)<|aZ<|aZ<|aZ<|aZ aA)<|iH (bK<|aZ<|aZ<|xC (jG aE)<|aZ<|aZ aA) aA)<|gF<|cW (bH 1)<|aM fJ (eI aK1 hr<|aR 0<|aZ<|aZ aA) aE) yQ.nd)
theorem dJ5 (Z:Zs mg){fG:Addr}(iZ:mg "RingError"=some (.ref fG))(l7:excIn K fG bmV vN=true)(j7: ∀n∈(["FallsApart","TooGreat","NotWhole","NoPolynomial"]:List Str),∀C,mg n=some (.ref C)->b33 K fG C bmV vN)(t7:MkX<$>"Ring" 10 ["poly","degree","measure"] lN)(cO5:dU9<$>P)(a79:cW3<$>P)(a80:bQ6<$>P):DT<$>dI7 "_law_ring" bL9 11 c29:=λhr=>
 (cM 3 aJ9.nd bD3<|bV (zH 4 aJ9.nd (jI rfl Z.z6 (aZ aA))<|bN<|aW4 (bZ6<|aS 3)<|bN<|cS1 3 ["FallsApart","TooGreat","NotWhole","NoPolynomial"] rA t7 hr ac rfl rfl rfl rfl rfl (λ_=>(aC (eI cO5 hr<|aC (eI a79 hr<|aR 0<|aC (aM cF (aS 1)<|aS 4) aA)<|aR 2 aA) aA)) aJ9.nd rfl (Or.inl rfl) (λ_=>(bN<|aB3 3 aJ9.nd bD3)) rfl iZ l7 j7 (il (n:=5) rfl ac))<|iW (bZ6<|aS 3) (bN<|aB3 3 aJ9.nd<|cS0 t7 hr ac rfl (aC (eI a80 hr<|aC (eI a79 hr<|aR 0<|aR 1 aA) aA) aA))<|bN<|qA 3<|pv 3)
theorem d28 (Z:Zs mg):DT<$>cW0 "_law_value" b07 0 cE2:=λhr=>
 (cM 2 b13.nd aE<|bV (zH 3 b13.nd (cQ9 rfl Z.z5 (aR 0 aA))<|bN<|aB3 2 b13.nd<|aM cF (aM dE (aS 2)<|aS 1)<|aS 3)<|bN<|qA 2<|pv 2)
theorem cO3 (Z:Zs mg):DT<$>b08 "_law_spoilt" wM 0 b51:=λhr=>
 (iW (hJ i7 (eO (bH 0) rfl Z.z0) aE) (gF<|cN aA)<|cM 1 i4.nd (aM fJ (aS 1)<|eO (bH 0) rfl Z.z0)<|bV (b23 (cW (bH 0)<|aS 1)<|qB rfl (cX 3 (cA i4.nd rfl (Or.inr rfl))<|cX 4 (cA i4.nd rfl (Or.inl rfl)) mE) (cK<|cK jO))<|cM 2 i4.nd (aM fJ (aS 2)<|eO (bH 4) rfl Z.z0)<|bV (b23 (cW (bH 4)<|aS 2)<|qB rfl (cX 5 (cA i4.nd rfl (Or.inl rfl))<|cX 6 (cA i4.nd rfl (Or.inl rfl))<|cX 7 (cA i4.nd rfl (Or.inl rfl)) mE) (cK<|cK<|cK jO))<|bV (b23 (bK<|aC (fM (bH 4) fT<|eK<|aS 2)<|aC (fM (bH 4) (eK<|aM cF (aS 2) aE) fT) aA)<|qB rfl (cX 8 (cA i4.nd rfl (Or.inr rfl))<|cX 9 (cA i4.nd rfl (Or.inr rfl)) mE) (cK<|cK jO))<|cM 10 i4.nd (cN<|iH (bK<|aR 5<|aC (aM cF (aS 6) aE)<|aR 7 aA)<|iH (bK<|aR 5<|aR 6<|aC (aM cF (aS 7)<|bK<|aC (aM dE (aS 3)<|aS 3) aA) aA)<|iH (bK<|aC (aM cF (bK<|aC (aM cF (cW (bH 5) aE)<|aS 3) aA)<|fM (bH 5) (eK aE) fT)<|aR 6<|aR 7 aA)<|iH (bK<|aR 5<|aC (aM cL (aS 6) aE)<|aR 7 aA) aA)<|iW (hJ aA8 (eO (bH 7) rfl Z.z0) aE) (bN<|aB3 10 i4.nd<|aM cF (aS 10)<|cN<|iH (bK<|aR 5<|aR 6<|iH (bK aA) aA)<|iH (bK<|aR 5<|aR 6<|aC (aM cF (bK<|aC (aM cF (cW (bH 7) aE)<|aS 3) aA)<|fM (bH 7) (eK aE) fT) aA) aA)<|bV (mZ (js:=[3,8,9]) (N:=["_law_part","_law_p","_law_ahead","_law_behind",".acc"]) (cap:=[none,some 3,some 8,some 9,none]) (last:=4) (esc:=(aJ wM).names) (XN:=b08) 11 rfl rfl af ac ac rfl (gZ<|aS 10) (λ_ _ _ _ _ _=>(sV 0<|cA (show Nodup (["_law_part","_law_p","_law_ahead","_law_behind",".acc"]:List Str)by decide +kernel) rfl (Or.inl rfl))) (λ_ _ _ _ _ _=>jE) (λ_ _ _ _ _ _=>(bK<|aR 1<|aC (aM cF (aM cF (aS 2)<|cN<|aR 0 aA)<|aS 3) aA)) (cA i4.nd rfl (Or.inl rfl)) (il (n:=13) rfl ac))<|iW (hJ aA8 (eO (bH 4) rfl Z.z0) aE) (bN<|kN 11 (pv 11)<|bK<|aR 3<|aC (aM cF (fM (bH 4) fT<|eK aE)<|fM (bH 4) fT<|eK<|aM cL (eO (bH 4) rfl Z.z0) aE) aA)<|cM 11 i4.nd (aM cF (aS 11)<|cN<|iH (bK<|aR 3<|aC (aM cF (aS 8)<|aS 9) aA)<|iH (bK<|aR 3<|aC (aM cF (aS 4)<|cN<|aC (cW (bH 4)<|aS 2) aA) aA)<|iH (bK<|aC (aM dE (aS 3)<|aS 3)<|aR 4 aA)<|iH (bK<|aR 3<|aC (cN aA) aA) aA)<|bV (mZ (js:=[1]) (N:=["_law_row","_law_told","_law_at",".acc"]) (cap:=[none,some 0,some 1,none]) (last:=3) (esc:=(aJ wM).names) (XN:=b08) 12 rfl rfl af ac ac rfl (gZ<|aS 11) (λ_ _ _ _ _ _=>(sV 0<|cA (show Nodup (["_law_row","_law_told","_law_at",".acc"]:List Str)by decide +kernel) rfl (Or.inl rfl))) (λ_ _ _ _ _ _=>jE) (λ_ _ _ _ _ _=>(aM cF (aM cF (fM (bH 1) fT<|eK<|aS 2)<|cN<|aR 0 aA)<|fM (bH 1) (eK<|aM cF (aS 2) aE) fT)) (cA i4.nd rfl (Or.inl rfl)) (il (n:=13) rfl ac))<|iW (hJ aA8 (eO (bH 0) rfl Z.z0) aE) (bN<|kN 12 (pv 12)<|aM cF (fM (bH 0) fT<|eK aE)<|fM (bH 0) fT<|eK<|aM cL (eO (bH 0) rfl Z.z0) aE)<|gF<|aM cF (aS 12)<|cN<|aC (aM cF (fM (bH 0) fT<|eK<|aS 1)<|fM (bH 0) (eK<|aM cF (aS 1) aE) fT)<|aC (aM cF (aS 0)<|cN<|aC (cW (bH 0)<|aS 1) aA) aA)
theorem dV1 (Z:Zs mg):DT<$>dI8 "_law_low" bW9 0 cN5:=λhr=>
 (gF<|xE ["_law_p",".acc"] (aJ bW9).names dI8 (zE rfl Z.z6 (aZ<|aZ aA)) (λ_ _ _ _ _ _=>(aI2<|bS8<|jN (cK0 rfl) rfl Z.z1 cK1 (aC (xE ["_law_k","_law_p",".acc"] [(".0",NameKind.local),("_law_p",NameKind.cell),("all",NameKind.globalImplicit),("range",NameKind.globalImplicit)] ["_law_p",".acc"] (zE rfl Z.z6 (aZ<|aZ aA)) (λ_ _ _ _ _ _=>jE) λ_ _ _ _ _ _=>(pu_or (b92 aL1 (aM fJ (aS 1)<|aS 0) aE)<|bY7<|b92 i7 (aS 1)<|aS 0)) aA))) λ_ _ _ _ _ _=>(aS 0))
theorem d29 (Z:Zs mg)(xU:cG1<$>P):DT<$>c49 "_law_paper" bC6 1 bK8:=λhr=>
 (bV (mZ (js:=[0,1]) (N:=["_law_a","_law_poly_here","_law_p",".acc"]) (cap:=[none,some 0,some 1,none]) (last:=3) (esc:=(aJ bC6).names) (XN:=c49) 2 rfl rfl af ac ac rfl (jI rfl Z.z6 (aR 1 aA)) (λ_ _ _ _ _ _=>(sV 0<|cA (show Nodup (["_law_a","_law_poly_here","_law_p",".acc"]:List Str)by decide +kernel) rfl (Or.inl rfl))) (λ_ _ _ _ _ _=>(aI2<|hJ i7 (aM fJ (eI xU hr<|aR 1<|xC (jG<|aS 0) aA)<|aS 2) aE)) (λ_ _ _ _ _ _=>(aS 0)) (cA wP.nd rfl (Or.inl rfl)) (il (n:=6) rfl ac))<|iW (hJ i7 (eO (bH 2) rfl Z.z0) aE) (cM 3 wP.nd (bK<|aC (aM cL (cW (bH 0) aE)<|aM fJ (cW (bH 0) aE)<|aS 1)<|aC (aM cL (cW (bH 0) aE)<|aM fJ (cW (bH 0) aE)<|aS 1) aA)<|iW (hJ i7 (cW (bH 3) aE) aE) (bN<|aB3 3 wP.nd<|fM (bH 3) fT<|eK<|gY cu_int rfl Z.z12 bt_int (aC (b92 aL1 (cW (bH 3) aE) aE) aA))<|gF<|bK<|aR 1<|aC (cN<|iH (bK<|iH (bK<|aC (aM fJ (cW (bH 0) aE)<|aS 1)<|aC (aM fJ (cW (bH 0) aE)<|aS 1)<|aZ aA)<|aZ<|aR 3 aA) aA) aA)<|cM 4 wP.nd (cN aA)<|bV (zH 5 wP.nd (gZ<|aS 2)<|cM 3 wP.nd (eI xU hr<|aR 0<|xC (jG<|aS 5) aA)<|bN<|kN 4 (pv 4)<|bK<|iH (bK<|aR 5<|aZ aA)<|aC (aM cL aE<|eO (bH 2) rfl Z.z0)<|aC (bD5 (hJ aL1 (aS 3) aE) (bK<|aR 3 aA)<|bK aA) aA)<|gF<|bK<|aR 1<|aR 4 aA)
theorem cO4 (Z:Zs mg)(bX1:dJ1<$>P)(c56:dJ2<$>P):DT<$>b09 "_law_beside" wN 2 b52:=λhr=>
 (cM 4 pX.nd (aM cL (aM dE (cW (bH 0) aE)<|cW (bH 0) aE)<|aM dE aE<|cW (bH 0) aE)<|bV (mZ (js:=[4]) (N:=["_law_p","_law_far",".acc"]) (cap:=[none,some 4,none]) (last:=2) (esc:=(aJ wN).names) (XN:=b09) 5 rfl rfl af ac ac rfl (gZ<|bZ3 bX1 hr ac rfl) (λ_ _ _ _ _ _=>(sV 0<|cA (show Nodup (["_law_p","_law_far",".acc"]:List Str)by decide +kernel) rfl (Or.inl rfl))) (λ_ _ _ _ _ _=>(aI2<|hJ aL1 (aM fJ (aS 1)<|aM dE (aS 0)<|aS 0) aE)) (λ_ _ _ _ _ _=>(aS 0)) (cA pX.nd rfl (Or.inl rfl)) (il (n:=9) rfl ac))<|bV (mZ (js:=[4]) (N:=["_law_p","_law_far",".acc"]) (cap:=[none,some 4,none]) (last:=2) (esc:=(aJ wN).names) (XN:=b09) 6 rfl rfl af ac ac rfl (gZ<|aS 5) (λ_ _ _ _ _ _=>(sV 0<|cA (show Nodup (["_law_p","_law_far",".acc"]:List Str)by decide +kernel) rfl (Or.inl rfl))) (λ_ _ _ _ _ _=>(aI2<|hJ i7 (aM fJ (aS 1)<|aS 0) aE)) (λ_ _ _ _ _ _=>(aS 0)) (cA pX.nd rfl (Or.inl rfl)) (il (n:=9) rfl ac))<|iW (PUW.pt<|aI0 (hJ i7 (aS 3) aE)<|zD<|hJ aA8 (eO (bH 6) rfl Z.z0) aE) (bN<|aB3 5 pX.nd<|aS 6)<|iW (hJ i7 (eO (bH 5) rfl Z.z0) aE) (gF<|cN aA)<|cM 7 pX.nd (eI c56 hr<|aR 0<|aC (cW (bH 5)<|aM fJ (aS 2)<|eO (bH 5) rfl Z.z0) aA)<|cM 2 pX.nd (aM fJ (aS 2)<|aM cF (eO (bH 1) rfl Z.z0) aE)<|cM 8 pX.nd (cN<|aC (aM cF (aM cF (fM (bH 1) fT<|eK<|aS 2)<|cN<|aR 7 aA)<|fM (bH 1) (eK<|aS 2) fT) aA)<|iW (hJ aA8 (eO (bH 1) rfl Z.z0) aE) (bN<|kN 8 (pv 8)<|aM cF (cN<|aR 7 aA)<|fM (bH 1) (eK aE) fT)<|bN<|qA 8<|pv 8)
theorem cG4 (Z:Zs mg)(bX1:dJ1<$>P)(xU:cG1<$>P):DT<$>aJ7 "_law_verdict" sN 1 aT8:=λhr=>
 (cM 1 nG.nd (aM cL (aM dE (cW (bH 0) aE)<|cW (bH 0) aE)<|aM dE aE<|cW (bH 0) aE)<|cM 2 nG.nd (cJ0 (b92 d72 (jN bZ0 rfl Z.z2 c15 (aR 1 aA)) aE)<|bY7<|pu_not<|jN (cu_any rfl) rfl Z.z13 bt_any (aC (xE ["_law_k","_law_far",".acc"] (aJ sN).names aJ7 (jI rfl Z.z6 (aZ aA)) (λ_ _ _ _ _ _=>jE) λ_ _ _ _ _ _=>(b92 i7 (aM dE (aS 0)<|aS 0)<|aS 1)) aA))<|cM 3 nG.nd (cN aA)<|bV (zH 4 nG.nd (gZ<|bZ3 bX1 hr ac rfl)<|bN<|aW4 (PUW.pt<|aI0 (hJ aL1 (aS 1) aE)<|zD<|hJ i7 (aM fJ (aS 1)<|aM dE (aS 4)<|aS 4) aE)<|cM 5 nG.nd (cW (a83<|xE ["_law_k","_law_poly_here","_law_p",".acc"] (aJ sN).names aJ7 (jI rfl Z.z6 (aR 4 aA)) (λ_ _ _ _ _ _=>(aI2<|hJ i7 (aM fJ (eI xU hr<|aR 1<|xC (jG<|aS 0) aA)<|aS 2) aE)) λ_ _ _ _ _ _=>(aS 0)) aE)<|cM 6 nG.nd (eI xU hr<|aR 0<|xC (jG<|aS 5) aA)<|cM 2 nG.nd (cJ0 (aS 2)<|bY7<|b92 aL1 (aM fJ (aS 6)<|aM dE (aS 4)<|aS 4) aE)<|bN<|kN 3 (pv 3)<|bK<|aR 4<|aC (cN<|iH (bK<|iH (bK<|aR 5<|aZ aA)<|aZ<|aC (bD5 (hJ aL1 (aS 6) aE) (bK<|aR 6 aA)<|bK aA) aA) aA) aA)<|gF<|cN<|aR 2<|aR 3 aA)
theorem bN4 (Z:Zs mg)(nW:bM6<$>P)(b61:cO1<$>P)(bN6:d24<$>P)(cT:a98<$>P):DT<$>b10 "_law_two_by_own" qQ 12 yK:=λhr=>
 (cM 2 i9.nd (eI nW hr<|aR 0<|aC (cN<|aZ<|aZ<|aZ<|aZ<|aZ<|aZ<|aZ<|aZ<|aZ aA)<|aR 1 aA)<|cM 3 i9.nd (bK<|aC (aM cL (cW (bH 2) aE) aE)<|aC (aM cL (cW (bH 2) aE) aE)<|aZ aA)<|iW (hJ i7 (cW (bH 2) aE) aE) (bN<|aB3 3 i9.nd<|bK<|aC (aM cL (aM fJ (cW (bH 2) aE) aE) aE)<|aC (aM cL (cW (bH 2) aE) aE)<|aZ aA)<|iW (hJ aA8 (cW (bH 2) aE) aE) (cM 4 i9.nd (cW (a83<|cN<|aZ<|aZ<|aZ<|aZ<|aZ aA)<|cW (bH 2) aE)<|cM 5 i9.nd (aM cL (cW (bH 2) aE) aE)<|bN<|aB3 3 i9.nd<|bK<|aC (aM cL (aM dE (aS 5)<|aS 5)<|aM dE (aM dE (aS 4)<|aS 4)<|aM cL (cW (bH 2) aE) aE)<|aC (aM dE aE<|aS 5)<|aZ aA)<|cM 6 i9.nd (eI b61 hr<|aR 3 aA)<|bV (zH 7 i9.nd (gZ<|eI bN6 hr<|aR 3<|aC (cW (bH 6) aE)<|aC (cW (bH 2) aE)<|aC (cW (bH 2) aE) aA)<|bN<|aW4 (vY<|eI cT hr<|aR 3<|aR 7 aA)<|gF aV3)<|gF<|cJ0 (b92 i7 (eI cT hr<|aR 3<|aC (cW (bH 6) aE) aA)<|cW (bH 6) aE)<|bY7<|b92 i7 (eI cT hr<|aR 3<|aC (bZ7 (a83<|cW (bH 6) aE)<|jG aE) aA)<|cW (bH 6) aE)
theorem dV2 (Z:Zs mg)(t7:MkX<$>"Ring" 10 ["poly","degree","measure"] lN)(cO6:dV0<$>P)(nW:bM6<$>P)(a79:cW3<$>P)(sR:b83<$>P)(cT:a98<$>P)(bN7:d23<$>P)(uN:bQ7<$>P):DT<$>cW1 "law" aG3 13 c47:=λhr=>
 (cM 1 sO.nd (eI cO6 hr<|aR 0<|aZ<|aZ aA)<|cM 2 sO.nd (eI nW hr<|aC (eI a79 hr<|aR 0<|aZ aA)<|aC (cN<|aZ<|aZ<|aZ<|aZ<|aZ aA)<|aZ aA)<|iW (hJ i7 (cW (bH 2) aE) aE) (by refine WS.out ?_;exact dX0 (nN (bE9<|eY<|eY<|eY cQ)<|nN (eY<|eY<|eY<|eY<|eY cQ)<|nN (eY<|eY<|eY cQ)<|nN (eY<|eY<|bE9<|eY<|eY cQ)<|nN (bE9<|eY<|eY cQ)<|nN (bE9<|eY<|eY cQ) cQ) (cR2<|bN<|aB3 1 sO.nd<|cS0 t7 hr ac rfl (aC (cW (a83<|aM cF (aS 3)<|cN<|iH (bK<|xC (jG aE)<|aZ<|aZ<|aZ<|aZ aA)<|iH (bK<|xC (jG aE)<|aZ<|aZ<|aZ aA) aA)<|cW (bH 2) aE) aA)) sO.nd)<|cM 4 sO.nd (eI sR hr<|aR 1 aA)<|bV (mZ (js:=[]) (N:=["_law_p","_law_parts",".acc"]) (cap:=[none,none,none]) (last:=2) (esc:=(aJ aG3).names) (XN:=cW1) 5 rfl rfl af ac ac rfl (gZ<|aS 4) (λ_ _ _ _ _ _=>(qB rfl (cX 0 (cA (show Nodup (["_law_p","_law_parts",".acc"]:List Str)by decide +kernel) rfl (Or.inl rfl))<|cX 1 (cA (show Nodup (["_law_p","_law_parts",".acc"]:List Str)by decide +kernel) rfl (Or.inl rfl)) mE) (cK<|cK jO))) (λ_ _ _ _ _ _=>jE) (λ_ _ _ _ _ _=>(bK<|aR 0<|aC (bZ7 (bH 1)<|jG aE) aA)) (cA sO.nd rfl (Or.inl rfl)) (il (n:=9) rfl ac))<|iW (hJ i7 (cW (bH 2) aE) aE) (bN<|aB3 5 sO.nd<|bZ7 (bH 5)<|jG aE)<|bV (mZ (js:=[]) (N:=["_law_p","_law_parts",".acc"]) (cap:=[none,none,none]) (last:=2) (esc:=(aJ aG3).names) (XN:=cW1) 6 rfl rfl af ac ac rfl (gZ<|aS 5) (λ_ _ _ _ _ _=>(qB rfl (cX 0 (cA (show Nodup (["_law_p","_law_parts",".acc"]:List Str)by decide +kernel) rfl (Or.inl rfl))<|cX 1 (cA (show Nodup (["_law_p","_law_parts",".acc"]:List Str)by decide +kernel) rfl (Or.inl rfl)) mE) (cK<|cK jO))) (λ_ _ _ _ _ _=>jE) (λ_ _ _ _ _ _=>(bK<|aR 0<|aC (gY bB3 rfl Z.z4 bC0 (aR 1 aA)) aA)) (cA sO.nd rfl (Or.inl rfl)) (il (n:=9) rfl ac))<|iW (PUW.pt<|b22 (vY<|eI cT hr<|aC (aB7<|aS 1)<|aR 5 aA)<|b22 (hJ (ou_neD hr.units) (aS 5)<|aS 6)<|bB1<|vY<|eI cT hr<|aC (aB7<|aS 1)<|aR 4 aA) (gF aV3)<|iW (hJ aL1 (eI cT hr<|aC (aB7<|aS 1)<|aC (cN aA) aA)<|b92 i7 (eO (bH 4) rfl Z.z0) aE) (gF aV3)<|bV (zH 7 sO.nd (gZ<|aM cF (eI bN7 hr<|aR 4<|aC (cW (bH 2) aE)<|aC (cW (bH 2) aE) aA) (by refine WE.out ?_;exact(we_l<|wa_e (we_a (aS 4)<|we_l<|nN (eY<|cZ4 cQ cQ) cQ)<|wa_e (we_a (aS 4)<|we_l<|nN (eY<|cZ4 (nN (nN (eY<|eY cQ)<|eY<|nN (eY cQ) cQ) cQ) cQ) cQ) cQ)))<|bN<|aW4 (vY<|eI cT hr<|aC (aB7<|aS 1)<|aR 7 aA)<|gF aV3) (by refine WS.out ?_;exact dX2 (nN (eY<|eY<|eY cQ)<|nN (bE9<|eY<|eY cQ)<|nN (eY<|eY<|eY<|eY<|eY cQ)<|nN (eY<|eY<|eY<|eY<|eY cQ)<|nN (eY<|eY cQ)<|wa_e (we_a (fM (a83<|aB7<|aS 1) fT<|eK aE)<|we_t<|eY cQ)<|nN cQ cQ) (sV 8<|cA sO.nd rfl (Or.inl rfl)) (bN<|aW4 (PUW.pt<|b22 (vY<|eI cT hr<|aR 8<|aR 4 aA)<|bB1<|vY<|eI cT hr<|aR 8<|aC (cN aA) aA)<|gF aV3) (cR2<|iW (PUW.pt<|b22 (bB2<|bS8<|eI uN hr<|aC (eI a79 hr<|aR 0<|aZ aA)<|aZ aA)<|bB1<|bB2<|bS8<|eI uN hr<|aC (eI a79 hr<|aR 0<|aZ aA)<|aZ aA) (gF aV3) (by refine WS.out ?_;exact dX2 (nN (nN (eY<|eY<|eY cQ)<|cZ4 cQ cQ)<|nN (nN (eY<|eY<|eY cQ)<|cZ4 cQ cQ)<|nN (nN (eY<|eY<|eY cQ)<|cZ4 (nN (eY<|cZ4 (nN (nN (eY<|eY cQ)<|eY<|nN (eY cQ) cQ) cQ) cQ) cQ) cQ) cQ) (qB rfl (cX 8 (cA sO.nd rfl (Or.inl rfl))<|cX 7 (cA sO.nd rfl (Or.inl rfl)) mE) (cK<|cK jO)) (bN<|aW4 (vY<|eI cT hr<|aR 8<|aR 7 aA)<|gF aV3) (cR2<|gF<|pu_isB<|eI cT hr<|aC (aB7<|aS 1)<|aR 4 aA) jY)) jY))
theorem aA4 (Z:Zs mg){kT:Addr}(iG:mg "NoPolynomial"=some (.ref kT))(kU:excIn K kT bmV vN=true)(j5:xS<$>P){f:Addr}{cdv:Value}{A:Around}{outer:List Env}{s:Shared}{H:Hp}{E:XK}(hr:iX 1 (A.deeper<|envOfC "need_ring_poly" (aJ fF) s.heap.objs.size f cdv)) :
  zL (vT (CXr P w base) P w K mg base pI "need_ring_poly" (aJ fF) f cdv A outer s H E) E (eZ fF) nA:=
 (aS3<|cR9 (bB2<|bS8<|aV6 j5 hr ac rfl (aC (gX 0<|pv 0) aA)) (aS3<|cA0 rA kU rfl iG rfl (aC d60 aA) c06 rfl) c09)
theorem d30 (Z:Zs mg){pM:Tok}(gC:mg "GREATEST_MEASURE"=some (.int 39999 pM)){sS:Addr}(nL:mg "TooGreat"=some (.ref sS))(sT:excIn K sS bmV vN=true)(aG9:c52<$>P)(oB:FnX<$>"need_ring_poly" oA 2 jQ)(pN:FnX<$>"need_together" wK 5 kM)(u6:FnX<$>"need_whole" a95 9 nP){f:Addr}{cdv:Value}{A:Around}{outer:List Env}{s:Shared}{H:Hp}{E:XK}(hr:iX 9 (A.deeper<|envOfC "Ring.__init__" (aJ aG4) s.heap.objs.size f cdv)) :
  PSs (vT (CXr P w base) P w K mg base ["self","poly","size"] "Ring.__init__" (aJ aG4) f cdv A outer s H E) (eZ aG4) (λD=>lSX K mg E bI3 {D with nx:=tS3 K "poly" "degree" "measure" bI4 bI5 bI6 D}):=
 (bB9 (c12 oB hr ac dA7 rfl (aC (gX 1<|pv 1) aA))<|bB9 (c12 pN hr ac dA7 rfl (aC (gX 1<|pv 1) aA))<|bB9 (bB8<|aA7 2 cW2.nd rfl (Or.inl rfl) (aV6 aG9 hr ac rfl (aC (gX 1<|pv 1) aA)) (hl:=il (n:=3) rfl ac))<|bB9 (cR9 (bB0 aA8 (jN bZ0 rfl Z.z2 c15 (aC (gX 2<|pv 2) aA)) (cQ5 rfl gC)<|bX6 _) (aS3<|cA0 rA sT rfl nL rfl (aC d60 aA) c06 rfl) c09)<|dQ3 (c12 u6 hr ac dA7 rfl (aC (gX 1<|pv 1)<|aC (gX 2<|pv 2) aA))<|zB (cI1 (pv 0) (gX 1<|pv 1) rfl)<|zB (cI1 (pv 0) (aM cL (eO (a40 1<|pv 1) rfl Z.z0) aE) rfl)<|bX3<|cI1 (pv 0) (gX 2<|pv 2) rfl)
end
theorem lC {P:List Value->Prop}{n:Nat}(h: ∀a us,us.length=n->P (a::us)): ∀us:List Value,us.length=n+1->P us:=λus=>us.casesOn (λe=>nomatch e) λa us e=>h a us (Nat.succ.inj e)
theorem lN0 {P:List Value->Prop}(h:P []): ∀us:List Value,us.length=0->P us:=λus=>us.casesOn (λ_=>h) λ_ _ e=>nomatch e
local macro_rules| `(tactic| walk_at "b0")=> `(tactic| exact λ_ _ _ _ _ _=>lN0 rfl)
theorem lN1 {P:List Value->Prop}(h: ∀a0,P [a0]): ∀us:List Value,us.length=1->P us:=lC λa0=>lN0 (h a0)
local macro_rules| `(tactic| walk_at "b1")=> `(tactic| exact λ_ _ _ _ _ _=>lN1 λ_=>rfl)
theorem lN2 {P:List Value->Prop}(h: ∀a0 a1,P [a0,a1]): ∀us:List Value,us.length=2->P us:=lC λa0=>lC λa1=>lN0 (h a0 a1)
local macro_rules| `(tactic| walk_at "b2")=> `(tactic| exact λ_ _ _ _ _ _=>lN2 λ_ _=>rfl)
theorem lN3 {P:List Value->Prop}(h: ∀a0 a1 a2,P [a0,a1,a2]): ∀us:List Value,us.length=3->P us:=lC λa0=>lC λa1=>lC λa2=>lN0 (h a0 a1 a2)
local macro_rules| `(tactic| walk_at "b3")=> `(tactic| exact λ_ _ _ _ _ _=>lN3 λ_ _ _=>rfl)
theorem lN4 {P:List Value->Prop}(h: ∀a0 a1 a2 a3,P [a0,a1,a2,a3]): ∀us:List Value,us.length=4->P us:=lC λa0=>lC λa1=>lC λa2=>lC λa3=>lN0 (h a0 a1 a2 a3)
local macro_rules| `(tactic| walk_at "b4")=> `(tactic| exact λ_ _ _ _ _ _=>lN4 λ_ _ _ _=>rfl)
local macro_rules| `(tactic| walk_at "n")=> `(tactic| (intro _ _ h;repeat (first| (obtain⟨e,_⟩:=h;subst e;rfl)|obtain⟨_,h⟩:=h)))
structure FD where
 oc:Value
 od:Option Addr
 kV:Value
 dc:Value
 pm:Value
 an:Option Addr
 cd:Value
 ct:Value
 sl:Array (Option Value)
abbrev iT (K:Frag)(x y:Str)(s:Stmt)(f:Addr):Prop:= ∃d:FD,nsIn K mainGlobals y=some (some<|.ref f)/\K.lookup f=some ⟨d.oc,d.od,.func<|fnOf x x (kJ s) (eZ s) (aJ s) .none d.kV d.dc d.pm d.an d.cd d.ct,d.sl⟩/\codeIn K d.cd x=true/\keepIn K (.ref f)=true
theorem fnAt {K:Frag}{x y:Str}{s:Stmt}{f:Addr}{oc:Value}{od:Option Addr}{kV dc pm:Value}{an:Option Addr}{cd ct:Value}{sl:Array (Option Value)}(a:nsIn K mainGlobals y=some (some<|.ref f))(b:K.lookup f=some ⟨oc,od,.func<|fnOf x x (kJ s) (eZ s) (aJ s) .none kV dc pm an cd ct,sl⟩)(c:codeIn K cd x=true)(k:keepIn K (.ref f)=true):iT K x y s f:=⟨⟨oc,od,kV,dc,pm,an,cd,ct,sl⟩,a,b,c,k⟩
theorem dJ6 {K:Frag}{x y:Str}{s:Stmt}{f:Addr}(p:iT K x y s f): ∃fd,Fun K x x s f fd/\nsIn K mainGlobals y=some (some<|.ref f):=let ⟨_,a,b,c,k⟩:=p;⟨_,bD2 b c k,a⟩
section
variable {P:Program}{w:World}{K:Frag}{mg:Str->Option Value}{base h:Heap}(X:K.In h)(G:h.Ns mainGlobals mg){x y:Str}{st:Stmt}{f:Addr}{N ps:List Str}{k:Nat}(p:iT K x y st f)(b: ∀(kV doc pm:Value) (an:Option Addr) (cdv ct:Value) (us:List Value),us.length=ps.length->bindArgs (fnOf x x (kJ st) (eZ st) (aJ st) .none kV doc pm an cdv ct) ⟨us,[]⟩=pure (ps.zip us))(S:bC N ps (aJ st))
include X G p b S
theorem fn_b {φ:Φ}(len: ∀ds Q,φ ds Q->ds.length=ps.length){t:US}(der:DT<$>N x st k t)(rd: ∀ds Q,φ ds Q->t {Q with} (init N ds)):Fn<$>y ps (k+1) φ:=
 let ⟨_,U,m⟩:=dJ6 p
 Fn.mkA U (fA X G m) (U.binds b) S len (λ_ _ _ _ _ _=>der) rd
theorem fnX_b {φ:ΦX}(q:x=y)(len: ∀ds Q Ex,φ ds Q Ex->ds.length=ps.length){t:USX}(der: ∀(cdv:Value) (A:Around) (outer:List Env) (s:Shared) (H:Hp) (E:XK),iX k (A.deeper<|envOfC x (aJ st) s.heap.objs.size f cdv)->zL (vT (CXr P w base) P w K mg base N x (aJ st) f cdv A outer s H E) E (eZ st) t)(rd: ∀ds Q Ex,φ ds Q Ex->t Ex {Q with} (init N ds)):FnX<$>y ps (k+1) φ:=
 let ⟨_,U,m⟩:=dJ6 p
 q▸FnX.mk' U (fA X G<|q▸m) (U.binds b) S len der rd
end
theorem all_mk {l:PySem.W.OpenLaw}{w:World}{K:Frag}{h:Heap}{mg:Str->Option Value}{fa f1 f2 f3 f4 f5 f6 f7 f8 f9 f10 f11 f12 f13 f14 f15 f16 f17 f18 f19 f20 f21 f22 f23 f24 f25 f26 f27 f28 f29 f30 f31 f32 f33 f34 f35 f36 f37 f38 f39 f40 f41 f42 f43 f44 f45 f46 f47 f48 iY kZ b18 fX iU sS kT fG sU kS:Addr}(X:K.In h)(G:h.Ns mainGlobals mg)(hfa:mg "law"=some (.ref fa))
  {bR2 bR3 cG6 cG7 dV3 dV4 bA5:Option Addr} {bR4 cG8 dV5 bA6:Array (Option Value)} {bR5 bR6 bR7 aM6 bR8 cG9 cH0 cH1 b84 cH2 dV6 dV7 dV8 cW4 dV9 dW0:Value} {uO a81 bN8 aH0:ClassData} {sP pM:Tok} {b62:Array Value} {n_SMALL_PRIMES:Nat}
  (P1:iT K "is_ring_poly" "is_ring_poly" j4 f1)
  (P2:iT K "need_ring_poly" "need_ring_poly" fF f2)
  (P3:iT K "cut" "cut" aZ7 f3)
  (P4:iT K "padded" "padded" wG f4)
  (P5:iT K "poly_parted" "poly_parted" lQ f5)
  (P6:iT K "poly_at" "poly_at" tI f6)
  (P7:iT K "root" "root" aF4 f7)
  (P8:iT K "small_primes" "small_primes" kO f8)
  (P9:iT K "apart" "apart" zX f9)
  (P10:iT K "dividers" "dividers" qM f10)
  (P11:iT K "line_and_rest" "line_and_rest" jR f11)
  (P12:iT K "two_by_two" "two_by_two_apart" iD f12)
  (P13:iT K "two_with" "two_with" qN f13)
  (P14:iT K "det" "det" aJ6 f14)
  (P15:iT K "without" "without" pV f15)
  (P16:iT K "mod_poly" "mod_poly" nQ f16)
  (P17:iT K "mod_parted" "mod_parted" nB f17)
  (P18:iT K "scaled" "scaled" sM f18)
  (P19:iT K "inverse_of" "inverse_of" nE f19)
  (P20:iT K "split_by" "split_by" qO f20)
  (P21:iT K "lines_out" "lines_out" oK f21)
  (P22:iT K "rootless_parts" "rootless_parts" hZ f22)
  (P23:iT K "two_by_two" "two_by_two_split" iE f23)
  (P24:iT K "papers" "papers" wI f24)
  (P25:iT K "papers_of" "papers_of" lW f25)
  (P26:iT K "parts_at" "parts_at" nR f26)
  (P27:iT K "outside_of" "outside_of" kQ f27)
  (P28:iT K "measure" "measure" pW f28)
  (P29:iT K "root_sums" "root_sums" lX f29)
  (P30:iT K "need_together" "need_together" gM f30)
  (P31:iT K "need_whole" "need_whole" iF f31)
  (P32:iT K "sees_whole" "sees_whole" nF f32)
  (P33:iT K "in_order" "in_order" nS f33)
  (P34:iT K "_law_cell" "_law_cell" bL7 f34)
  (P35:iT K "_law_mixed" "_law_mixed" b04 f35)
  (P36:iT K "_law_draws" "_law_draws" b05 f36)
  (P37:iT K "_law_shifted" "_law_shifted" zY f37)
  (P38:iT K "_law_poly" "_law_poly" b55 f38)
  (P39:iT K "_law_known_ring" "_law_known_ring" qP f39)
  (P40:iT K "_law_ring" "_law_ring" bL9 f40)
  (P41:iT K "_law_value" "_law_value" b07 f41)
  (P42:iT K "_law_spoilt" "_law_spoilt" wM f42)
  (P43:iT K "_law_low" "_law_low" bW9 f43)
  (P44:iT K "_law_paper" "_law_paper" bC6 f44)
  (P45:iT K "_law_beside" "_law_beside" wN f45)
  (P46:iT K "_law_verdict" "_law_verdict" sN f46)
  (P47:iT K "_law_two_by_own" "_law_two_by_own" qQ f47)
  (P48:iT K "law" "law" aG3 f48)
  (jS:nsIn K mainGlobals "FallsApart"=some (some<|.ref fX))
  (nK:nsIn K mainGlobals "NotWhole"=some (some<|.ref iU))
  (nL:nsIn K mainGlobals "TooGreat"=some (some<|.ref sS))
  (iG:nsIn K mainGlobals "NoPolynomial"=some (some<|.ref kT))
  (iZ:nsIn K mainGlobals "RingError"=some (some<|.ref fG))
  (bN9:nsIn K mainGlobals "Ring"=some (some<|.ref sU))
  (aM7:findIn K (.ref fX) "__init__"=some (some<|.ref iY))
  (b85:findIn K (.ref iU) "__init__"=some (some<|.ref kZ))
  (c57:findIn K (.ref sU) "__init__"=some (some<|.ref b18))
  (a82:K.lookup iY=some ⟨.type "function",bR2,.func<|fnOf "__init__" "FallsApart.__init__" (kJ qS) (eZ qS) (aJ qS) .none bR5 bR6 bR7 bR3 aM6 bR8,bR4⟩)
  (aU8:K.lookup kZ=some ⟨.type "function",cG6,.func<|fnOf "__init__" "NotWhole.__init__" (kJ wQ) (eZ wQ) (aJ wQ) .none cG9 cH0 cH1 cG7 b84 cH2,cG8⟩)
  (cO7:K.lookup b18=some ⟨dW0,dV3,.func<|fnOf "__init__" "Ring.__init__" (kJ aG4) (eZ aG4) (aJ aG4) .none dV6 dV7 dV8 dV4 cW4 dV9,dV5⟩)
  (yU:codeIn K aM6 "FallsApart.__init__"=true)
  (yV:keepIn K (.ref iY)=true)
  (aH1:codeIn K b84 "NotWhole.__init__"=true)
  (aH2:keepIn K (.ref kZ)=true)
  (c58:codeIn K cW4 "Ring.__init__"=true)
  (c59:keepIn K (.ref b18)=true)
  (nV:aB6 K fX iY [.type "ValueError",.type "Exception",.type "BaseException",.type "object"] "ValueError.__new__"=true)
  (sQ:aB6 K iU kZ [.type "ValueError",.type "Exception",.type "BaseException",.type "object"] "ValueError.__new__"=true)
  (sT:excIn K sS [.type "ValueError",.type "Exception",.type "BaseException",.type "object"] "ValueError.__new__"=true)
  (kU:excIn K kT [.type "ValueError",.type "Exception",.type "BaseException",.type "object"] "ValueError.__new__"=true)
  (l7:excIn K fG [.type "ValueError",.type "Exception",.type "BaseException",.type "object"] "ValueError.__new__"=true)
  (t8:clsIn K fX=some uO)
  (xV:clsIn K iU=some a81)
  (aH3:clsIn K sS=some bN8)
  (u7:clsIn K kT=some aH0)
  (kW:(uO).mro.contains (.ref fG)=true)
  (mC:(bN8).mro.contains (.ref fG)=true)
  (mD:(a81).mro.contains (.ref fG)=true)
  (jH:(aH0).mro.contains (.ref fG)=true)
  (yW:vZ (uO).mro=true)
  (yX:(uO).hasDict=true)
  (yY:findIn K (.ref fX) "__setattr__"=some (some<|.builtin "object.__setattr__"))
  (yZ:findIn K (.ref fX) "left"=some none)
  (zA:findIn K (.ref fX) "right"=some none)
  (aH4:vZ (a81).mro=true)
  (aH5:(a81).hasDict=true)
  (aH6:findIn K (.ref iU) "__setattr__"=some (some<|.builtin "object.__setattr__"))
  (aH7:findIn K (.ref iU) "prime"=some none)
  (aH8:findIn K (.ref iU) "number"=some none)
  (mk_Ring:makesIn K sU=true)
  (fn_Ring:PySem.W.isFn K (.ref b18)=true)
  (kc_Ring:keepIn K (.ref sU)=true)
  (pg_Ring:plainGet K sU Str.empty=true)
  (c60:hasDictIn K sU=true)
  (po_Ring:plainOver K sU=true)
  (c61:findIn K (.ref sU) "__setattr__"=some (some<|.builtin "object.__setattr__"))
  (c62:findIn K (.ref sU) "poly"=some none)
  (b63:findIn K (.ref sU) "degree"=some none)
  (aU9:findIn K (.ref sU) "measure"=some none)
  (dJ7:nsIn K mainGlobals "len"=some none)
  (dJ8:nsIn K mainGlobals "all"=some none)
  (dJ9:nsIn K mainGlobals "abs"=some none)
  (dK0:nsIn K mainGlobals "max"=some none)
  (cO8:nsIn K mainGlobals "list"=some none)
  (aV0:nsIn K mainGlobals "reversed"=some none)
  (c63:nsIn K mainGlobals "range"=some none)
  (aH9:nsIn K mainGlobals "enumerate"=some none)
  (c64:nsIn K mainGlobals "tuple"=some none)
  (bO0:nsIn K mainGlobals "sorted"=some none)
  (dK1:nsIn K mainGlobals "sum"=some none)
  (dK2:nsIn K mainGlobals "min"=some none)
  (dK3:nsIn K mainGlobals "int"=some none)
  (dK4:nsIn K mainGlobals "any"=some none)
  (i5:nsIn K mainGlobals "GREATEST_PLACE"=some (some<|.int 499 sP))
  (gC:nsIn K mainGlobals "GREATEST_MEASURE"=some (some<|.int 39999 pM))
  (jD:nsIn K mainGlobals "SMALL_PRIMES"=some (some<|.ref kS))
  (u8:K.lookup kS=some ⟨.type "tuple",bA5,.seq b62 n_SMALL_PRIMES,bA6⟩)
  (u9:b62.size<=sizeLine)
  (uA:Vals (T_SMALL_PRIMES.map V.int) b62.toList) :
  ∃fd:FuncData,(∀(s:Shared) (v:Value),BindsTo s fd ⟨[v],[]⟩ [("_law_script",v)])/\ ∀base:Heap,K.In base->base.Ns mainGlobals mg->uI l.prog w K mg base CX0 14 fa fd ["_law_script"] (spP K bT1):=by
 have h14:=P14.choose_spec;have h48:=P48.choose_spec;have e:=hfa.symm.trans (fA X G h48.1);cases e;have Z:Zs mg:=⟨gG X G dJ7,gG X G dJ8,gG X G dJ9,gG X G dK0,gG X G cO8,gG X G aV0,gG X G c63,gG X G aH9,gG X G c64,gG X G bO0,gG X G dK1,gG X G dK2,gG X G dK3,gG X G dK4⟩;have i5:=fA X G i5;have gC:=fA X G gC;have jD:=fA X G jD;have wR:KT K kS (T_SMALL_PRIMES.map V.int):=kt_of u8 u9 uA
 have jS:=fA X G jS;have nK:=fA X G nK;have nL:=fA X G nL;have iG:=fA X G iG;have iZ:=fA X G iZ;have bN9:=fA X G bN9;have a78:c98 K fX iY _ "left" "right":=cS2 (st:=qS) (x0:="self") (x1:="left") (x2:="right") a82 yU yV rfl bQ1 rfl rfl rfl ac ac ac (λ_ _ _ _ _ _=>lN3 λ_ _ _=>rfl) t8 yW yX yY yZ zA
 have aU6:c98 K iU kZ _ "prime" "number":=cS2 (st:=wQ) (x0:="self") (x1:="prime") (x2:="number") aU8 aH1 aH2 rfl cF6 rfl rfl rfl ac ac ac (λ_ _ _ _ _ _=>lN3 λ_ _ _=>rfl) xV aH4 aH5 aH6 aH7 aH8
 have j7: ∀n∈(["FallsApart","TooGreat","NotWhole","NoPolynomial"]:List Str),∀C,mg n=some (.ref C)->b33 K fG C bmV vN:=by
  intro n hn C hm;simp only[aT,eR,eW]at hn;rcases hn with rfl|rfl|rfl|rfl
  . (have e:=hm.symm.trans jS;cases e;exact aI6 (.inr ⟨_,nV⟩) t8 kW)
  . (have e:=hm.symm.trans nL;cases e;exact aI6 (.inl sT) aH3 mC)
  . (have e:=hm.symm.trans nK;cases e;exact aI6 (.inr ⟨_,sQ⟩) xV mD)
  . (have e:=hm.symm.trans iG;cases e;exact aI6 (.inl kU) u7 jH)
 have U14:=bD2 (st:=aJ6) h14.2.1 h14.2.2.1 h14.2.2.2;have U48:=bD2 (st:=aG3) h48.2.1 h48.2.2.1 h48.2.2.2;have UR:=bD2 (st:=aG4) cO7 c58 c59;refine⟨fnOf "law" "law" (kJ aG3) (eZ aG3) (aJ aG3) .none P48.choose.kV P48.choose.dc P48.choose.pm P48.choose.an P48.choose.cd P48.choose.ct,λs v=> .of_eq rfl,λbase _ _=> ?_⟩
 have mB:= @fn_b l.prog w K mg base h X G;have mX:= @fnX_b l.prog w K mg base h X G;have j5:=mB P1 (by walk_at "b1") b11 ag (aU4 Z i5) aX1
 have i6:=mB P2 (by walk_at "b1") uF ag (aG6 Z j5) aK5
 have a73:=mB P3 (by walk_at "b1") bM1 ag (d25 Z) dC5
 have aU7:=mB P4 ai cF3 ag (c53 Z) cB9
 have dN:=mB P5 ai fK ag (b15 Z a73) b38
 have pY:=mB P6 ai uL ag (bQ8 Z) aX8
 have bN5:=mB P7 (by walk_at "b1") zZ ag (cO2 Z) d11
 have j6:=mB P8 (by walk_at "b0") b12 ag (aU5 Z jD wR) aX7
 have nU:=mB P10 (by walk_at "b1") yN ag (bM7 Z) bP3
 have qT:=mB P11 (by walk_at "b1") pK ag (aK9 Z nU pY dN) aS6
 have a74:=mB P13 ai yO ag (bM8 Z bN5) bP4
 have nI:=mB P12 (by walk_at "b1") gR ag (a71 Z nU a74) a99
 have b60:=mB P9 (by walk_at "b1") aU2 ag (cG2 Z i6 qT nI) cM7
 have pZ:=mB P15 ai c50 ag (bQ9 Z) c16
 have d31:Fn l.prog w K mg base "det" kP 1 (iC 0):=Fn.void U14 (fA X G h14.1) (U14.binds (ps:=kP)<|by walk_at "b1") cM0
 have d32:Fn l.prog w K mg base "det" kP 2 (iC 1):=Fn.mk' U14 (fA X G h14.1) (U14.binds (ps:=kP)<|by walk_at "b1") qR (aI7 _) (λcdv A outer s H E hr=>aK0 Z ac d31 pZ hr) (aX0 0 ac)
 have d33:Fn l.prog w K mg base "det" kP 3 (iC 2):=Fn.mk' U14 (fA X G h14.1) (U14.binds (ps:=kP)<|by walk_at "b1") qR (aI7 _) (λcdv A outer s H E hr=>aK0 Z ac d32 pZ hr) (aX0 1 ac)
 have d34:Fn l.prog w K mg base "det" kP 4 (iC 3):=Fn.mk' U14 (fA X G h14.1) (U14.binds (ps:=kP)<|by walk_at "b1") qR (aI7 _) (λcdv A outer s H E hr=>aK0 Z ac d33 pZ hr) (aX0 2 ac)
 have d35:Fn l.prog w K mg base "det" kP 5 (iC 4):=Fn.mk' U14 (fA X G h14.1) (U14.binds (ps:=kP)<|by walk_at "b1") qR (aI7 _) (λcdv A outer s H E hr=>aK0 Z ac d34 pZ hr) (aX0 3 ac)
 have b17:=d35;have gN:=mB P16 ai bP8 ag (bM9 Z a73) bP0
 have wS:=mB P19 ai oM ag (b57 Z) b93
 have a75:=mB P18 (by walk_at "b3") cF4 ag (c54 Z gN) cA9
 have wT:=mB P17 (by walk_at "b3") lU ag (b56 Z gN wS dN a75) b94
 have yS:=mB P21 ai jC ag (bA2 Z pY wT) bH8
 have nJ:=mB P23 ai fQ ag (a72 Z) aA1
 have pL:=mB P22 ai uG ag (aG7 Z nJ) aK6
 have a77:=mB P20 ai yP ag (bN0 Z j6 yS gN pL) bP1
 have a76:=mB P26 ai bP9 ag (bN1 Z a77 dN) bP2
 have lY:=mB P25 ai bM2 ag (bA3 Z j6 a76) bI0
 have sR:=mB P24 (by walk_at "b1") cF5 ag (c55 Z lY) cE4
 have wU:=mB P27 ai jK ag (b58 Z dN) b96
 have yT:=mB P29 ai kR ag (bA4 Z) bG6
 have aG9:=mB P28 (by walk_at "b1") a69 ag (bR0 Z i6 yT b17) c17
 have pN:=mX P30 (by walk_at "b1") wO rfl aD6 (λ_ _ _ _ _ _ hr=>aG8 Z jS nV a78 b60 hr) aK7
 have u6:=mX P31 ai oN rfl aY0 (λ_ _ _ _ _ _ hr=>b16 Z nK sQ aU6 wU lY aU7 hr) b43
 have uM:=mB P33 (by walk_at "b1") bQ0 ag (bN2 Z) bP6
 have oB:=mX P2 (by walk_at "b1") uF rfl aA0 (λ_ _ _ _ _ _ hr=>aA4 Z iG kU j5 hr) aD5
 have okR:OkC K sU ["poly","degree","measure"]:=⟨⟨pg_Ring,c60,po_Ring,c61⟩,λf hf=>by
  simp only[aT,eR,eW]at hf;rcases hf with rfl|rfl|rfl
  .exact c62
  .exact b63
  .exact aU9⟩
 have fR:=dB5 UR cW2 okR ac ac ac d13 ac (λcdv A outer s H E hr=>d30 Z gC nL sT aG9 oB pN u6 hr) dE2
 have bR:=UR.binds (ps:=["self","poly"]) λ_ _ _ _ _ _ us hl=>match us,hl with| [_,_],_=>rfl
 have t7:MkX l.prog w K mg base "Ring" 10 ["poly","degree","measure"] lN:=⟨sU,b18,_,["self","poly"],Mk.mk mk_Ring c57 fn_Ring kc_Ring,okR,fR,bR,bN9⟩;have cT:=mB P32 ai a97 ag (b59 Z iZ l7 j7 t7 uM sR) b98
 have a79:=mB P34 ai dU8 ag (dJ3 Z) dQ4
 have aK1:=mB P35 (by walk_at "b3") bM3 ag (d26 Z) dB6
 have nW:=mB P36 (by walk_at "b3") a00 ag (d27 Z aK1) dB7
 have aK2:=mB P37 ai a70 ag (cG3 Z) cM9
 have cO5:=mB P38 ai aJ8 ag (dJ4 Z nW aK2) dR9
 have a80:=mB P39 (by walk_at "b1") yQ ag (bN3 Z aK1) bP5
 have cO6:=mB P40 (by walk_at "b3") aJ9 ag (dJ5 Z iZ l7 j7 t7 cO5 a79 a80) dR7
 have xU:=mB P41 ai b13 ag (d28 Z) dH5
 have bN7:=mB P42 (by walk_at "b3") i4 ag (cO3 Z) d18
 have bX1:=mB P43 (by walk_at "b0") sc_low ag (dV1 Z) rd_low
 have c56:=mB P44 ai wP ag (d29 Z xU) dH8
 have bN6:=mB P45 (by walk_at "b4") pX ag (cO4 Z bX1 c56) d20
 have b61:=mB P46 (by walk_at "b1") nG ag (cG4 Z bX1 xU) cN6
 have uN:=mB P47 ai i9 ag (bN4 Z nW b61 bN6 cT) bP7
 exact bZ2 U48 sO dQ5 (λcdv A outer s H E hr=>⟨c47,dV2 Z t7 cO6 nW a79 sR cT bN7 uN hr,rd_law⟩)
end M
open PySem PySem.W PyProof.Rows
local macro_rules| `(tactic| walk_at "f")=> `(tactic| (refine' M.fnAt ?x1 ?x2 ?x3 ?x4;(case x1=>k_is);(case x2=>k_is);(case x3=>k_is);(case x4=>k_is)))
namespace PySem.W.Fast
def tw2452656717081333083:=()
def tw7744097731174727576:=()
def tw13232068189331991404:=()
def tw4410603859777260630:=()
def tw916154766886818365:=()
def tw4670515679739278774:=()
def tw17009234214830359389:=()
def tw2545609731499454098:=()
def tw15553076889370349122:=()
def tw7582118748881555231:=()
def tw16786566435399686772:=()
def tw5642864176063697832:=()
def tw15653409856175358518:=()
def tw16492189470836162992:=()
def tw9778960391558724748:=()
def tw2991654414613813070:=()
def tw12228939691963888684:=()
def tw679811756494923896:=()
def tw1355338125437196737:=()
def tw11476783014772739553:=()
def tw7205514627115194067:=()
def tw712015211941388146:=()
def tw5029931310991333625:=()
def tw11394153031232246714:=()
def tw3423823533945323452:=()
def tw5250018479395749705:=()
def tw1485725977057561986:=()
def tw11329424135099918514:=()
def tw2974506281286628573:=()
def tw9771426595700508744:=()
def tw18061405775449824084:=()
def tw11104048588495768087:=()
def tw17025646120113148829:=()
def tw12732499375446697361:=()
def tw17469512542960620915:=()
def tw13556620123766407837:=()
def tw11445764283338216063:=()
def tw9890046868535024376:=()
def tw16945842122394482034:=()
def tw16778260421340556461:=()
def tw18083927147344991880:=()
def tw1253225019238770213:=()
def tw1010124407893695060:=()
def tw7812943235722367789:=()
def tw13060294354224058677:=()
def tw4380531646153081917:=()
def tw12132028001405671600:=()
def tw2194859325478953306:=()
def tw10977337731992096170:=()
def tw4148750584036723349:=()
def tw10294739445929862831:=()
def tw11117534483002929641:=()
def tw645736936028130034:=()
def tw15876440907028761548:=()
def tw1151709092623469253:=()
def tw6511944350776889281:=()
def tw8375702784079830931:=()
def tw1530363302155011701:=()
def tw15884755502974818802:=()
def tw13453493817428412097:=()
def tw1799446589328561184:=()
def tw6023267041388525430:=()
def tw4846533088069128241:=()
def tw3778620572030852557:=()
def tw11352740326090061493:=()
def tw11801917360161743271:=()
def tw9614131722549098680:=()
def tw15928771456721551699:=()
def tw11526898293726041044:=()
def tw1208701602601197283:=()
def tw7597254278724573820:=()
def tw13167272598144958759:=()
def tw3749697892462571137:=()
def tw15583883045816426623:=()
def tw13038634325378143705:=()
def tw15330265823539388727:=()
def tw7584797508206792740:=()
def tw963156717424461458:=()
def tw5245580728636110766:=()
def tw148572592175764604:=()
def tw15250946079998015126:=()
def tw13611198675454998116:=()
def tw6800775630621307596:=()
def tw44248321167363922:=()
def tw9381934550671891611:=()
def tw15523468964146394611:=()
def tw9780262198731281266:=()
def tw6748425535616026152:=()
def tw13942480337919552930:=()
def tw18233982060006796393:=()
def tw4188142832992544338:=()
def tw16160792935091686427:=()
def tw10201116672818145951:=()
def tw12077988552267607063:=()
def tw15423606919311967362:=()
def tw5590101331162313914:=()
def tw3291816737421867670:=()
def tw11151110020924848397:=()
def tw17481023545875449979:=()
def tw9570150988598257180:=()
def tw1802859371090929144:=()
def tw14666928045909161420:=()
def tw7340429526129217355:=()
def tw12739481817629323881:=()
def tw7413448581344888400:=()
def tw13026632227744852511:=()
def tw14842985599668087873:=()
def tw11472342073724797566:=()
def tw10056140179404341183:=()
def tw9493136279273289924:=()
def tw10329432690538191039:=()
def tw11645230955912968918:=()
def tw18257981588496075917:=()
def tw15040083520789538698:=()
def tw4169509076708680460:=()
def tw12192320783606343827:=()
def tw2660918197044389038:=()
def tw2695641934733415875:=()
def tw5743296858597201049:=()
def tw16464202750494287521:=()
def tw10596252537829543752:=()
def tw10220147808961948947:=()
def tw17711123373464967515:=()
def tw11308537934293284233:=()
def tw16796215556174740876:=()
def tw15720061506483077025:=()
def tw18361211746256935222:=()
def tw9481810279783536939:=()
def tw14506618127401742925:=()
def tw17318467717651887763:=()
def tw2238581538467685103:=()
def tw12639211770114645259:=()
def tw17643270670468420416:=()
def tw6233985718552413836:=()
def tw4904358856009372979:=()
def tw15519479765799949069:=()
def tw1959418730020743903:=()
def tw17196881656956540017:=()
def tw18164499076342641645:=()
def tw16509951086734802204:=()
def tw1876581346398906348:=()
def tw10474289936483628493:=()
def tw14831636389979748932:=()
def tw13883254633511211086:=()
def tw2372276292992828848:=()
def tw16420740418382779566:=()
def tw16688866050721335600:=()
end PySem.W.Fast
set_option maxRecDepth 100000 in
set_option maxHeartbeats 0 in
theorem PySem.Challenge.cw_ringhouse_k74_sees_whole_holds : PySem.Challenge.rw_ringhouse_k74_sees_whole.Holds := by
 w_on;o_law;k_head;(case hw=>w_witness2)
 k_fill
 refine M.walkM (l:=PySem.Challenge.rw_ringhouse_k74_sees_whole) (k:=14) (x:="_law_script") rfl rfl ⟨rfl,ac,ac⟩ (λw h Y=>PySem.W.kIn_of Y) ?F
 case F=>
  intro w mg fa h KX G hmg
  refine' M.all_mk KX G hmg ?P1 ?P2 ?P3 ?P4 ?P5 ?P6 ?P7 ?P8 ?P9 ?P10 ?P11 ?P12 ?P13 ?P14 ?P15 ?P16 ?P17 ?P18 ?P19 ?P20 ?P21 ?P22 ?P23 ?P24 ?P25 ?P26 ?P27 ?P28 ?P29 ?P30 ?P31 ?P32 ?P33 ?P34 ?P35 ?P36 ?P37 ?P38 ?P39 ?P40 ?P41 ?P42 ?P43 ?P44 ?P45 ?P46 ?P47 ?P48 ?jS ?nK ?nL ?iG ?iZ ?bN9 ?aM7 ?b85 ?c57 ?a82 ?aU8 ?cO7 ?yU ?yV ?aH1 ?aH2 ?c58 ?c59 ?nV ?sQ ?sT ?kU ?l7 ?t8 ?xV ?aH3 ?u7 ?kW ?mC ?mD ?jH ?yW ?yX ?yY ?yZ ?zA ?aH4 ?aH5 ?aH6 ?aH7 ?aH8 ?mk_Ring ?fn_Ring ?kc_Ring ?pg_Ring ?c60 ?po_Ring ?c61 ?c62 ?b63 ?aU9 ?dJ7 ?dJ8 ?dJ9 ?dK0 ?cO8 ?aV0 ?c63 ?aH9 ?c64 ?bO0 ?dK1 ?dK2 ?dK3 ?dK4 ?i5 ?gC ?jD ?u8 ?u9 ?uA
  (case P1|P2|P3|P4|P5|P6|P7|P8|P9|P10|P11|P12|P13|P14|P15|P16|P17|P18|P19|P20|P21|P22|P23|P24|P25|P26|P27|P28|P29|P30|P31|P32|P33|P34|P35|P36|P37|P38|P39|P40|P41|P42|P43|P44|P45|P46|P47|P48=>walk_at "f");(case jS|nK|nL|iG|iZ|bN9|aM7|b85|c57|a82|aU8|cO7|yU|yV|aH1|aH2|c58|c59|t8|xV|aH3|u7|yY|yZ|zA|aH6|aH7|aH8|mk_Ring|fn_Ring|kc_Ring|pg_Ring|c60|po_Ring|c61|c62|b63|aU9|dJ7|dJ8|dJ9|dK0|cO8|aV0|c63|aH9|c64|bO0|dK1|dK2|dK3|dK4|i5|gC|jD|u8=>k_is);(case nV|sQ=>first|kernel_rfl|rfl);(case sT|kU|l7=>k_exc);(case kW|mC|mD|jH|yW|yX|aH4|aH5=>first|kernel_rfl|rfl|decide);(case u9=>first|decide| (trace_state;decide +kernel));(case uA=>first| (show L2.Vals (List.map _ _) (List.toList _);simp only[M.T_SMALL_PRIMES,List.map];repeat (first|exact .nil|refine .cons (.int _ _) ?_))| (repeat constructor)|trace_state)
