import PyProof.Rows.All
import Wide.All
import OpenK.AllK
import Wide.FinOn
import Lean
import PyProof.EqAt
import PyProof.EqKinds
import PyProof.TupleCall
import PySem.Challenge.RW_ringhouse_k23_over
set_option Elab.async false
set_option linter.all false
open PySem.W (instObj methodObj lookIn InstAt plainGet hasDictIn plainOver takerIn makesIn emptyDict keepIn fnOf codeIn excIn nsIn kitOne kitAny)
open List (set_cons_zero set_cons_succ replicate all_cons any_cons foldl forIn_nil Nodup)
open Nat (le_of_eq add_comm mul_comm pow_succ sub_self le_of_dvd)
open Int (le_total mul_nonneg toNat)
open PySem.Heap (SameBut ExtBut FlyingW HeldW MadeExcOf)
open Option (getD_none map_some bind_some)
open Array (toList)
set_option maxRecDepth 100000
set_option compiler.extract_closed false
set_option bootstrap.genMatcherCode false
local macro_rules | `(tactic| walk_at "z") => `(tactic| first|exact .inl rfl|exact .inr rfl|assumption)
def aa{p:Prop}(h:p:=by omega):p:=h
def ac{p:Prop}(h:p:=by decide):p:=h
def ad{p:Prop}(h:p:=by lia):p:=h
def ae{p:Prop}(h:p:=by simp):p:=h
def af{p:Prop}(h:p:=by decide +kernel):p:=h
def al{p:Prop}(h:p:=by rfl):p:=h
local macro_rules|`(↥$t)=>`(autoParam $t al._auto_1)|`(⇑$t)=>`(autoParam $t ac._auto_1)
def ag{p:Prop}(h:p:=by walk_at "n"):p:=h
def aj{p:Prop}(h:p:=by walk_at "b2"):p:=h
def a9:= @PySem.wpAny_bind
def aQ:= @List.getD_eq_getElem?_getD
def a6:= @if_neg
def aS:= @List.getElem?_eq_getElem
def a7:= @if_pos
def aV:= @PySem.Heap.get?_push_of_some
def aI:= @Nat.le_trans
def aP:= @List.length_map
def aG:= @Nat.le_refl
def aK:= @PySem.wpAny_pure
def b9:= @Nat.lt_of_lt_of_le
def aW:= @PySem.Heap.lt_size
def bC:= @List.size_toArray
def bI:= @Bool.false_ne_true
def aZ:= @List.mem_cons
def bB:= @List.range_succ
def bV:= @PySem.Heap.get?_push_size
def bO:= @List.getElem?_map
def b6:= @Int.mul_zero
def bX:= @Int.toNat_natCast
def cR:= @Nat.pow_le_pow_right
def bF:= @Nat.ne_of_lt
def cB:= @Nat.zero_lt_succ
def cS:= @List.length_append
def cE:= @List.map_append
def bQ:= @Int.zero_add
def dJ:= @Int.emod_lt_of_pos
def cY:= @List.getElem_mem
def bJ:= @PySem.wpAny_mono
def cC:= @PySem.W.mg_of
def dW:= @PySem.W.mg_none_of
def eM:= @List.mem_cons_of_mem
noncomputable def dA:= @List.lookup_cons
def cF:= @List.map_cons
def dX:= @List.length_cons
def fM:= @List.mem_append_right
def cZ:= @Int.natAbs_mul
def dL:= @Int.emod_nonneg
def iI:= @Classical.byContradiction
def d3:= @Nat.lt_irrefl
def dZ:= @Bool.and_eq_true
def eB:= @List.not_mem_nil
def cG:= @Nat.zero_le
def eN:= @List.all_eq_true
def eC:= @decide_eq_false
def eE:= @List.mem_append
def fA:= @Int.emod_eq_of_lt
def jX:= @PyProof.Rows.callWith_type1
def iJ:= @List.getElem?_eq_none
def gZ:= @List.filterMap_cons
def jY:= @List.getElem?_eq_some_iff
def fB:= @List.length_set
def eO:= @List.mem_range
def gC:= @decide_eq_true_eq
noncomputable def dB:= @PySem.wpAny_field
def hG:= @List.mem_cons_self
def gD:= @List.ext_getElem
def eP:= @Int.zero_emod
def eF:= @Int.add_zero
def cT:= @And.right
def iK:= @Nat.add_sub_cancel
def eQ:= @Int.zero_mul
def jZ:= @List.length_replicate
def kX:= @PySem.wpAny_callSpecial?_slot
def nI:= @PySem.F.excBase_ValueError
def hJ:= @Option.some.inj
def j8:= @List.mem_singleton
def k7:= @List.replicate_succ
def hV:= @decide_eq_true
def kY:= @PySem.Heap.get?_none_of_le
noncomputable def dC:= @if_false
def j9:= @PySem.wpAny_call_entry
def hX:= @PySem.wpAny_holding
def gE:= @List.mem_map
def gF:= @Int.mul_emod
def hZ:= @Int.mul_assoc
def cU:= @if_true
def iL:= @Nat.mul_le_mul
def fN:= @Nat.pow_add
def k8:= @PySem.wpAny_newObj_type
def kA:= @PySem.wpAny_loadPart_at
def jA:= @List.append_nil
def kB:= @PySem.wpAny_loadPart'
def jB:= @PySem.PassesOwn.never
def i4:= @List.map_map
def fO:= @beq_iff_eq
def jC:= @PySem.Heap.size_push
def nJ:= @Nat.mul_le_mul_right
def nK:= @List.forall_mem_cons
def kZ:= @Nat.lt_succ_of_lt
def eG:= @or_false
def kC:= @PySem.wpAny_execs_nil
def nL:= @List.map_congr_left
def iM:= @Int.add_emod
def tP:= @List.getElem?_append_right
def tQ:= @List.length_eraseIdx_of_lt
def zB:= @PySem.F.slot_tuple_iterator_next
def nM:= @PySem.wpAny_Call_Name_kw
def pN:= @PySem.Heap.get?_update_self
def pO:= @Bool.beq_eq_decide_eq
def nN:= @Bool.false_eq_true
def nO:= @Nat.lt_of_le_of_lt
def zC:= @PyProof.Rows.slot_tuple_getitem
def pP:= @List.getElem?_set_ne
def pQ:= @PySem.wpAny_loadName_local
def fE:= @congrArg
def jD:= @List.map_nil
def nP:= @PySem.wpAny_truthy_bool
def nQ:= @List.flatten_cons
def kD:= @Int.emod_emod
def tT:= @List.length_eq_zero_iff
def tU:= @List.getElem?_cons_zero
def pR:= @beq_eq_false_iff_ne
def pS:= @PySem.mem_of_lookup
def pT:= @PySem.wpAny_isSubtype_exc
def l6:= @PySem.wpAny_seqItems
def l7:= @Int.natAbs_neg
def pU:= @PySem.Obj.data_mapFields
def pV:= @PySem.wpAny_setField_rec
def bA7:= @set_cons_zero
def bA8:= @set_cons_succ
def kE:= @Int.mul_comm
def nR:= @PySem.wpAny_passesOwn
def pW:= @PySem.Heap.get?_push_ne
def pX:= @Int.natAbs_add_le
def zD:= @List.getElem?_append_left
def zE:= @Decidable.byContradiction
def kF:= @Int.mul_one
def kG:= @PySem.wpAny_of_eq
def nS:= @Bool.false_xor
def pY:= @PySem.wpAny_execs_cons
def pZ:= @Nat.lt_succ_self
def zF:= @Option.isSome_iff_exists
def tV:= @PyProof.Rows.call_isinstance_yes
def tW:= @PySem.Heap.SameBut.update
def aL6:= @PySem.plainObj_wpAny_Assign_Attribute
def zG:= @List.pairwise_singleton
def zH:= @Int.emod_eq_zero_of_dvd
def nT:= @Bool.true_xor
def nU:= @PySem.wpAny_attempt
def nV:= @List.map_take
def tX:= @PySem.W.of_hideAll
def zI:= @List.getElem?_set_self
def tY:= @List.length_range
def nW:= @Nat.le_of_lt
def zJ:= @List.length_singleton
def zK:= @PySem.F.slot_zip_next
def qA:= @PySem.isSubtype_type
def zL:= @PySem.builtinLookup_eq_fast
def zM:= @Nat.le_of_ble_eq_true
def zN:= @PySem.codeAny_handlers_test
def zO:= @List.mem_append_left
def tZ:= @List.length_drop
def l8:= @PySem.call_meets
def u4:= @PySem.Heap.size_update
def qB:= @PySem.wpAny_standAt
def qC:= @Nat.add_assoc
def zP:= @PySem.Heap.get?_update_ne
def zQ:= @PySem.wpAny_handleBy_cons
def u5:= @Bool.eq_iff_iff
def u6:= @Nat.min_eq_left
def qD:= @Nat.ne_of_gt
def qE:= @PySem.codeAny_mono
def zR:= @PySem.W.callWith_K
def aL7:= @PySem.F.args_tuple_add_2
def kH:= @Prod.ext
def aL8:= @PySem.AutoSeq1.wpAny_loadPart'
def aL9:= @PySem.F.args_tuple_mul_2
def zS:= @List.contains_cons
def aM0:= @List.mem_of_mem_eraseIdx
def qF:= @Int.pow_zero
def zT:= @Int.ofNat_dvd_left
def nX:= @PySem.wpAny_Name
def nY:= @PySem.wpAny_call
def u7:= @PySem.wpAny_setField
def aM1:= @PySem.F.entry_tuple_add
def aM2:= @PySem.F.entry_tuple_mul
def aM3:= @decide_eq_false_iff_not
def zU:= @List.reverse_cons
def zV:= @PySem.wpAny_pyIter_list
def zW:= @Nat.le_succ_of_le
def zX:= @of_decide_eq_true
def aM4:= @PySem.wpAny_pyIter_rangeiter
def aM5:= @PySem.W.cellsFrom_some
def aM6:= @PySem.F.slot_tuple_add
def aM7:= @PySem.Heap.get?_update_other
def aM8:= @PySem.F.slot_tuple_mul
def qG:= @Int.mul_add
def u8:= @Bool.not_true
def zY:= @List.length_take
def aM9:= @PySem.Obj.isFreed_of_fields
def zZ:= @List.nodup_cons
def a00:= @List.of_mem_zip
def aN0:= @List.mem_of_getElem?
def qH:= @PySem.typeIs_int
def aN1:= @PySem.Calls.evalArgs_plain
def a01:= @List.nil_append
def aN2:= @PySem.isinstance_false_int
def a02:= @List.forIn_cons
def qI:= @PySem.wpAny_rule
def aN3:= @PySem.wpAny_updateSeq_pair
def a03:= @PySem.typeLookup_type
def aN4:= @PySem.codeAny_call_builtin
def a04:= @List.sum_append
def aN5:= @Nat.pow_lt_pow_right
def u9:= @Nat.sub_zero
def a05:= @Bool.or_eq_true
def uA:= @Int.sub_self
def aN6:= @Array.length_toList
def aN7:= @PySem.W.looks_clsIn
def aN8:= @Nat.mul_le_mul_left
def a06:= @Int.mul_le_mul
def a07:= @Bool.not_false
def uB:= @Nat.le_succ
def uD:= @Nat.one_mul
def aN9:= @List.mem_filterMap
def aO0:= @List.zip_cons_cons
def aO1:= @PySem.Code.quiet_builtin
def aO2:= @Int.natAbs_natCast
def a08:= @PySem.wpAny_onRaise
def a09:= @List.map_drop
def aO3:= @PySem.wpAny_Assign_Name
def aO4:= @List.getElem?_set
def aO5:= @List.ext_getElem?
def aO6:= @Bool.not_eq_true'
def aO7:= @PySem.noFill_tuple_add
def a10:= @PySem.wpAny_typeOf
def a11:= @PySem.seqIndex_neg
def aO8:= @PySem.AutoSeq1.idx_int
def aO9:= @beq_self_eq_true
def a12:= @Bool.or_true
def a13:= @Nat.mul_succ
def a14:= @Int.sub_emod
def a15:= @Int.pow_succ
def a16:= @Int.add_comm
def a17:= @Int.ne_of_gt
def uE:= @PyProof.Rows.IsTup.new
def aP0:= @PySem.pushCells_keeps
def aP1:= @Int.natCast_mul
def bA9:= @List.length_nil
def a18:= @PySem.seqIndex_of
def a19:= @Int.one_mul
def a20:= @Int.add_mul
open PySem PySem.Spec PyProof.Rows
section
variable {us its bmB:List Value}{a b it t f C dx R sl l l1 l2 fI:Addr}{P prog q:Program}{w:World}{h g base h':Heap}{o oe:Obj}{t' i j k n tk k' last kt:Nat}{ch fp:List Addr}{x qual y r f1 f2:Str}{e c tg iter elt:Expr}{N loose XN ks:List Str}{A:Around}{E Q:Value->Shared->Prop}{u v vl vu fl:Value}{s' s:Shared}{α:Type}{pos pos' tpos p cpos p2 spos py tp np:Pos}{pins:List (Addr×Obj)}{op:CmpOp}{K:PySem.W.Frag}{st:Stmt}{es ifs elts:List Expr}{body:List Stmt}{vs items xs:Array Value}{lo:Int}{hi:Option Int}{kw:List (Str×Value)}{mg:Str->Option Value}{fd:FuncData}{outer:List Env}{scope:Scope}{YP:World->Heap->Prop}{od:Option Addr}{φ:Φ}{T T1 T2:Bool}{cl:List (Str×Addr)}{cap:List (Option Nat)}{js:List Nat}{esc:List (Str×NameKind)}{newId initId:String}
namespace L2
abbrev Key:=Sum Int Str
noncomputable def dY0:Key->Value->Bool
 | .inl k,v=>Value.isInt k v
 | .inr x,v=>Value.isStrOf x v
noncomputable def keyH (w:World):Key->Int
 | .inl k=>hashInt k
 | .inr x=>hashStr w x
theorem iY: ∀{k:Key} {v:Value},dY0 k v=true->(∃i t,k=Sum.inl i/\v=Value.int i t)\/(∃x t,k=Sum.inr x/\v=Value.str x t)
 | .inl i,v,h=>by
  obtain⟨t,e⟩:=Value.isInt_shape (k:=i) (v:=v) h;exact .inl ⟨i,t,rfl,e⟩
 | .inr x,v,h=>by
  obtain⟨t,e⟩:=Value.isStrOf_shape (x:=x) (v:=v) h;exact .inr ⟨x,t,rfl,e⟩
theorem key_ll (a b:Int):decide ((Sum.inl a:Key)=Sum.inl b)=(a==b):=by
 by_cases e:a=b
 .subst e;simp
 .have h: ¬(Sum.inl a:Key)=Sum.inl b:=λq=>e (Sum.inl.inj q)
  rw[eC h];exact(pR.mpr e).symm
theorem key_rr (a b:Str):decide ((Sum.inr a:Key)=Sum.inr b)=decide (a=b):=by
 by_cases e:a=b
 .subst e;simp
 .have h: ¬(Sum.inr a:Key)=Sum.inr b:=λq=>e (Sum.inr.inj q)
  rw[eC h,eC e]
theorem key_lr (a:Int)(b:Str):decide ((Sum.inl a:Key)=Sum.inr b)=false:=eC (λq=>nomatch q)
theorem key_rl (a:Str)(b:Int):decide ((Sum.inr a:Key)=Sum.inl b)=false:=eC (λq=>nomatch q)
noncomputable def cP2 (prog:Program)(w:World):PySem.KeyKind prog w Key where
 is:=dY0
 hash:=keyH w
 inj:=λv a b ha hb=>by
  rcases iY ha with⟨i,t,rfl,rfl⟩| ⟨x,t,rfl,rfl⟩
  .rcases iY hb with⟨j,u,rfl,e⟩| ⟨y,u,rfl,e⟩
   .injection e with e1 _;rw[e1]
   .exact nomatch e
  .rcases iY hb with⟨j,u,rfl,e⟩| ⟨y,u,rfl,e⟩
   .exact nomatch e
   .injection e with e1 _;rw[e1]
 byValue:=λk v h=>by
  rcases iY h with⟨i,t,rfl,rfl⟩| ⟨x,t,rfl,rfl⟩<;>rfl
 pyHash:=λhv h=>by
  rcases iY hv with⟨i,t,rfl,rfl⟩| ⟨x,t,rfl,rfl⟩
  .exact wpAny_pyHash_int h
  .exact wpAny_pyHash_str h
 eqBool:=λhu hv h=>by
  rcases iY hu with⟨i,t,rfl,rfl⟩| ⟨x,t,rfl,rfl⟩
  .rcases iY hv with⟨j,u,rfl,rfl⟩| ⟨y,u,rfl,rfl⟩
   .rw[key_ll]at h;exact wpAny_eqBool_int h
   .rw[key_lr]at h;exact SeqAt.EqAt.int_str i t y u _ _ _ _ h
  .rcases iY hv with⟨j,u,rfl,rfl⟩| ⟨y,u,rfl,rfl⟩
   .rw[key_rl]at h;exact SeqAt.EqAt.str_int x t j u _ _ _ _ h
   .rw[key_rr]at h;exact wpAny_eqBool_str h
 «strs» :=λk x t v h=>by
  rcases iY h with⟨i,u,rfl,e⟩| ⟨y,u,rfl,e⟩
  .exact nomatch e
  .injection e with e1 _
   subst e1;cases v<;>rfl
end L2
open L2
namespace L2
inductive V where
 | non|bl (b:Bool)|int (i:Int)|str (x:Str)|byt (b:Array UInt8)|flt (b:UInt64)|ref (a:Addr)|ty (n:String)
 deriving DecidableEq
def RelV:V->Value->Prop
 | .non,u=>u=Value.none
 | .bl b,u=>u=Value.bool b
 | .int i,u=> ∃t,u=Value.int i t
 | .str x,u=> ∃t,u=Value.str x t
 | .byt b,u=> ∃t,u=Value.bytes b t
 | .flt b,u=> ∃t,u=Value.float b t
 | .ref a,u=>u=Value.ref a
 | .ty n,u=>u=Value.type n
abbrev Vals:List V->List Value->Prop:=Paired RelV
theorem Vals.length {xs:List V}(r:Vals xs us):xs.length=us.length:=Paired.length r
theorem Vals.get: ∀{xs:List V} {us:List Value} {i:Nat} {x:V},Vals xs us->xs[i]? =some x-> ∃u,us[i]? =some u/\RelV x u
 | _,_,_,_,.nil,e=>by simp at e
 | _,_,0,_,.cons r _,e=>by simp at e;subst e;exact⟨_,rfl,r⟩
 | _,_,i+1,x,.cons _ t,e=>by
  obtain⟨u,h1,h2⟩:=Vals.get (i:=i) (x:=x) t (by simpa using e)
  exact⟨u,by simpa using h1,h2⟩
theorem Vals.set {x:V}{u:Value}(r:RelV x u): ∀{xs:List V} {us:List Value} (i:Nat),Vals xs us->Vals (xs.set i x) (us.set i u)
 | _,_,_,.nil=> .nil
 | _,_,0,.cons _ t=> .cons r t
 | _,_,i+1,.cons q t=> .cons q (Vals.set r i t)
theorem Vals.append: ∀{xs ys:List V} {us ws:List Value},Vals xs us->Vals ys ws->Vals (xs++ys) (us++ws)
 | _,_,_,_,.nil,s=>s
 | _,_,_,_,.cons r t,s=> .cons r (Vals.append t s)
theorem Vals.take: ∀{xs:List V} {us:List Value} (n:Nat),Vals xs us->Vals (xs.take n) (us.take n)
 | _,_,0,_=> .nil
 | _,_,_+1,.nil=> .nil
 | _,_,n+1,.cons r t=> .cons r (Vals.take n t)
theorem Vals.drop: ∀{xs:List V} {us:List Value} (n:Nat),Vals xs us->Vals (xs.drop n) (us.drop n)
 | _,_,0,r=>r
 | _,_,_+1,.nil=> .nil
 | _,_,n+1,.cons _ t=>Vals.drop n t
def cG4:Option V->Option Value->Prop
 | some v,some u=>RelV v u
 | none,none=>True
 | _,_=>False
def KV {κ:Type}:List (κ×V)->List (κ×Value)->Prop:=Paired fun(p:κ×V) (q:κ×Value)=>p.1=q.1/\RelV p.2 q.2
noncomputable def kV:Key->V
 | .inl i=> .int i
 | .inr x=> .str x
inductive HO where
 | lst (xs:List V)
 | tup (xs:List V)
 | dK (kvs:List (Key×V))|dT (kvs:List (List Key×V))
 | set (S:Int->Bool) (n:Nat)
 | ins (C dx:Addr) (fs:List (Str×V))
 | own (x:Addr)
 | xd (fs:List (Str×V))
 | met (f x:Addr)
 | rng (lo hi:Int)
 | frz (o:Obj) (u:HO)
 | tbl (ps:Array Value)
 | ext (φ:Heap->Prop)
abbrev Hp:=Addr->Option HO
noncomputable def upd (H:Hp)(a:Addr)(o:HO):Hp:=λb=>if b=a then some o else H b
theorem iZ {H:Hp}{o:HO}:upd H a o a=some o:=by unfold upd;rw[a7 rfl]
theorem cL {H:Hp}{o:HO}(h:b≠a):upd H a o b=H b:=by unfold upd;rw[a6 h]
theorem dD {H:Hp}{o:HO}(h:H a=some o)(h':H b=none):a≠b:=by
 intro e;subst e;rw[h]at h';cases h'
section
variable (P:Program)(w:World)
noncomputable def rH (H:Hp)(h:Heap)(a:Addr):HO->Prop
 | .lst xs=>xs.length<=sizeLine/\ ∃(its:List Value) (n:Nat),Vals xs its/\h.get? a=some {cls:= .type "list",data:= .seq its.toArray n}
 | .tup xs=>xs.length<=sizeLine/\ ∃its:List Value,Vals xs its/\IsTup h a its.toArray
 | .dK kvs=>kvs.length<=sizeLine/\(a==sysModules)=false/\ ∃vs,KV kvs vs/\h.DictOf (cP2 P w) a vs
 | .dT kvs=>kvs.length<=sizeLine/\(a==sysModules)=false/\ ∃xs:List (List Key×Addr×Value),
   Paired (fun(p:List Key×V) (q:List Key×Addr×Value)=>p.1=q.1/\H q.2.1=some (.tup<|p.1.map kV)/\RelV p.2 q.2.2) kvs xs/\
   ∃o es ep,h.get? a=some o/\o.ExactDict/\o.data= .dict es ep/\es.toList=xs.map (entryOfKey<|tupleKind<|cP2 P w)/\(xs.map (·.1)).Nodup
 | .set S n=>h.SetOf (intKind P w) a S n
 | .ins C dx fs=>H dx=some (.own a)/\fs.length<=1000/\dx≠a/\h.get? a=some (instObj C dx)/\
   ∃mA,h.Ns1 dx mA/\(∀f,cG4 (fs.lookup f)<|mA f)/\PySem.Within mA (fs.map (·.1))
 | .own _=> ∃o,h.get? a=some o
 | .xd fs=> ∃mA,h.Ns1 a mA/\ ∀f,cG4 (fs.lookup f) (mA f)
 | .rng lo hi=> ∃t u v,h.get? a=some {cls:= .type "range",data:= .fields #[.int lo t,.int hi u,.int 1 v]}
 | .frz o u=>h.get? a=some o/\rH H h a u
 | .tbl ps=>h.get? a=some {cls:= .none,data:= .fields ps}
 | .met f x=>h.get? a=some (methodObj (.ref f)<|.ref x)
 | .ext φ=>φ h/\(∃o,h.get? a=some o)/\ ∀h1 h2:Heap,φ h1->(∀o,h1.get? a=some o->h2.get? a=some o)->φ h2
def HOk (H:Hp)(h:Heap):Prop:= ∀a o,H a=some o->rH P w H h a o
end
section
variable {P:Program}{w:World}{H H':Hp}{h h':Heap}{a:Addr}{o:HO}
theorem rH.lt (x:rH P w H h a o):a<h.objs.size:=by
 cases o with
 | lst xs=>obtain⟨_,_,_,_,e⟩:=x;exact aW e
 | tup xs=>obtain⟨_,_,_,p⟩:=x;exact p.lt
 | dK kvs=>obtain⟨_,_,_,_,o,_,_,e,_⟩:=x;exact aW e
 | dT kvs=>obtain⟨_,_,_,_,o,_,_,e,_⟩:=x;exact aW e
 | set S n=>obtain⟨o,_,_,_,e,_⟩:=x;exact aW e
 | ins C dx fs=>obtain⟨_,_,_,e,_⟩:=x;exact aW e
 | own y=>obtain⟨_,e⟩:=x;exact aW e
 | xd fs=>obtain⟨_,⟨_,_,_,e,_⟩,_⟩:=x;exact aW e
 | rng lo hi=>obtain⟨_,_,_,e⟩:=x;exact aW e
 | frz ob u=>obtain⟨e,_⟩:=x;exact aW e
 | tbl ps=>exact aW (show h.get? a=some _ from x)
 | met f y=>exact aW (show h.get? a=some _ from x)
 | ext φ=>obtain⟨_,⟨_,e⟩,_⟩:=x;exact aW e
theorem Paired.mapP {α β:Type}{F G:α->β->Prop}: ∀{l₁:List α} {l₂:List β},Paired F l₁ l₂->(∀a b,F a b->G a b)->Paired G l₁ l₂
 | _,_,.nil,_=> .nil
 | _,_,.cons r t,f=> .cons (f _ _ r) (Paired.mapP t f)
theorem rH.stay (x:rH P w H h a o)(k: ∀b u,(b=a\/H b=some (.own a))->h.get? b=some u->h'.get? b=some u)
  (ho: ∀b,H b=some (.own a)->H' b=some (.own a)) (ht: ∀b xs,H b=some (.tup xs)->H' b=some (.tup xs)):rH P w H' h' a o:=by
 induction o with
 | lst xs=>obtain⟨z,its,n,r,e⟩:=x;exact⟨z,its,n,r,k _ _ (.inl rfl) e⟩
 | tup xs=>obtain⟨z,its,r,ob,e,c⟩:=x;exact⟨z,its,r,ob,k _ _ (.inl rfl) e,c⟩
 | dK kvs=>obtain⟨z,y,vs,r,ob,es,ep,e,c⟩:=x;exact⟨z,y,vs,r,ob,es,ep,k _ _ (.inl rfl) e,c⟩
 | dT kvs=>
  obtain⟨z,y,xs,r,ob,es,ep,e,c⟩:=x;exact⟨z,y,xs,Paired.mapP r λp q z=>⟨z.1,ht _ _ z.2.1,z.2.2⟩,ob,es,ep,k _ _ (.inl rfl) e,c⟩
 | set S n=>obtain⟨ob,es,ep,t,e,c⟩:=x;exact⟨ob,es,ep,t,k _ _ (.inl rfl) e,c⟩
 | ins C dx fs=>
  obtain⟨d,z,ne,e,mA,⟨od,es,ep,e2,c⟩,r⟩:=x;exact⟨ho _ d,z,ne,k _ _ (.inl rfl) e,mA,⟨od,es,ep,k _ _ (.inr d) e2,c⟩,r⟩
 | own y=>obtain⟨ob,e⟩:=x;exact⟨ob,k _ _ (.inl rfl) e⟩
 | xd fs=>obtain⟨mA,⟨od,es,ep,e,c⟩,r⟩:=x;exact⟨mA,⟨od,es,ep,k _ _ (.inl rfl) e,c⟩,r⟩
 | rng lo hi=>obtain⟨t,u,v,e⟩:=x;exact⟨t,u,v,k _ _ (.inl rfl) e⟩
 | frz ob u ih=>obtain⟨e,q⟩:=x;exact⟨k _ _ (.inl rfl) e,ih q⟩
 | tbl ps=>
  have e:h.get? a=some {cls:= .none,data:= .fields ps}:=x;show h'.get? a=some {cls:= .none,data:= .fields ps};exact k a _ (.inl rfl) e
 | met f y=>
  have e:h.get? a=some (methodObj (.ref f)<|.ref y):=x;show h'.get? a=some (methodObj (.ref f)<|.ref y);exact k a _ (.inl rfl) e
 | ext φ=>obtain⟨p,⟨o,e⟩,st⟩:=x;exact⟨st _ _ p λo q=>k _ _ (.inl rfl) q,⟨o,k _ _ (.inl rfl) e⟩,st⟩
theorem HOk.lt (x:HOk P w H h)(e:H a=some o):a<h.objs.size:=(x a o e).lt
theorem HOk.fresh (x:HOk P w H h)(e:h.objs.size<=a):H a=none:=by
 cases q:H a with
 | none=>rfl
 | some u=>exact absurd (b9 (x.lt q) e) (d3 _)
theorem HOk.kept (x:HOk P w H h)(k: ∀b u,h.get? b=some u->h'.get? b=some u):HOk P w H h':=λa o e=>
 (x a o e).stay (λb u _ q=>k b u q) (λ_ q=>q) λ_ _ q=>q
theorem HOk.laid (x:HOk P w H h)(k: ∀b u,h.get? b=some u->h'.get? b=some u)(hp:h.objs.size<=a)(new:rH P w (upd H a o) h' a o):HOk P w (upd H a o) h':=λb u e=>by
 have hn:=x.fresh hp
 by_cases hb:b=a
 .subst hb;rw[iZ]at e;cases e;exact new
 .rw[cL hb]at e;exact(x b u e).stay (λc v _ q=>k c v q) (λc q=>by rw[cL<|dD q hn];exact q) λc xs q=>by rw[cL<|dD q hn];exact q
end
def Rd (H:Hp)(a:Addr)(u:HO):Prop:=H a=some u\/ ∃o,H a=some (.frz o u)
theorem Rd.ok {H:Hp}{u:HO}(r:Rd H a u)(x:HOk P w H h):rH P w H h a u:=by
 rcases r with r| ⟨o,r⟩
 .exact x a u r
 .obtain⟨_,q⟩:=x a _ r;exact q
def Mut:Option HO->Prop
 | some (.lst _)=>True
 | some (.dK _)=>True
 | some (.dT _)=>True
 | some (.set _ _)=>True
 | some (.ins _ _ _)=>True
 | some (.ext _)=>True
 | _=>False
section
variable {P:Program}{w:World}{H:Hp}{h h':Heap}{x e:Addr}{o':HO}
theorem HOk.write (ok:HOk P w H h)(mu:Mut (H x))(he:e=x\/H e=some (.own x))(k: ∀b u,b≠e->h.get? b=some u->h'.get? b=some u)(heo: ∃u,h'.get? e=some u)
  (new:rH P w (upd H x o') h' x o'):HOk P w (upd H x o') h':=λb u q=>by
 have nown: ∀c y,H c=some (.own y)->c≠x:=λc y r z=>by subst z;rw[r]at mu;exact mu
 have ntup: ∀c xs,H c=some (.tup xs)->c≠x:=λc xs r z=>by subst z;rw[r]at mu;exact mu
 by_cases hb:b=x
 .subst hb;rw[iZ]at q;cases q;exact new
 .rw[cL hb]at q
  by_cases hbe:b=e
  .have q':H b=some (.own x):=by
    rcases he with z|z
    .exact absurd (hbe.trans z) hb
    .rw[hbe];exact z
   rw[q]at q';cases q';obtain⟨v,hv⟩:=heo;exact⟨v,by rw[hbe];exact hv⟩
  .refine(ok b u q).stay (λc v hc r=>k c v ?_ r) (λc r=>by rw[cL<|nown c b r];exact r) λc xs r=>by rw[cL<|ntup c xs r];exact r
   rcases hc with rfl|hc
   .exact hbe
   .rintro rfl;rcases he with z|z
    .exact nown c b hc z
    .rw[hc]at z;cases z;exact hb rfl
end
structure Un (fs ex:List Addr)(H H':Hp)(h h':Heap):Prop where
 keep: ∀b o,h.get? b=some o->H b=none->b ∉ fs->b ∉ ex->h'.get? b=some o
 slot: ∀b o,h.get? b=some o->H b=none->b∈fs->b ∉ ex-> ∃sl,h'.get? b=some {o with slots:=sl}
 free: ∀b o,h.get? b=some o->H b=none->b ∉ ex->H' b=none
 there: ∀b o,h.get? b=some o->b ∉ ex-> ∃o',h'.get? b=some o'
 tups: ∀b xs,H b=some (.tup xs)->H' b=some (.tup xs)
 frzs: ∀b o u,H b=some (.frz o u)->H' b=some (.frz o u)
 tbls: ∀b ps,H b=some (.tbl ps)-> ∃more,H' b=some (.tbl<|ps++more)
section
variable {fs fs' ex ex':List Addr}{H H1 H2:Hp}{h h1 h2 h':Heap}{a x e:Addr}{o:HO}
theorem Un.any (u:Un fs ex H H1 h h1){ob:Obj}(q:h.get? b=some ob)(n:H b=none)(hx:b ∉ ex): ∃sl,h1.get? b=some {ob with slots:=sl}:=by
 by_cases hb:b∈fs
 .exact u.slot b ob q n hb hx
 .exact⟨ob.slots,u.keep b ob q n hb hx⟩
theorem Un.kept (k: ∀b u,h.get? b=some u->h'.get? b=some u):Un fs ex H H h h':=
 ⟨λb ob q _ _ _=>k b ob q,λb ob q _ _ _=>⟨ob.slots,k b ob q⟩,λ_ _ _ n _=>n,λb ob q _=>⟨ob,k b ob q⟩,λ_ _ q=>q,λ_ _ _ q=>q,λ_ ps q=>⟨#[],by rw[q];simp⟩⟩
theorem Un.refl:Un fs ex H H h h:=Un.kept λ_ _ q=>q
theorem Un.laid (k: ∀b u,h.get? b=some u->h'.get? b=some u)(hp:h.objs.size<=a)(hn:H a=none):Un fs ex H (upd H a o) h h' where
 keep:=λb u q _ _ _=>k b u q
 slot:=λb u q _ _ _=>⟨u.slots,k b u q⟩
 free:=λb u q n _=>by rw[cL<|bF<|b9 (aW q) hp];exact n
 there:=λb u q _=>⟨u,k b u q⟩
 tups:=λb xs q=>by rw[cL<|dD q hn];exact q
 frzs:=λb u xs q=>by rw[cL<|dD q hn];exact q
 tbls:=λb ps q=>⟨#[],by rw[cL<|dD q hn,q];simp⟩
theorem Un.write (mu:Mut (H x))(he:e=x\/H e=some (.own x))(k: ∀b u,b≠e->h.get? b=some u->h'.get? b=some u)(heo: ∃u,h'.get? e=some u):Un fs ex H (upd H x o) h h':=by
 have hx: ∀b,H b=none->b≠x:=λb n z=>by subst z;rw[n]at mu;exact mu
 have hb: ∀b,H b=none->b≠e:=λb n z=>by
  subst z;rcases he with r|r
  .exact hx b n r
  .rw[n]at r;cases r
 have hm: ∀b u,H b=some u-> ¬Mut (some u)->b≠x:=λb u q nm z=>by subst z;rw[q]at mu;exact nm mu
 refine⟨λb u q n _ _=>k b u (hb b n) q,λb u q n _ _=>⟨u.slots,k b u (hb b n) q⟩,λb u q n _=>by rw[cL<|hx b n];exact n,λb u q _=> ?_,
  λb xs q=>by rw[cL<|hm b _ q λz=>z];exact q,λb u xs q=>by rw[cL<|hm b _ q λz=>z];exact q,λb ps q=>⟨#[],by rw[cL<|hm b _ q λz=>z,q];simp⟩⟩
 by_cases hbe:b=e
 .subst hbe;exact heo
 .exact⟨u,k b u hbe q⟩
end
noncomputable def trk (h:Heap)(H:Hp):List Addr:=(List.range h.objs.size).filter λa=>(H a).isSome
noncomputable def bW2 (h:Heap)(H:Hp):Heap:=PySem.W.hideAll h (trk h H)
theorem cW8 (h:Heap)(H:Hp):(bW2 h H).objs.size=h.objs.size:=PySem.W.hideAll_size _ _
theorem d51 {H:Hp}(e:h.get? b=some o)(n:H b=none):(bW2 h H).get? b=some o:=
 PySem.W.hideAll_get _ e λhm=>by
  have q:(H b).isSome=true:=(List.mem_filter.mp hm).2;rw[n]at q;simp at q
theorem dM2 {H:Hp}(e:(bW2 h H).get? b=some o):h.get? b=some o/\H b=none:=by
 have e':h.get? b=some o:=tX (trk h H) e;refine⟨e',?_⟩;cases q:H b with
 | none=>rfl
 | some x=>
  have hm:b∈trk h H:=List.mem_filter.mpr ⟨eO.mpr<|aW e',by simp[q]⟩
  have z:(bW2 h H).get? b=none:=PySem.W.hideAll_none (trk h H) hm;rw[z]at e;cases e
noncomputable def dM3 (g h:Heap)(L:Addr):List (Addr×Obj):=(List.range h.objs.size).filterMap λa=>if a=L\/(g.get? a).isSome=true then none else(h.get? a).map λo=>(a,o)
noncomputable def wK (g h:Heap)(L d:Addr):List (Addr×Obj):=(dM3 g h L).filter λp=>decide (p.1≠d)
structure Mod (K:PySem.W.Frag)(mg:Str->Option Value)(base:Heap):Prop where
 kin:K.In base
 glob:base.Ns mainGlobals mg
 blt: ∃mb,base.Ns builtinsNs mb/\ ∀x:Str,x≠"__name__"->mb x=bootBuiltins x
 nolimit:base.NoLimit
structure Cx where
 prog:Program
 w:World
 K:PySem.W.Frag
 mg:Str->Option Value
 base:Heap
 A:Around
 N:List Str
 s₀:Shared
 H₀:Hp
 env:Env
 outer:List Env
 stack:List Env
 ex:List Addr
 fn:Str->Bool
 calm:Bool
 pn:List (Addr×Obj)
 xe:Value->Shared->Prop
noncomputable def frs (l:List Env):List Addr:=l.filterMap (·.frame)
noncomputable abbrev Cx.fs (X:Cx):List Addr:=frs X.outer
def Vis (sc:Scope)(x:Str):Prop:=sc.names.lookup x=some .local\/sc.names.lookup x=some .cell\/sc.names.lookup x=some .free
def Loc (sc:Scope)(x:Str):Prop:=sc.names.lookup x=some .local\/sc.names.lookup x=some .cell
def Look (env:Env)(h:Heap)(m:Str->Option Value)(x:Str)(u:Value):Prop:=
 (env.kindOf x=some .local/\m x=some u)\/((env.kindOf x=some .cell\/env.kindOf x=some .free)/\ ∃c,env.cells.lookup x=some c/\h.IsCell c (some u))
structure Cx.Ok (X:Cx):Prop where
 mod:Mod X.K X.mg X.base
 kind:X.env.scope.kind= .function
 glob:X.env.globals=mainGlobals
 blt:X.env.builtins=builtinsNs
 above:X.s₀.heap.objs.size<=X.env.locals
 inj: ∀x y c,X.env.cells.lookup x=some c->X.env.cells.lookup y=some c->x=y
 has: ∀x,(X.env.kindOf x=some .cell\/X.env.kindOf x=some .free)-> ∃c,X.env.cells.lookup x=some c
 cab: ∀x c,X.fn x=true->X.env.cells.lookup x=some c->X.s₀.heap.objs.size<=c
 hd:X.calm=true->X.A.handled=none
 frames:X.A.frames=some X.stack
 stk:X.stack=X.outer\/(X.stack=X.env::X.outer/\X.env.frame=some X.env.locals)
 exf: ∀b∈X.ex,b≠X.env.locals/\ ∀x c,X.env.cells.lookup x=some c->c≠b
 bs: ∀b o,X.base.get? b=some o->X.s₀.heap.get? b=some o/\X.H₀ b=none
 bsz:X.base.objs.size<=X.s₀.heap.objs.size
 noex: ∀b o,X.base.get? b=some o->b ∉ X.ex
 exfs: ∀b∈X.ex,b ∉ X.fs
 funs:X.s₀.heap.FunFrames X.base X.outer
 frf: ∀b∈X.fs,X.H₀ b=none
structure Inv (X:Cx)(pins:List (Addr×Obj))(σ:List (Option V))(H:Hp)(s:Shared):Prop where
 ok:X.Ok
 os:s.os=X.s₀.os
 bare:AllBare s.gens
 base:Un X.fs X.ex X.H₀ H X.s₀.heap s.heap
 loc: ∃m,s.heap.Ns X.env.locals m/\ ∀(i:Nat) (x:Str) (v:V),X.N[i]? =some x->σ[i]? =some (some v)->Vis X.env.scope x-> ∃u,RelV v u/\Look X.env s.heap m x u
 cell: ∀x c,X.env.cells.lookup x=some c-> ∃v,s.heap.IsCell c v
 free:H X.env.locals=none
 freeC: ∀x c,X.env.cells.lookup x=some c->H c=none
 pin: ∀p∈X.pn++pins,s.heap.get? p.1=some p.2/\H p.1=none/\p.1≠X.env.locals/\p.1 ∉ X.fs/\ ∀v,p.2.data≠ .cell v
 hok:HOk X.prog X.w H s.heap
 len:σ.length=X.N.length
section
variable {X:Cx}{pins:List (Addr×Obj)}{σ:List (Option V)}{H H':Hp}{s:Shared}{h':Heap}
theorem Cx.Ok.nofr (ok:X.Ok)(e:X.base.get? b=some o):b ∉ X.fs:=λhb=>by
 have:=(ok.funs.mem hb).1;rw[e]at this;cases this
theorem Inv.bs (I:Inv X pins σ H s): ∀b o,X.base.get? b=some o->s.heap.get? b=some o/\H b=none:=λb o e=>
 ⟨I.base.keep b o (I.ok.bs b o e).1 (I.ok.bs b o e).2 (I.ok.nofr e)<|I.ok.noex b o e,I.base.free b o (I.ok.bs b o e).1 (I.ok.bs b o e).2<|I.ok.noex b o e⟩
theorem Inv.bk (I:Inv X pins σ H s): ∀b o,X.base.get? b=some o->s.heap.get? b=some o:=λb o e=>(I.bs b o e).1
theorem Inv.mod (I:Inv X pins σ H s):Mod X.K X.mg X.base:=I.ok.mod
theorem Inv.kIn (I:Inv X pins σ H s):X.K.In s.heap:=I.ok.mod.kin.keeps I.bk
theorem Inv.nolimit (I:Inv X pins σ H s):s.heap.NoLimit:=I.ok.mod.nolimit.keeps I.bk
theorem Inv.lt (I:Inv X pins σ H s):X.env.locals<s.heap.objs.size:=let ⟨_,hn,_⟩:=I.loc;hn.lt
theorem Inv.sz (I:Inv X pins σ H s):X.s₀.heap.objs.size<=s.heap.objs.size:=aI I.ok.above (nW I.lt)
theorem Inv.nofs (I:Inv X pins σ H s)(h:s.heap.objs.size<=a):a ∉ X.fs:=λhb=>by
 obtain⟨_,o,ho,_⟩:=I.ok.funs.mem hb;exact absurd (b9 (aW ho)<|aI I.sz h) (d3 _)
theorem Inv.cne (I:Inv X pins σ H s): ∀x c,X.env.cells.lookup x=some c->c≠X.env.locals:=λx c e z=>by
 obtain⟨v,o,ho,hd⟩:=I.cell x c e;obtain⟨m,⟨o',es,ep,ho',hd',_⟩,_⟩:=I.loc;rw[z,ho']at ho;cases ho;rw[hd']at hd;cases hd
theorem Inv.funs (I:Inv X pins σ H s):s.heap.FunFrames X.base X.outer:=by
 have all: ∀(l:List Env),(∀b∈frs l,b∈X.fs)->X.s₀.heap.FunFrames X.base l->s.heap.FunFrames X.base l:=by
  intro l
  induction l with
  | nil=>intro _ _;trivial
  | cons env r ih=>
   intro hs hl;obtain⟨hk,⟨L,o,hf,hn,ho,hd⟩,hr⟩:=hl;have hL:L∈X.fs:=hs L (by unfold frs;rw[gZ,hf];exact hG)
   obtain⟨sl,e⟩:=I.base.slot L o ho (I.ok.frf L hL) hL λz=>I.ok.exfs L z hL
   exact⟨hk,⟨L,_,hf,hn,e,hd⟩,ih (λb hb=>hs b (by unfold frs;rw[gZ,hf];exact eM _ hb)) hr⟩
 exact all X.outer (λ_ hb=>hb) I.ok.funs
theorem Inv.stack (I:Inv X pins σ H s):s.heap.FunFrames X.base X.stack:=by
 rcases I.ok.stk with e| ⟨e,hf⟩
 .rw[e];exact I.funs
 .rw[e];obtain⟨m,hn,_⟩:=I.loc;refine .cons (by rw[I.ok.kind];decide) hf hn ?_ I.funs
  exact kY (aI I.ok.bsz I.ok.above)
theorem Inv.stkSub (I:Inv X pins σ H s): ∀b∈frs X.stack,b∈X.env.locals::X.fs:=λb hb=>by
 rcases I.ok.stk with e| ⟨e,hf⟩
 .rw[e]at hb;exact eM _ hb
 .rw[e]at hb;unfold frs at hb;rw[gZ,hf]at hb;exact hb
theorem Inv.stkFree (I:Inv X pins σ H s): ∀b∈frs X.stack,H b=none:=λb hb=>by
 rcases aZ.mp (I.stkSub b hb)with e|hb
 .rw[e];exact I.free
 .obtain⟨_,o,ho,_⟩:=I.ok.funs.mem hb;exact I.base.free b o ho (I.ok.frf b hb) λz=>I.ok.exfs b z hb
theorem Inv.step {g':Array GenState}{d':Drawn}(I:Inv X pins σ H s)
  (hch: ∀b∈ch,(b∈X.ex\/X.s₀.heap.objs.size<=b)/\b≠X.env.locals/\(∀x c,X.env.cells.lookup x=some c->c≠b)/\ ∀p∈X.pn++pins,p.1≠b)
  (keep: ∀b o,b≠X.env.locals->b ∉ X.fs->b ∉ ch->s.heap.get? b=some o->H b=none->h'.get? b=some o)
  (slot: ∀b o,b≠X.env.locals->b∈X.fs->b ∉ ch->s.heap.get? b=some o->H b=none-> ∃sl,h'.get? b=some {o with slots:=sl}) (free: ∀b o,b ∉ ch->s.heap.get? b=some o->H b=none->H' b=none)
  (there: ∀b o,b ∉ ch->s.heap.get? b=some o-> ∃o',h'.get? b=some o')
  (tups: ∀b xs,H b=some (.tup xs)->H' b=some (.tup xs)) (frzs: ∀b o u,H b=some (.frz o u)->H' b=some (.frz o u)) (tbls: ∀b ps,H b=some (.tbl ps)-> ∃more,H' b=some (.tbl<|ps++more))
  (ns: ∀m,s.heap.Ns X.env.locals m->h'.Ns X.env.locals m) (hok:HOk X.prog X.w H' h') (hg:AllBare g') :
  Inv X pins σ H' {s with heap:=h',gens:=g',drawn:=d',toks:=t'}:=by
 have neL: ∀b o,X.s₀.heap.get? b=some o->b≠X.env.locals:=λb o e=>bF (b9 (aW e) I.ok.above)
 have neC: ∀b o,X.s₀.heap.get? b=some o->b ∉ X.ex->b ∉ ch:=λb o e hx hb=>by
  rcases(hch b hb).1 with z|z
  .exact hx z
  .exact absurd (b9 (aW e) z) (d3 _)
 have cellK: ∀x c,X.env.cells.lookup x=some c-> ∀v,s.heap.IsCell c v->h'.IsCell c v:=λx c e v ⟨o,ho,hd⟩=>by
  have nch:c ∉ ch:=λz=>(hch c z).2.2.1 x c e rfl
  by_cases hc:c∈X.fs
  .obtain⟨sl,q⟩:=slot c o (I.cne x c e) hc nch ho (I.freeC x c e);exact⟨_,q,hd⟩
  .exact⟨o,keep c o (I.cne x c e) hc nch ho<|I.freeC x c e,hd⟩
 refine⟨I.ok,I.os,hg,⟨λb o e n hb hx=> ?_,λb o e n hb hx=> ?_,λb o e n hx=> ?_,λb o e hx=> ?_,λb xs e=>tups b xs (I.base.tups b xs e),λb o xs e=>frzs b o xs (I.base.frzs b o xs e),λb ps e=> ?_⟩,?_,λx c e=> ?_,?_,λx c e=> ?_,λp hp=> ?_,hok,I.len⟩
 .exact keep b o (neL b o e) hb (neC b o e hx) (I.base.keep b o e n hb hx) (I.base.free b o e n hx)
 .obtain⟨sl,e1⟩:=I.base.slot b o e n hb hx;obtain⟨sl',e2⟩:=slot b _ (neL b o e) hb (neC b o e hx) e1 (I.base.free b o e n hx);exact⟨sl',e2⟩
 .obtain⟨o',e1⟩:=I.base.there b o e hx;exact free b o' (neC b o e hx) e1 (I.base.free b o e n hx)
 .obtain⟨o',e1⟩:=I.base.there b o e hx;exact there b o' (neC b o e hx) e1
 .obtain⟨m1,e1⟩:=I.base.tbls b ps e;obtain⟨m2,e2⟩:=tbls b _ e1;exact⟨m1++m2,by rw[e2,Array.append_assoc]⟩
 .obtain⟨m,hn,hl⟩:=I.loc;refine⟨m,ns m hn,λi x v e1 e2 e3=> ?_⟩
  obtain⟨u,r,l⟩:=hl i x v e1 e2 e3;refine⟨u,r,?_⟩;rcases l with l| ⟨k,c,e,z⟩
  .exact .inl l
  .exact .inr ⟨k,c,e,cellK x c e _ z⟩
 .obtain⟨v,z⟩:=I.cell x c e;exact⟨v,cellK x c e v z⟩
 .obtain⟨m,⟨o,_,_,ho,_⟩,_⟩:=I.loc;exact free _ o (λz=>(hch _ z).2.1 rfl) ho I.free
 .obtain⟨v,o,ho,hd⟩:=I.cell x c e;exact free c o (λz=>(hch c z).2.2.1 x c e rfl) ho (I.freeC x c e)
 .obtain⟨e,n,ne,nf,d⟩:=I.pin p hp;have nch:p.1 ∉ ch:=λz=>(hch p.1 z).2.2.2 p hp rfl
  exact⟨keep p.1 p.2 ne nf nch e n,free p.1 p.2 nch e n,ne,nf,d⟩
theorem Inv.un (I:Inv X pins σ H s)(u:Un X.fs [] H H' s.heap h')(hok:HOk X.prog X.w H' h'):Inv X pins σ H' {s with heap:=h',toks:=t'}:=by
 obtain⟨m,⟨o,es,ep,ho,r⟩,_⟩:=id I.loc;obtain⟨sl,hL⟩:=u.any ho I.free ae
 exact I.step (g':=s.gens) (d':=s.drawn) (ch:=[]) (λ_ z=>nomatch z) (λb o _ hb _ e n=>u.keep b o e n hb ae) (λb o _ hb _ e n=>u.slot b o e n hb ae) (λb o _ e n=>u.free b o e n ae) (λb o _ e=>u.there b o e ae) u.tups u.frzs u.tbls (λm' hm=>by
  obtain⟨o',es',ep',ho',r'⟩:=hm;rw[ho]at ho';cases ho';exact⟨_,es',ep',hL,r'⟩) hok I.bare
theorem Inv.call {g':Array GenState}{d':Drawn}(I:Inv X pins σ H s)(u:Un (frs X.stack) ch H H' s.heap h')(hok:HOk X.prog X.w H' h')(hg:AllBare g')
  (hch: ∀b∈ch,(b∈X.ex\/X.s₀.heap.objs.size<=b)/\b≠X.env.locals/\(∀x c,X.env.cells.lookup x=some c->c≠b)/\ ∀p∈X.pn++pins,p.1≠b) :
  Inv X pins σ H' {s with heap:=h',gens:=g',drawn:=d',toks:=t'}:=by
 obtain⟨m,⟨o,es,ep,ho,r⟩,_⟩:=id I.loc;obtain⟨sl,hL⟩:=u.any ho I.free λz=>(hch _ z).2.1 rfl
 exact I.step (ch:=ch) hch (λb o hL hb hc e n=>u.keep b o e n (λz=>(aZ.mp<|I.stkSub b z).elim hL hb) hc) (λb o _ _ hc e n=>u.any e n hc) (λb o hc e n=>u.free b o e n hc) (λb o hc e=>u.there b o e hc) u.tups u.frzs u.tbls (λm' hm=>by
  obtain⟨o',es',ep',ho',r'⟩:=hm;rw[ho]at ho';cases ho';exact⟨_,es',ep',hL,r'⟩) hok hg
theorem Inv.turned (I:Inv X pins σ H s)(k: ∀b o,b≠it->s.heap.get? b=some o->h'.get? b=some o)(hn:H it=none)(hL:it≠X.env.locals)
  (h1:it∈X.ex\/X.s₀.heap.objs.size<=it) (h2: ∀x c,X.env.cells.lookup x=some c->c≠it) (h3: ∀p∈X.pn++pins,p.1≠it):Inv X pins σ H {s with heap:=h',toks:=t'}:=by
 have nit: ∀b u,H b=some u->b≠it:=λb u e z=>by rw[z,hn]at e;cases e
 refine I.step (g':=s.gens) (d':=s.drawn) (ch:=[it]) (λb hb=> ?_) (λb o _ _ hc e _=>k b o (λz=>hc (by simp[z])) e) (λb o _ _ hc e _=>⟨o.slots,k b o (λz=>hc (by simp[z])) e⟩) (λ_ _ _ _ n=>n)
  (λb o hc e=>⟨o,k b o (λz=>hc (by simp[z])) e⟩) (λ_ _ e=>e) (λ_ _ _ e=>e) (λb ps e=>⟨#[],by rw[e];simp⟩) (λm hm=> ?_) (λb u e=> ?_) I.bare
 .have e:b=it:=by simpa using hb
  subst e;exact⟨h1,hL,h2,h3⟩
 .obtain⟨o,es,ep,ho,r⟩:=hm;exact⟨o,es,ep,k _ o (Ne.symm hL) ho,r⟩
 .refine(I.hok b u e).stay (λc v hc q=>k c v ?_ q) (λ_ q=>q) λ_ _ q=>q
  rcases hc with z|z
  .rw[z];exact nit b u e
  .exact nit c _ z
theorem Inv.tok (I:Inv X pins σ H s)(t:Nat):Inv X pins σ H {s with toks:=t}:=I.un (h':=s.heap) (t':=t) Un.refl I.hok
theorem Inv.kept (I:Inv X pins σ H s)(k: ∀b u,s.heap.get? b=some u->h'.get? b=some u):Inv X pins σ H {s with heap:=h',toks:=t'}:=I.un (Un.kept k) (I.hok.kept k)
theorem Inv.laid {o:HO}(I:Inv X pins σ H s)(k: ∀b u,s.heap.get? b=some u->h'.get? b=some u)(hp:s.heap.objs.size<=a)(new:rH X.prog X.w (upd H a o) h' a o) :
  Inv X pins σ (upd H a o) {s with heap:=h',toks:=t'}:=I.un (Un.laid k hp<|I.hok.fresh hp) (I.hok.laid k hp new)
theorem Inv.write {x e:Addr}{o:HO}(I:Inv X pins σ H s)(mu:Mut (H x))(he:e=x\/H e=some (.own x))(k: ∀b u,b≠e->s.heap.get? b=some u->h'.get? b=some u)(heo: ∃u,h'.get? e=some u)
  (new:rH X.prog X.w (upd H x o) h' x o):Inv X pins σ (upd H x o) {s with heap:=h',toks:=t'}:=I.un (Un.write mu he k heo) (I.hok.write mu he k heo new)
theorem Inv.pins_of {pins':List (Addr×Obj)}(I:Inv X pins σ H s)(h: ∀p∈pins',s.heap.get? p.1=some p.2/\H p.1=none/\p.1≠X.env.locals/\p.1 ∉ X.fs/\ ∀v,p.2.data≠ .cell v):Inv X pins' σ H s:=
 ⟨I.ok,I.os,I.bare,I.base,I.loc,I.cell,I.free,I.freeC,λp hp=>(eE.mp hp).elim (λz=>I.pin p (zO _ z)) (h p),I.hok,I.len⟩
theorem bB0 (hN:N.Nodup)(a:N[i]? =some x)(b:N[j]? =some x):i=j:=by
 obtain⟨h1,e1⟩:=jY.mp a;obtain⟨h2,e2⟩:=jY.mp b;exact(List.getElem_inj hN).mp (e1.trans e2.symm)
theorem cW9 {M:Model}{v:V}{Q:Unit->Shared->Prop}(I:Inv X pins σ H s)(hN:X.N.Nodup)(hi:X.N[i]? =some x)(hx:Loc X.env.scope x)(r:RelV v u)
  (h: ∀s',Inv X pins (σ.set i<|some v) H s'->(∃a,SameBut a s.heap s'.heap/\(a=X.env.locals\/X.env.cells.lookup x=some a))->Q () s') (hf:X.fn x=true\/X.env.scope.names.lookup x=some .local:=by walk_at "z"):wpAny M A (storeName X.env x u) Q E s:=by
 obtain⟨m,hn,hl⟩:=id I.loc;have hcls:(X.env.scope.kind== .class||(X.env.scope.kind== .module&&X.env.locals != X.env.globals))=false:=by rw[I.ok.kind];rfl
 have hiσ:i<σ.length:=by rw[I.len];exact(jY.mp hi).1
 have cne:=I.cne;have tracked: ∀{a:Addr} {h':Heap},(∃o,s.heap.get? a=some o/\H a=none)->SameBut a s.heap h'->HOk X.prog X.w H h':=λ{a h'} ha hs b ob e=>by
  obtain⟨_,_,hfree⟩:=ha;refine(I.hok b ob e).stay (λc w' hc q=>(hs.2 c ?_).trans q) (λ_ q=>q) λ_ _ q=>q
  rintro rfl;rcases hc with rfl|hc
  .rw[hfree]at e;cases e
  .rw[hfree]at hc;cases hc
 rcases hx with hk|hk
 .refine wpAny_storeName_local hk hn (λh' hn' hs=> ?_) hcls
  obtain⟨oL,_,_,hoL,_⟩:=id hn;refine h _ ⟨I.ok,I.os,I.bare,⟨λb o e n hb hx=> ?_,λb o e n hb hx=> ?_,I.base.free,λb o e hx=> ?_,I.base.tups,I.base.frzs,I.base.tbls⟩,⟨_,hn',λj y v' e1 e2 e3=> ?_⟩,λy c e=> ?_,I.free,I.freeC,λp hp=> ?_,tracked ⟨oL,hoL,I.free⟩ hs,by simpa using I.len⟩ ⟨_,hs,.inl rfl⟩
  .exact(hs.2 b<|bF<|b9 (aW e) I.ok.above).trans (I.base.keep b o e n hb hx)
  .obtain⟨sl,e1⟩:=I.base.slot b o e n hb hx;exact⟨sl,(hs.2 b<|bF<|b9 (aW e) I.ok.above).trans e1⟩
  .obtain⟨o',e1⟩:=I.base.there b o e hx;exact⟨o',(hs.2 b<|bF<|b9 (aW e) I.ok.above).trans e1⟩
  .by_cases hj:j=i
   .subst hj;rw[hi]at e1;cases e1;rw[zI hiσ]at e2;cases e2;exact⟨u,r,.inl ⟨hk,ae⟩⟩
   .rw[pP<|Ne.symm hj]at e2;obtain⟨u',r',q⟩:=hl j y v' e1 e2 e3;refine⟨u',r',?_⟩;rcases q with⟨k,e⟩| ⟨k,c,e,z⟩
    .refine .inl ⟨k,?_⟩
     have:y≠x:=λe=>hj (bB0 hN e1<|e▸hi)
     simp[this,e]
    .exact .inr ⟨k,c,e,z.sameBut hs<|cne y c e⟩
  .obtain⟨w',z⟩:=I.cell y c e;exact⟨w',z.sameBut hs<|cne y c e⟩
  .obtain⟨e,n,ne,nf,d⟩:=I.pin p hp;exact⟨(hs.2 p.1 ne).trans e,n,ne,nf,d⟩
 .have hfn:X.fn x=true:=by
   rcases hf with z|z
   .exact z
   .rw[z]at hk;cases hk
  obtain⟨c,hc⟩:=I.ok.has x (.inl hk);obtain⟨w',z⟩:=I.cell x c hc;refine wpAny_storeName_cell I.ok.kind hk hc z (λh' hc' hs=> ?_)
  obtain⟨oc,hoc,hocd⟩:=id z;refine h {s with heap:=h'} ⟨I.ok,I.os,I.bare,⟨λb o e n hb hx=> ?_,λb o e n hb hx=> ?_,I.base.free,λb o e hx=> ?_,I.base.tups,I.base.frzs,I.base.tbls⟩,⟨m,hn.sameBut hs<|Ne.symm<|cne x c hc,λj y v' e1 e2 e3=> ?_⟩,λy c' e=> ?_,I.free,I.freeC,λp hp=> ?_,tracked ⟨oc,hoc,I.freeC x c hc⟩ hs,by simpa using I.len⟩ ⟨c,hs,.inr hc⟩
  .exact(hs.2 b<|bF<|b9 (aW e)<|I.ok.cab x c hfn hc).trans (I.base.keep b o e n hb hx)
  .obtain⟨sl,e1⟩:=I.base.slot b o e n hb hx;exact⟨sl,(hs.2 b<|bF<|b9 (aW e)<|I.ok.cab x c hfn hc).trans e1⟩
  .obtain⟨o',e1⟩:=I.base.there b o e hx;exact⟨o',(hs.2 b<|bF<|b9 (aW e)<|I.ok.cab x c hfn hc).trans e1⟩
  .by_cases hj:j=i
   .subst hj;rw[hi]at e1;cases e1;rw[zI hiσ]at e2;cases e2;exact⟨u,r,.inr ⟨.inl hk,c,hc,hc'⟩⟩
   .rw[pP<|Ne.symm hj]at e2;obtain⟨u',r',q⟩:=hl j y v' e1 e2 e3;refine⟨u',r',?_⟩;rcases q with q| ⟨k,c',e,z'⟩
    .exact .inl q
    .refine .inr ⟨k,c',e,z'.sameBut hs ?_⟩
     rintro rfl;exact hj (bB0 hN e1<|I.ok.inj _ _ _ e hc▸hi)
  .by_cases hcc:c'=c
   .subst hcc;exact⟨_,hc'⟩
   .obtain⟨w2,z2⟩:=I.cell y c' e;exact⟨w2,z2.sameBut hs hcc⟩
  .obtain⟨e,n,ne,nf,d⟩:=I.pin p hp;refine⟨(hs.2 p.1 ?_).trans e,n,ne,nf,d⟩;intro q;rw[q,hoc]at e;have q':oc=p.2:=hJ e;exact d w' (by rw[<-q'];exact hocd)
theorem yC {M:Model}{v:V}{Q:Unit->Shared->Prop}(I:Inv X pins σ H s)(hN:X.N.Nodup)(hi:X.N[i]? =some x)(hx:Loc X.env.scope x)(r:RelV v u)
  (h: ∀s',Inv X pins (σ.set i<|some v) H s'->Q () s') (hf:X.fn x=true\/X.env.scope.names.lookup x=some .local:=by walk_at "z"):wpAny M A (storeName X.env x u) Q E s:=
 cW9 I hN hi hx r (λs' I' _=>h s' I') hf
theorem Inv.call' (I:Inv X pins σ H s)(ho:s'.os=s.os)(u:Un (frs X.stack) ch H H' s.heap s'.heap)(hok:HOk X.prog X.w H' s'.heap)(hg:AllBare s'.gens)
  (hch: ∀b∈ch,(b∈X.ex\/X.s₀.heap.objs.size<=b)/\b≠X.env.locals/\(∀x c,X.env.cells.lookup x=some c->c≠b)/\ ∀p∈X.pn++pins,p.1≠b):Inv X pins σ H' s':=by
 obtain⟨h',g',d',t',o'⟩:=s';have e:o'=s.os:=ho;subst e;exact I.call (g':=g') (t':=t') (d':=d') u hok hg hch
end
abbrev XK:=Value->Option Addr->Hp->Prop
abbrev St:=List (Option V)
abbrev VK:=V->Hp->Prop
abbrev TE:=St->Hp->VK->Prop
abbrev TT:=St->Hp->(Bool->Hp->Prop)->Prop
abbrev TA:=St->Hp->(List V->Hp->Prop)->Prop
structure aS5 where
 nx:St->Hp->Prop
 rt:VK
 bk:St->Hp->Prop:=λ_ _=>False
 ct:St->Hp->Prop:=λ_ _=>False
abbrev TS:=aS5->St->Hp->Prop
def EP (X:Cx)(pins:List (Addr×Obj))(σ:St)(Q:VK)(u:Value)(s':Shared):Prop:= ∃v H',Inv X pins σ H' s'/\RelV v u/\Q v H'
def TP (X:Cx)(pins:List (Addr×Obj))(σ:St)(Q:Bool->Hp->Prop)(b:Bool)(s':Shared):Prop:= ∃H',Inv X pins σ H' s'/\Q b H'
def AP (X:Cx)(pins:List (Addr×Obj))(σ:St)(Q:List V->Hp->Prop)(us:List Value)(s':Shared):Prop:= ∃vs H',Inv X pins σ H' s'/\Vals vs us/\Q vs H'
def SP (X:Cx)(pins:List (Addr×Obj))(D:aS5)(f:Flow)(s':Shared):Prop:=
 match f with
 | .next=> ∃σ' H',Inv X pins σ' H' s'/\D.nx σ' H'
 | .brk=> ∃σ' H',Inv X pins σ' H' s'/\D.bk σ' H'
 | .cont=> ∃σ' H',Inv X pins σ' H' s'/\D.ct σ' H'
 | .ret u=> ∃v σ' H',Inv X pins σ' H' s'/\RelV v u/\D.rt v H'
def PE (X:Cx)(e:Expr)(t:TE):Prop:=
 ∀(pins:List (Addr×Obj)) (s:Shared) (σ:St) (H:Hp) (Q:VK),Inv X pins σ H s->t σ H Q->wpAny (model X.prog X.w) X.A (eval e X.env) (EP X pins σ Q) X.xe s
def PT (X:Cx)(e:Expr)(t:TT):Prop:=
 ∀(pins:List (Addr×Obj)) (s:Shared) (σ:St) (H:Hp) (Q:Bool->Hp->Prop),Inv X pins σ H s->t σ H Q->wpAny (model X.prog X.w) X.A (isTrue e X.env<|eval e X.env) (TP X pins σ Q) X.xe s
def PW (X:Cx)(e:Expr)(t:TT):Prop:=
 ∀(whole:Sem Value) (pins:List (Addr×Obj)) (s:Shared) (σ:St) (H:Hp) (Q:Bool->Hp->Prop),Inv X pins σ H s->t σ H Q->wpAny (model X.prog X.w) X.A (isTrue e X.env whole) (TP X pins σ Q) X.xe s
theorem PW.pt {X:Cx}{t:TT}(h:PW X e t):PT X e t:=h _
def PA (X:Cx)(es:List Expr)(t:TA):Prop:=
 ∀(pos:Pos) (pins:List (Addr×Obj)) (s:Shared) (σ:St) (H:Hp) (Q:List V->Hp->Prop),Inv X pins σ H s->t σ H Q->wpAny (model X.prog X.w) X.A (spliced<|backTo pos<|starEach es X.env) (AP X pins σ Q) X.xe s
def PS (X:Cx)(st:Stmt)(t:TS):Prop:=
 ∀(pins:List (Addr×Obj)) (s:Shared) (σ:St) (H:Hp) (D:aS5),Inv X pins σ H s->t D σ H->wpAny (model X.prog X.w) X.A (exec st X.env) (SP X pins D) X.xe s
def PSs (X:Cx)(st:List Stmt)(t:TS):Prop:=
 ∀(pins:List (Addr×Obj)) (s:Shared) (σ:St) (H:Hp) (D:aS5),Inv X pins σ H s->t D σ H->wpAny (model X.prog X.w) X.A (execs st X.env) (SP X pins D) X.xe s
theorem thn {t:Sem α}{Q Q':α->Shared->Prop}{M:Model}(h:wpAny M A t Q E s)(hQ: ∀a s,Q a s->Q' a s):wpAny M A t Q' E s:=bJ h hQ λ_ _ x=>x
section
variable {X:Cx}
def a82 (i:Nat):TE:=λσ H Q=> ∃v,σ[i]? =some (some v)/\Q v H
def tC (v:V):TE:=λ_ H Q=>Q v H
theorem pe_var (hN:X.N[i]? =some x)(hv:Vis X.env.scope x)(hd:⇑((x==("__debug__":Str))=false))(hcd:⇑((x==("__classdict__":Str))=false)):PE X (.Name x pos) (a82 i):=by
 intro pins s σ H Q I h;obtain⟨v,e,h⟩:=h;obtain⟨m,hn,hl⟩:=I.loc;obtain⟨u,r,l⟩:=hl i x v hN e hv;have fin:EP X pins σ Q u s:=⟨v,H,I,r,h⟩;rcases l with⟨hk,hm⟩| ⟨hk,c,hc,hcell⟩
 .exact nX (pQ I.ok.kind hk hn hm fin) hd
 .rcases hk with hk|hk
  .exact nX (wpAny_loadName_cell I.ok.kind hk hc hcell fin) hd
  .exact nX (wpAny_loadName_free I.ok.kind hk hc hcell fin hcd) hd
theorem pe_int {i j pos}:PE X (.Constant (.int i) j pos) (tC<|.int i):=λ_ _ _ H _ I h=>wpAny_Constant_int ⟨.int i,H,I.tok _,⟨_,rfl⟩,h⟩
theorem pe_bl {b j pos}:PE X (.Constant (.bool b) j pos) (tC<|.bl b):=λ_ _ _ H _ I h=>Constant_bool ⟨.bl b,H,I,rfl,h⟩
theorem pe_non {j pos}:PE X (.Constant .none j pos) (tC .non):=λ_ _ _ H _ I h=>Constant_none ⟨.non,H,I,rfl,h⟩
theorem pe_str {x j pos}:PE X (.Constant (.str x) j pos) (tC<|.str x):=λ_ _ _ H _ I h=>Calls.Constant_str ⟨.str x,H,I.tok _,⟨_,rfl⟩,h⟩
def Gl (X:Cx)(x:Str):Prop:=X.env.kindOf x=some .globalImplicit
theorem nE {σ:St}{H:Hp}(I:Inv X pins σ H s)(hg:Gl X x)(hm:X.mg x=some u)(h:Q u s)
  (hd:⇑((x==("__debug__":Str))=false)):wpAny (model X.prog X.w) X.A (eval (.Name x pos) X.env) Q E s:=
 Calls.Name_function_global I.ok.kind hg (Calls.loadGlobal_global (by rw[I.ok.glob];exact I.mod.glob.keeps I.bk) hm h) hd
theorem uF {σ:St}{H:Hp}(I:Inv X pins σ H s)(hg:Gl X x)(hm:X.mg x=none)(hv:bootBuiltins x=some u)(h:Q u s)
  (hn:⇑(x≠"__name__")) (hd:⇑((x==("__debug__":Str))=false)):wpAny (model X.prog X.w) X.A (eval (.Name x pos) X.env) Q E s:=by
 obtain⟨mb,h1,h2⟩:=I.mod.blt;exact Calls.Name_function_global I.ok.kind hg (Calls.loadGlobal_builtin (by rw[I.ok.glob];exact I.mod.glob.keeps I.bk) hm (by rw[I.ok.blt];exact h1.keeps I.bk) ((h2 x hn).trans hv) h) hd
theorem bW3 {v:V}(hg:Gl X x)(hm:X.mg x=some u)(r:RelV v u)(hd:⇑((x==("__debug__":Str))=false)):PE X (.Name x pos) (tC v):=
 λ_ _ _ H _ I h=>nE I hg hm ⟨v,H,I,r,h⟩ hd
theorem dM4 {v:V}(hg:Gl X x)(hm:X.mg x=none)(hv:bootBuiltins x=some u)(r:RelV v u)(hn:⇑(x≠"__name__"))(hd:⇑((x==("__debug__":Str))=false)):PE X (.Name x pos) (tC v):=
 λ_ _ _ H _ I h=>uF I hg hm hv ⟨v,H,I,r,h⟩ hn hd
variable {a b:Expr}{ta tb:TE}{pos:Pos}
def PC (X:Cx)(op:CmpOp)(a b:Expr)(t:TE):Prop:=
 ∀(pins:List (Addr×Obj)) (s:Shared) (σ:St) (H:Hp) (Q:VK),Inv X pins σ H s->t σ H Q->
  wpAny (model X.prog X.w) X.A (eval a X.env) (λv s₁=>wpAny (model X.prog X.w) X.A (eval b X.env) (λu s₂=>wpAny (model X.prog X.w) X.A (compareOp op v u) (EP X pins σ Q) X.xe s₂) X.xe s₁) X.xe s
theorem d52 (b:Expr)(h:op≠ .In)(h2:op≠ .NotIn):behindInMarks op b=false:=by
 have e1:(op==CmpOp.In)=false:=by cases op<;>first|rfl|exact absurd rfl h
 have e2:(op==CmpOp.NotIn)=false:=by cases op<;>first|rfl|exact absurd rfl h2
 cases b<;>simp[behindInMarks,e1,e2]
def tIsN (ta:TE):TE:=λσ H Q=>ta σ H λx H1=>Q (.bl<|decide (x= .non)) H1
def dY1 (ta:TE):TE:=λσ H Q=>ta σ H λx H1=>Q (.bl<|!decide (x= .non)) H1
theorem RelV.none_iff {x:V}(r:RelV x v):(v==Value.none)=decide (x= .non):=by
 cases x with
 | non=>cases r;rfl
 | bl _=>cases r;rfl
 | int _=>obtain⟨t,rfl⟩:=r;rfl
 | str _=>obtain⟨t,rfl⟩:=r;rfl
 | byt _=>obtain⟨t,rfl⟩:=r;rfl
 | flt _=>obtain⟨t,rfl⟩:=r;rfl
 | ref _=>cases r;rfl
 | ty _=>cases r;rfl
theorem pc_isN {j pos'}(ha:PE X a ta):PC X .Is a (.Constant .none j pos') (tIsN ta):=by
 intro pins s σ H Q I h;refine thn (ha pins s σ H _ I h) λv s1 ⟨x,H1,I1,r1,q1⟩=> ?_
 exact Constant_none (is_none_gen ⟨.bl _,H1,I1,by rw[r1.none_iff];rfl,q1⟩)
theorem dM5 {j pos'}(ha:PE X a ta):PC X .IsNot a (.Constant .none j pos') (dY1 ta):=by
 intro pins s σ H Q I h;refine thn (ha pins s σ H _ I h) λv s1 ⟨x,H1,I1,r1,q1⟩=> ?_
 exact Constant_none (isnot_none_gen ⟨.bl _,H1,I1,by rw[r1.none_iff];rfl,q1⟩)
def tB (t:TE):TT:=λσ H Q=>t σ H λx H1=> ∃c,x= .bl c/\Q c H1
theorem d53 {t:TE}(h:PC X op a b t)(h1:behindInMarks op b=false:=by first|exact d52 _ ac ac|rfl):PT X (.Compare a [op] [b] pos) (tB t):=by
 intro pins s σ H Q I hw;refine wpAny_isTrue_Compare1 (thn (h pins s σ H _ I hw) λv s1 h1=>thn h1 λu s2 h2=>thn h2 λc s3 ⟨x,H1,I1,r1,q1⟩=> ?_) h1
 obtain⟨d,rfl,q⟩:=q1;cases r1;exact nP ⟨H1,I1,q⟩
theorem pt_val {t:TE}(h:PE X e t)(he: ∀whole,isTrue e X.env whole=(do let v<-whole;standAt e.pos;holding [v] (truthy v)):=by intro _;rfl):PT X e (tB t):=by
 intro pins s σ H Q I hw;refine isTrue_plain (thn (h pins s σ H _ I hw) λv s1 ⟨x,H1,I1,r1,q1⟩=> ?_) (he _)
 obtain⟨d,rfl,q⟩:=q1;cases r1;exact nP ⟨H1,I1,q⟩
variable {tA tB':TT}{wK:List Expr}
def tAnd (t u:TT):TT:=λσ H Q=>t σ H λc H1=>if c=true then u σ H1 Q else Q false H1
def tOr (t u:TT):TT:=λσ H Q=>t σ H λc H1=>if c=true then Q true H1 else u σ H1 Q
def tNot (t:TT):TT:=λσ H Q=>t σ H λc H1=>Q (!c) H1
theorem dM6 (ha:PT X a tA):PW X (.BoolOp .And [a] pos) tA:=by
 intro wh pins s σ H Q I h;refine isTrue_and (thn (ha pins s σ H Q I h) λc s1 e=> ?_)
 cases c with
 | true=>exact isTrue_and_nil e
 | false=>exact e
theorem pw_or1 (ha:PT X a tA):PW X (.BoolOp .Or [a] pos) tA:=by
 intro wh pins s σ H Q I h;refine isTrue_or (thn (ha pins s σ H Q I h) λc s1 e=> ?_)
 cases c with
 | false=>exact isTrue_or_nil e
 | true=>exact e
theorem pw_and (ha:PT X a tA)(hb:PW X (.BoolOp .And (b::wK) pos) tB'):PW X (.BoolOp .And (a::b::wK) pos) (tAnd tA tB'):=by
 intro wh pins s σ H Q I h;refine isTrue_and (thn (ha pins s σ H _ I h) λc s1 ⟨H1,I1,q1⟩=> ?_)
 cases c with
 | true=>exact hb wh pins s1 σ H1 Q I1 q1
 | false=>exact⟨H1,I1,q1⟩
theorem pw_or (ha:PT X a tA)(hb:PW X (.BoolOp .Or (b::wK) pos) tB'):PW X (.BoolOp .Or (a::b::wK) pos) (tOr tA tB'):=by
 intro wh pins s σ H Q I h;refine isTrue_or (thn (ha pins s σ H _ I h) λc s1 ⟨H1,I1,q1⟩=> ?_)
 cases c with
 | true=>exact⟨H1,I1,q1⟩
 | false=>exact hb wh pins s1 σ H1 Q I1 q1
theorem pt_not (ha:PT X a tA):PT X (.UnaryOp .Not a pos) (tNot tA):=by
 intro pins s σ H Q I h;exact isTrue_not (ha pins s σ H (λc H1=>Q (!c) H1) I h)
def tAndV (ta tb:TE):TE:=λσ H Q=>ta σ H λx H1=> ∃c,x= .bl c/\if c=true then tb σ H1 Q else Q (.bl false) H1
def tNotV (ta:TE):TE:=λσ H Q=>ta σ H λx H1=> ∃c,x= .bl c/\Q (.bl<|!c) H1
theorem pe_one {op}{t:TE}(h:PE X a t):PE X (.BoolOp op [a] pos) t:=λpins s σ H Q I hw=>BoolOp_one (h pins s σ H Q I hw)
theorem pe_and (ha:PE X a ta)(hb:PE X (.BoolOp .And (b::wK) pos) tb):PE X (.BoolOp .And (a::b::wK) pos) (tAndV ta tb):=by
 intro pins s σ H Q I h;refine BoolOp_and (thn (ha pins s σ H _ I h) λv s1 ⟨x,H1,I1,r1,q1⟩=> ?_)
 obtain⟨c,rfl,q1⟩:=q1;cases r1;refine nP ?_;cases c with
 | true=>exact hb pins s1 σ H1 Q I1 q1
 | false=>exact⟨.bl false,H1,I1,rfl,q1⟩
theorem pe_not (ha:PE X a ta):PE X (.UnaryOp .Not a pos) (tNotV ta):=by
 intro pins s σ H Q I h;refine UnaryOp_ (thn (ha pins s σ H _ I h) λv s1 ⟨x,H1,I1,r1,q1⟩=> ?_)
 obtain⟨c,rfl,q1⟩:=q1;cases r1;exact not_of (nP ⟨.bl<|!c,H1,I1,rfl,q1⟩)
def tIf (t:TT)(ta tb:TE):TE:=λσ H Q=>t σ H λc H1=>if c=true then ta σ H1 Q else tb σ H1 Q
theorem d54 (hc:PT X c tA)(ha:PE X a ta)(hb:PE X b tb):PE X (.IfExp c a b pos) (tIf tA ta tb):=by
 intro pins s σ H Q I h;refine wpAny_IfExp (thn (hc pins s σ H _ I h) λd s1 ⟨H1,I1,q1⟩=> ?_)
 cases d with
 | true=>exact ha pins s1 σ H1 Q I1 q1
 | false=>exact hb pins s1 σ H1 Q I1 q1
end
def SqL (K:PySem.W.Frag)(H:Hp)(a:Addr)(xs:List V):Prop:=
 Rd H a (.lst xs)\/
  ∃(o:Obj) (its:Array Value) (n:Nat),K.lookup a=some o/\o.cls= .type "list"/\o.dict=none/\o.data= .seq its n/\its.size<=sizeLine/\Vals xs its.toList
def SqT (K:PySem.W.Frag)(H:Hp)(a:Addr)(xs:List V):Prop:=
 Rd H a (.tup xs)\/
  ∃(o:Obj) (its:Array Value) (n:Nat),K.lookup a=some o/\o.cls= .type "tuple"/\o.data= .seq its n/\its.size<=sizeLine/\Vals xs its.toList
noncomputable def absV:Value->Option V
 | .none=>some .non
 | .bool b=>some (.bl b)
 | .int i _=>some (.int i)
 | .str x _=>some (.str x)
 | .bytes b _=>some (.byt b)
 | .float b _=>some (.flt b)
 | .ref a=>some (.ref a)
 | .type n=>some (.ty n)
 | _=>none
theorem RelV.abs {x:V}(r:RelV x u):absV u=some x:=by
 cases x with
 | non=>cases r;rfl
 | bl _=>cases r;rfl
 | int _=>obtain⟨t,rfl⟩:=r;rfl
 | str _=>obtain⟨t,rfl⟩:=r;rfl
 | byt _=>obtain⟨t,rfl⟩:=r;rfl
 | flt _=>obtain⟨t,rfl⟩:=r;rfl
 | ref _=>cases r;rfl
 | ty _=>cases r;rfl
theorem RelV.inj {x y:V}(r:RelV x u)(q:RelV y u):x=y:=hJ (r.abs.symm.trans q.abs)
theorem Vals.inj: ∀{xs ys:List V} {us:List Value},Vals xs us->Vals ys us->xs=ys
 | _,_,_,.nil,.nil=>rfl
 | _,_,_,.cons r t,.cons r' t'=>by rw[r.inj r',Vals.inj t t']
section
variable {X:Cx}{pins:List (Addr×Obj)}{σ:St}{H:Hp}{s:Shared}{a:Addr}{xs ys:List V}
theorem SqL.of (h:H a=some (.lst xs)):SqL K H a xs:= .inl (.inl h)
theorem Inv.list (I:Inv X pins σ H s)(h:SqL X.K H a xs): ∃its:List Value,Vals xs its/\PlainL s.heap a its.toArray/\xs.length<=sizeLine:=by
 rcases h with h| ⟨o,its,n,hk,hc,hd,hs,hz,r⟩
 .obtain⟨z,its,n,r,e⟩:=h.ok I.hok;exact⟨its,r,⟨_,n,e,rfl,rfl,rfl⟩,z⟩
 .refine⟨its.toList,r,⟨o,n,I.kIn a o hk,hc,hd,by simpa using hs⟩,?_⟩
  have e:=r.length;simp only[aN6]at e
  lia
theorem Inv.tuple (I:Inv X pins σ H s)(h:SqT X.K H a xs): ∃its:List Value,Vals xs its/\IsTup s.heap a its.toArray/\xs.length<=sizeLine:=by
 rcases h with h| ⟨o,its,n,hk,hc,hs,hz,r⟩
 .obtain⟨z,its,r,p⟩:=h.ok I.hok;exact⟨its,r,p,z⟩
 .refine⟨its.toList,r,⟨o,I.kIn a o hk,hc,n,by simpa using hs⟩,?_⟩
  have e:=r.length;simp only[aN6]at e
  lia
theorem Inv.list_inj (I:Inv X pins σ H s)(h:SqL X.K H a xs)(h':SqL X.K H a ys):xs=ys:=by
 obtain⟨its,r,⟨o,n,e,_,_,d⟩,_⟩:=I.list h;obtain⟨its',r',⟨o',n',e',_,_,d'⟩,_⟩:=I.list h';rw[e]at e';cases e';rw[d]at d'
 injection d' with d1 _
 have:its=its':=by simpa using fE toList d1
 subst this;exact r.inj r'
theorem Inv.tuple_inj (I:Inv X pins σ H s)(h:SqT X.K H a xs)(h':SqT X.K H a ys):xs=ys:=by
 obtain⟨its,r,⟨o,e,_,n,d⟩,_⟩:=I.tuple h;obtain⟨its',r',⟨o',e',_,n',d'⟩,_⟩:=I.tuple h';rw[e]at e';cases e';rw[d]at d'
 injection d' with d1 _
 have:its=its':=by simpa using fE toList d1
 subst this;exact r.inj r'
end
noncomputable abbrev Cx.wish (X:Cx)(E:Value->Shared->Prop):Cx:={X with xe:=E}
noncomputable abbrev Cx.nox (X:Cx):Cx:=X.wish λ_ _=>False
theorem Cx.Ok.wish {X:Cx}(ok:X.Ok)(E:Value->Shared->Prop):(X.wish E).Ok:=
 ⟨ok.mod,ok.kind,ok.glob,ok.blt,ok.above,ok.inj,ok.has,ok.cab,ok.hd,ok.frames,ok.stk,ok.exf,ok.bs,ok.bsz,ok.noex,ok.exfs,ok.funs,ok.frf⟩
theorem Cx.Ok.unwish {X:Cx}(ok:(X.wish E).Ok):X.Ok:=
 ⟨ok.mod,ok.kind,ok.glob,ok.blt,ok.above,ok.inj,ok.has,ok.cab,ok.hd,ok.frames,ok.stk,ok.exf,ok.bs,ok.bsz,ok.noex,ok.exfs,ok.funs,ok.frf⟩
section
variable {X:Cx}{pins:List (Addr×Obj)}{σ:St}{H:Hp}{s:Shared}{E:Value->Shared->Prop}
theorem Inv.wish (I:Inv X pins σ H s)(E:Value->Shared->Prop):Inv (X.wish E) pins σ H s:=⟨I.ok.wish E,I.os,I.bare,I.base,I.loc,I.cell,I.free,I.freeC,I.pin,I.hok,I.len⟩
theorem Inv.unwish (I:Inv (X.wish E) pins σ H s):Inv X pins σ H s:=⟨I.ok.unwish,I.os,I.bare,I.base,I.loc,I.cell,I.free,I.freeC,I.pin,I.hok,I.len⟩
theorem SP.unwish {D:aS5}{f:Flow}(h:SP (X.wish E) pins D f s'):SP X pins D f s':=by
 cases f with
 | next=>obtain⟨σ',H',I,q⟩:=h;exact⟨σ',H',I.unwish,q⟩
 | brk=>obtain⟨σ',H',I,q⟩:=h;exact⟨σ',H',I.unwish,q⟩
 | cont=>obtain⟨σ',H',I,q⟩:=h;exact⟨σ',H',I.unwish,q⟩
 | ret u=>obtain⟨v,σ',H',I,r,q⟩:=h;exact⟨v,σ',H',I.unwish,r,q⟩
theorem PSs.nox {st:List Stmt}{t:TS}(h:PSs X.nox st t):PSs X st t:=λpins s σ H D I hw=>
 bJ (h pins s σ H D (I.wish _) hw) (λ_ _ q=>q.unwish) λ_ _ z=>False.elim z
end
section
variable {X:Cx}{st:Stmt}{wK:List Stmt}{t u:TS}{e:Expr}{te:TE}{pos:Pos}
def tNext:TS:=λD σ H=>D.nx σ H
def tSeq (t u:TS):TS:=λD σ H=>t {D with nx:=u D} σ H
theorem dM7:PSs X [] tNext:=λ_ _ σ H _ I h=>kC ⟨σ,H,I,h⟩
theorem yD (h1:PS X st t)(h2:PSs X wK u):PSs X (st::wK) (tSeq t u):=by
 intro pins s σ H D I h;refine pY (thn (h1 pins s σ H {D with nx:=u D} I h) λf s1 q=> ?_)
 cases f with
 | next=>
  obtain⟨σ',H',I',q⟩:=q;exact h2 pins s1 σ' H' D I' q
 | ret v=>exact q
 | brk=>exact q
 | cont=>exact q
theorem bW4 (h1:PS X st t):PSs X [st] t:=by
 intro pins s σ H D I h;refine pY (thn (h1 pins s σ H D I h) λf s1 q=> ?_)
 cases f with
 | next=>exact kC q
 | ret v=>exact q
 | brk=>exact q
 | cont=>exact q
theorem Inv.quiet {σ:St}{H:Hp}(I:Inv X pins σ H s):interactive X.env=false:=by simp[interactive,I.ok.kind]
def tDrop (te:TE):TS:=λD σ H=>te σ H λ_ H1=>D.nx σ H1
theorem bW5 (he:PE X e te)(hs:↥(swapsWith e none pos.line X.env=pure false)):PS X (.Expr e pos) (tDrop te):=by
 intro pins s σ H D I h;exact wpAny_Expr_any (thn (he pins s σ H _ I h) λv s1 ⟨x,H1,I1,r1,q1⟩=>⟨σ,H1,I1,q1⟩) I.quiet hs
def tRet (te:TE):TS:=λD σ H=>te σ H D.rt
theorem d55 (he:PE X e te):PS X (.Return (some e) pos) (tRet te):=by
 intro pins s σ H D I h;exact wpAny_Return_some (thn (he pins s σ H _ I h) λv s1 ⟨x,H1,I1,r1,q1⟩=>⟨x,σ,H1,I1,r1,q1⟩)
def tIfS (c:TT)(t u:TS):TS:=λD σ H=>c σ H λb H1=>if b=true then t D σ H1 else u D σ H1
theorem dY2 {a b:List Stmt}{tc:TT}(hc:PT X c tc)(ha:PSs X a t)(hb:PSs X b u):PS X (.If c a b pos) (tIfS tc t u):=by
 intro pins s σ H D I h;refine wpAny_If (thn (hc pins s σ H _ I h) λd s1 ⟨H1,I1,q1⟩=> ?_)
 cases d with
 | true=>exact ha pins s1 σ H1 D I1 q1
 | false=>exact hb pins s1 σ H1 D I1 q1
def tNever:TS:=λ_ _ _=>False
theorem d56:PS X st tNever:=λ_ _ _ _ _ _ h=>h.elim
end
abbrev TG:=V->St->Hp->(St->Hp->Prop)->Prop
abbrev TGs:=List V->St->Hp->(St->Hp->Prop)->Prop
def PG (X:Cx)(target:Expr)(t:TG):Prop:=
 ∀(pins:List (Addr×Obj)) (s:Shared) (σ:St) (H:Hp) (v:V) (u:Value) (Q:St->Hp->Prop),Inv X pins σ H s->RelV v u->t v σ H Q->
  wpAny (model X.prog X.w) X.A (assign target X.env u) (λ_ s'=> ∃σ' H',Inv X pins σ' H' s'/\Q σ' H') X.xe s
def PGs (X:Cx)(ts:List Expr)(t:TGs):Prop:=
 ∀(pins:List (Addr×Obj)) (s:Shared) (σ:St) (H:Hp) (vs:List V) (us:List Value) (Q:St->Hp->Prop),Inv X pins σ H s->Vals vs us->t vs σ H Q->
  wpAny (model X.prog X.w) X.A (assignInOrder ((assignEach ts X.env).map (·.2)) us) (λ_ s'=> ∃σ' H',Inv X pins σ' H' s'/\Q σ' H') X.xe s
abbrev d57:=V->V->V->Hp->(Hp->Prop)->Prop
def PSet (X:Cx)(t:d57):Prop:=
 ∀(pins:List (Addr×Obj)) (s:Shared) (σ:St) (H:Hp) (o i v:V) (ov iv u:Value) (Q:Hp->Prop),Inv X pins σ H s->RelV o ov->RelV i iv->RelV v u->t o i v H Q->
  wpAny (model X.prog X.w) X.A (setItem ov iv u) (λ_ s'=> ∃H',Inv X pins σ H' s'/\Q H') X.xe s
abbrev TIp:=V->V->Hp->VK->Prop
def PIp (X:Cx)(op:Operator)(t:TIp):Prop:=
 ∀(pins:List (Addr×Obj)) (s:Shared) (σ:St) (H:Hp) (x y:V) (v u:Value) (Q:VK),Inv X pins σ H s->RelV x v->RelV y u->t x y H Q->
  wpAny (model X.prog X.w) X.A (inplaceOp op v u) (EP X pins σ Q) X.xe s
section
variable {X:Cx}{pos:Pos}
def aS6 (i:Nat):TG:=λv σ H Q=>Q (σ.set i<|some v) H
theorem dG (hN:X.N.Nodup)(hi:X.N[i]? =some x)(hx:Loc X.env.scope x)(hf:X.fn x=true\/X.env.scope.names.lookup x=some .local:=by walk_at "z"):PG X (.Name x pos) (aS6 i):=by
 intro pins s σ H v u Q I r h;exact wpAny_assign_Name (yC I hN hi hx r (λs' I'=>⟨_,H,I',h⟩) hf)
def gNil:TGs:=λvs σ H Q=>vs=[]/\Q σ H
def gCons (t:TG)(u:TGs):TGs:=λvs σ H Q=> ∃v r,vs=v::r/\t v σ H λσ' H'=>u r σ' H' Q
theorem dM8:PGs X [] gNil:=by
 intro pins s σ H vs us Q I r h;obtain⟨e,h⟩:=h;subst e;cases r;exact assignInOrder_nil ⟨σ,H,I,h⟩
theorem d58 {e:Expr}{es:List Expr}{t:TG}{u:TGs}(h1:PG X e t)(h2:PGs X es u)
  (hs:↥((assignEach (e::es) X.env).map (·.2)=assign e X.env::(assignEach es X.env).map (·.2))):PGs X (e::es) (gCons t u):=by
 intro pins s σ H vs us Q I r h;obtain⟨v,vr,e1,h⟩:=h;subst e1;cases r with
 | cons r rr=>
  rw[hs];refine assignInOrder_cons (thn (h1 pins s σ H _ _ _ I r h) λ_ s1 ⟨σ1,H1,I1,q1⟩=> ?_)
  exact h2 pins s1 σ1 H1 _ _ Q I1 rr q1
def gTup (K:PySem.W.Frag)(n:Nat)(t:TGs):TG:=λv σ H Q=> ∃a xs,v= .ref a/\SqT K H a xs/\xs.length=n/\t xs σ H Q
theorem pg_tup {t:TGs}(hc:X.calm=true)(h:PGs X es t)
  (hn:↥((assignEach es X.env).length=n)) (hst:↥((assignEach es X.env).findIdx? (·.1)=none)):PG X (.Tuple es k pos) (gTup X.K n t):=by
 intro pins s σ H v u Q I r hw;obtain⟨a,xs,e1,hq,hl,hw⟩:=hw;subst e1;cases r;obtain⟨its,rv,ht,hz⟩:=I.tuple hq;refine assign_Tuple_tuple (I.ok.hd hc) ht (by simp[hn,<-hl,rv.length]) hst λh' hx=> ?_
 have I1:Inv X pins σ H {s with heap:=h'}:=I.kept (t':=s.toks) λb o e=>hx b o (bF<|aW e) e
 exact h pins _ σ H xs _ Q I1 (by simpa using rv) hw
def gSub (to ti:TE)(t:d57):TG:=λv σ H Q=>to σ H λo H1=>ti σ H1 λi H2=>t o i v H2 λH3=>Q σ H3
theorem pg_sub {o i:Expr}{to ti:TE}{t:d57}(ho:PE X o to)(hi:PE X i ti)(hs:PSet X t)
  (ha: ∀v,assign (.Subscript o i pos) X.env v=(do
   let ov<-holding [v] (eval o X.env)
   let iv<-holding [v,ov] (eval i X.env)
   standAt pos
   holding [v,ov,iv] (setItem ov iv v)
   release [v,ov,iv] []):=by intro _;rfl):PG X (.Subscript o i pos) (gSub to ti t):=by
 intro pins s σ H v u Q I r h;rw[ha];refine a9 (hX<|thn (ho pins s σ H _ I h) λov s1 ⟨x,H1,I1,r1,q1⟩=> ?_)
 refine a9 (hX<|thn (hi pins s1 σ H1 _ I1 q1) λiv s2 ⟨y,H2,I2,r2,q2⟩=> ?_)
 refine a9 (qB<|a9<|hX<|thn (hs pins s2 σ H2 x y v ov iv u _ I2 r1 r2 r q2) λ_ s3 ⟨H3,I3,q3⟩=> ?_)
 exact wpAny_release ⟨σ,H3,I3,q3⟩
def dM9 (te:TE)(g:TG):TS:=λD σ H=>te σ H λx H1=>g x σ H1 D.nx
theorem d59 {te:TE}{g:TG}(he:PE X e te)(hg:PG X tg g)(hs:↥(swapsWithSole [tg] e pos.line X.env=pure false))(hw:↥(swappedStores [tg] e X.env=pure none))
  (h1:↥((assignEach [tg] X.env).map (·.2)=[assign tg X.env])):PS X (.Assign [tg] e pos) (dM9 te g):=by
 intro pins s σ H D I h;refine wpAny_Assign_stores (thn (he pins s σ H _ I h) λv s1 ⟨x,H1,I1,r1,q1⟩=> ?_) hs hw
 rw[h1];exact thn (hg pins s1 σ H1 x v _ I1 r1 q1) λ_ s2 q=>q
theorem ps_set {te:TE}(hN:X.N.Nodup)(hi:X.N[i]? =some x)(hx:Loc X.env.scope x)(he:PE X e te)(hs:↥(swapsWith e (some<|.Name x pos') pos.line X.env=pure false))(hf:X.fn x=true\/X.env.scope.names.lookup x=some .local:=by walk_at "z") :
  PS X (.Assign [.Name x pos'] e pos) (dM9 te<|aS6 i):=by
 intro pins s σ H D I h;refine aO3 (thn (he pins s σ H _ I h) λv s1 ⟨y,H1,I1,r1,q1⟩=> ?_) hs
 exact yC I1 hN hi hx r1 (λs2 I2=>⟨_,H1,I2,q1⟩) hf
def tAug (i:Nat)(te:TE)(ti:TIp):TS:=λD σ H=> ∃x,σ[i]? =some (some x)/\te σ H λy H1=>ti x y H1 λz H2=>D.nx (σ.set i<|some z) H2
theorem ps_aug {te:TE}{op:Operator}{ti:TIp}(hN:X.N.Nodup)(hi:X.N[i]? =some x)(hx:Loc X.env.scope x)(he:PE X e te)(ho:PIp X op ti)(hf:X.fn x=true\/X.env.scope.names.lookup x=some .local:=by walk_at "z") :
  PS X (.AugAssign (.Name x pos') op e pos) (tAug i te ti):=by
 intro pins s σ H D I h;obtain⟨v,e1,h⟩:=h;obtain⟨m,hn,hl⟩:=I.loc;have vis:Vis X.env.scope x:=by rcases hx with k|k;exact .inl k;exact .inr (.inl k)
 obtain⟨u,r,l⟩:=hl i x v hi e1 vis;refine wpAny_AugAssign_Name ?_;have go:wpAny (model X.prog X.w) X.A (eval e X.env) (λw s₂=>wpAny (model X.prog X.w) X.A (inplaceOp op u w) (λr s₃=>wpAny (model X.prog X.w) X.A (storeName X.env x r) (λ_=>SP X pins D .next) X.xe s₃) X.xe s₂) X.xe s:=by
  refine thn (he pins s σ H _ I h) λw s1 ⟨y,H1,I1,r1,q1⟩=> ?_
  refine thn (ho pins s1 σ H1 v y u w _ I1 r r1 q1) λz s2 ⟨zv,H2,I2,r2,q2⟩=> ?_
  exact yC I2 hN hi hx r2 (λs3 I3=>⟨_,H2,I3,q2⟩) hf
 rcases l with⟨hk,hm⟩| ⟨hk,c,hc,hcell⟩
 .exact pQ I.ok.kind hk hn hm go
 .rcases hk with hk|hk
  .exact wpAny_loadName_cell I.ok.kind hk hc hcell go
  .rcases hx with k|k
   .have:X.env.scope.names.lookup x=some .free:=hk;rw[k]at this;cases this
   .have:X.env.scope.names.lookup x=some .free:=hk;rw[k]at this;cases this
def tAugS (to ti te:TE)(tget:V->V->Hp->VK->Prop)(tip:TIp)(tset:d57):TS:=λD σ H=>to σ H λo H1=>ti σ H1 λi H2=>tget o i H2 λx H3=>te σ H3 λy H4=>tip x y H4 λz H5=>tset o i z H5 λH6=>D.nx σ H6
def PGet (X:Cx)(t:V->V->Hp->VK->Prop):Prop:=
 ∀(pins:List (Addr×Obj)) (s:Shared) (σ:St) (H:Hp) (o i:V) (ov iv:Value) (Q:VK),Inv X pins σ H s->RelV o ov->RelV i iv->t o i H Q->
  wpAny (model X.prog X.w) X.A (getItem ov iv) (EP X pins σ Q) X.xe s
theorem dN0 {o i:Expr}{to ti te:TE}{tget:V->V->Hp->VK->Prop}{tip:TIp}{tset:d57}{op:Operator}(ho:PE X o to)(hi:PE X i ti)(hg:PGet X tget)(he:PE X e te)(hp:PIp X op tip)(hs:PSet X tset)
  (ha: ∀ov iv new,augStore i ov iv new=(do holding [new,ov,iv] (setItem ov iv new);release [new,ov,iv] [];pure .next):=by intros;rfl):PS X (.AugAssign (.Subscript o i tpos) op e pos) (tAugS to ti te tget tip tset):=by
 intro pins s σ H D I h;refine wpAny_AugAssign_SubscriptAny (thn (ho pins s σ H _ I h) λov s1 ⟨x1,H1,I1,r1,q1⟩=> ?_) ha
 refine thn (hi pins s1 σ H1 _ I1 q1) λiv s2 ⟨x2,H2,I2,r2,q2⟩=> ?_
 refine thn (hg pins s2 σ H2 x1 x2 ov iv _ I2 r1 r2 q2) λold s3 ⟨x3,H3,I3,r3,q3⟩=> ?_
 refine thn (he pins s3 σ H3 _ I3 q3) λv s4 ⟨x4,H4,I4,r4,q4⟩=> ?_
 refine thn (hp pins s4 σ H4 x3 x4 old v _ I4 r3 r4 q4) λnew s5 ⟨x5,H5,I5,r5,q5⟩=> ?_
 exact thn (hs pins s5 σ H5 x1 x2 x5 ov iv new _ I5 r1 r2 r5 q5) λ_ s6 ⟨H6,I6,q6⟩=>⟨σ,H6,I6,q6⟩
def ipI (f:Int->Int->Int):TIp:=λx y H Q=> ∃i j,x= .int i/\y= .int j/\Q (.int<|f i j) H
theorem ip_add:PIp X .Add (ipI λi j=>i+j):=by
 intro pins s σ H x y v u Q I r1 r2 h;obtain⟨i,j,e1,e2,q⟩:=h;subst e1;subst e2;obtain⟨t,rfl⟩:=r1;obtain⟨t',rfl⟩:=r2;exact iadd_int ⟨.int _,H,I.tok _,⟨_,rfl⟩,q⟩
theorem d60:PIp X .Sub (ipI λi j=>i-j):=by
 intro pins s σ H x y v u Q I r1 r2 h;obtain⟨i,j,e1,e2,q⟩:=h;subst e1;subst e2;obtain⟨t,rfl⟩:=r1;obtain⟨t',rfl⟩:=r2;exact isub_int ⟨.int _,H,I.tok _,⟨_,rfl⟩,q⟩
end
section
variable {X:Cx}{pos:Pos}
def tWhile (c:TT)(tb:TS):TS:=λD σ H=> ∃W:Nat->St->Hp->Prop,(∃m,W m σ H)/\ ∀m σ H,W m σ H->
 c σ H λb H1=>if b=true then ∃N:St->Hp->Prop,(∀σ' H',N σ' H'-> ∃m',m'<m/\W m' σ' H')/\tb {D with nx:=N,ct:=N,bk:=D.nx} σ H1 else D.nx σ H1
theorem d61 {tc:TT}{tb:TS}(hp:PassesOwn (model X.prog X.w) X.A X.env X.xe)(hc:PT X c tc)(hb:PSs X body tb):PS X (.While c body [] pos) (tWhile tc tb):=by
 intro pins s σ H D I h;obtain⟨W,⟨m0,w0⟩,turn⟩:=h;refine wpAny_While (codeAny_whileLoop (λn s'=> ∃σ' H',Inv X pins σ' H' s'/\W n σ' H') ?_ m0 ⟨σ,H,I,w0⟩)
 rintro n s1 ⟨σ1,H1,I1,w1⟩;refine nR hp (thn (hc pins s1 σ1 H1 _ I1<|turn n σ1 H1 w1) λb s2 ⟨H2,I2,q2⟩=> ?_)
 cases b with
 | true=>
  obtain⟨N,hN,q2⟩:=q2;rw[a7 rfl];refine nR hp (thn (hb pins s2 σ1 H2 _ I2 q2) λf s3 q3=> ?_)
  cases f with
  | next=>
   obtain⟨σ3,H3,I3,n3⟩:=q3;obtain⟨m',hm,w3⟩:=hN σ3 H3 n3;exact⟨m',hm,σ3,H3,I3,w3⟩
  | cont=>
   obtain⟨σ3,H3,I3,n3⟩:=q3;obtain⟨m',hm,w3⟩:=hN σ3 H3 n3;exact⟨m',hm,σ3,H3,I3,w3⟩
  | brk=>exact q3
  | ret v=>exact q3
 | false=>
  rw[a6 bI];exact kC ⟨σ1,H2,I2,q2⟩
end
structure It where
 go:Nat->Hp->Prop
 yld:Nat->Hp->V->Hp->Prop
 stop:Nat->Hp->Prop
def aY0 (X:Cx)(pins:List (Addr×Obj))(H:Hp)(b:Addr):Prop:=
 H b=none/\b≠X.env.locals/\b ∉ X.fs/\(b∈X.ex\/X.s₀.heap.objs.size<=b)/\(∀x c,X.env.cells.lookup x=some c->c≠b)/\ ∀p∈X.pn++pins,p.1≠b
theorem Inv.fpOk {X:Cx}{σ:St}{H H':Hp}(I:Inv X pins σ H s)(hb:s.heap.objs.size<=b)(hn:H' b=none):aY0 X pins H' b:=by
 refine⟨hn,qD<|b9 I.lt hb,I.nofs hb,.inr<|aI I.sz hb,λx c e z=> ?_,λp hp z=> ?_⟩
 .obtain⟨v,q⟩:=I.cell x c e;exact absurd (b9 q.lt (by rw[z];exact hb)) (d3 _)
 .exact absurd (b9 (aW (I.pin p hp).1) (by rw[z];exact hb)) (d3 _)
structure c53 (P:Program)(w:World)(K:PySem.W.Frag)(tg:Expr)(J:It)(fp:List Addr)(it:Addr)(tn:Nat->Heap->Prop):Prop where
 mem:it∈fp
 obj: ∀i h,tn i h-> ∀b∈fp,∃o,h.get? b=some o/\ ∀v,o.data≠ .cell v
 keep: ∀i h h',tn i h->(∀b∈fp,∀o,h.get? b=some o->h'.get? b=some o)->tn i h'
 item: ∀(X:Cx),X.prog=P->X.w=w->X.K=K->X.calm=true-> ∀(i:Nat) (pins:List (Addr×Obj)) (s:Shared) (σ:St) (H:Hp) (E:Value->Shared->Prop),Inv X pins σ H s->(∀b∈fp,aY0 X pins H b)->tn i s.heap->J.go i H->
  wpAny (model P w) X.A (pyNext<|.ref it) (λr s1=> ∃u,r=some u/\
   wpAny (model P w) X.A (letOwnedTupleGo tg (.ref it) u) (λ_ s2=> ∃x H',Inv X pins σ H' s2/\RelV x u/\J.yld i H x H'/\tn (i+1) s2.heap/\ ∀b∈fp,H' b=none) E s1) E s
 done: ∀(X:Cx),X.prog=P->X.w=w->X.K=K->X.calm=true-> ∀(i:Nat) (pins:List (Addr×Obj)) (s:Shared) (σ:St) (H:Hp) (E:Value->Shared->Prop),Inv X pins σ H s->(∀b∈fp,aY0 X pins H b)->tn i s.heap->J.stop i H->
  wpAny (model P w) X.A (pyNext<|.ref it) (λr s1=>r=none/\Inv X pins σ H s1) E s
 self: ∀(A:Around) (i:Nat) (s:Shared) (Q:Value->Shared->Prop) (E:Value->Shared->Prop),tn i s.heap->Q (.ref it) s->wpAny (model P w) A (pyIter<|.ref it) Q E s
abbrev TI:=St->Hp->(It->Hp->Prop)->Prop
def PIE (X:Cx)(pins:List (Addr×Obj))(σ:St)(tg:Expr)(R:It->Hp->Prop)(itv:Value)(s2:Shared):Prop:=
 ∃(it:Addr) (fp:List Addr) (tn:Nat->Heap->Prop) (J:It) (H':Hp),itv= .ref it/\Inv X pins σ H' s2/\c53 X.prog X.w X.K tg J fp it tn/\tn 0 s2.heap/\(∀b∈fp,aY0 X pins H' b)/\R J H'
def PI (X:Cx)(tg iter:Expr)(wi:TI):Prop:=
 ∀(pins:List (Addr×Obj)) (s:Shared) (σ:St) (H:Hp) (R:It->Hp->Prop),Inv X pins σ H s->wi σ H R->
  wpAny (model X.prog X.w) X.A (eval iter X.env) (λv s1=>wpAny (model X.prog X.w) X.A (pyIter v) (PIE X pins σ tg R) X.xe s1) X.xe s
theorem c54 {M:Model}{n:String}{Q:Unit->Shared->Prop}(ho:s.heap.get? it=some o)(hc:o.cls= .type n)(hd:o.data= .fields vs)
  (hn:["enumerate","zip","dict_itemiterator","dict_reverseitemiterator","odict_iterator","itertools.zip_longest","itertools.pairwise"].contains n=false) (hQ:Q () s):wpAny M A (letOwnedTupleGo tg (.ref it) u) Q E s:=by
 unfold letOwnedTupleGo;cases tg<;>first
  | exact aK hQ
  | (cases u<;>first
    | exact aK hQ
    | (refine a9 (wpAny_load ho ?_)
       rw[hc,hd];show wpAny M A (if(["enumerate","zip","dict_itemiterator","dict_reverseitemiterator","odict_iterator","itertools.zip_longest","itertools.pairwise"].contains n&&vs[0]? ==some (rawInt _))=true then _ else _) Q E s;rw[a6 (by intro h;rw[hn,Bool.false_and]at h;cases h)]
       exact aK hQ))
noncomputable def Itl (K:PySem.W.Frag)(a:Addr):It:=
 ⟨λi H=> ∃xs x,SqL K H a xs/\xs[i]? =some x,λi H x H'=>H'=H/\ ∀xs,SqL K H a xs->xs[i]? =some x,λi H=> ∃xs,SqL K H a xs/\xs.length<=i⟩
noncomputable def Itt (K:PySem.W.Frag)(a:Addr):It:=
 ⟨λi H=> ∃xs x,SqT K H a xs/\xs[i]? =some x,λi H x H'=>H'=H/\ ∀xs,SqT K H a xs->xs[i]? =some x,λi H=> ∃xs,SqT K H a xs/\xs.length<=i⟩
noncomputable def Itr (lo:Int)(n:Nat):It:=⟨λi _=>i<n,λi H x H'=>H'=H/\x= .int (lo+i),λi _=>n<=i⟩
theorem cX0 (a it:Addr):c53 P w K tg (Itl K a) [it] it (λi h=>h.IsListIter it a i) where
 mem:=ae
 obj:=λi h st b hb=>by
  have e:b=it:=by simpa using hb
  subst e;obtain⟨o,e,c,d⟩:=st;exact⟨o,e,λv z=>by rw[d]at z;cases z⟩
 keep:=λi h h' st k=>st.at λo e=>k it ae o e
 item:=by
  intro X hP hw hK hc i pins s σ H E I hf st hg;subst hP hw hK;obtain⟨xs,x,hq,hx⟩:=hg;obtain⟨its,rv,p,hz⟩:=I.list hq;obtain⟨u,hu,ru⟩:=rv.get hx;obtain⟨f0,f1,f2,f3,f4,f5⟩:=hf it ae
  refine wpAny_pyNext_list_item st p.isList (x:=u) (by simpa using hu) λh' st' sb=> ?_
  have I1:Inv X pins σ H {s with heap:=h'}:=I.turned (t':=s.toks) (λb o hb e=>(sb.2 b hb).trans e) f0 f1 f3 f4 f5
  obtain⟨o,e,c,d⟩:=id st';exact⟨u,rfl,c54 (s:={s with heap:=h'}) e c d ac ⟨x,H,I1,ru,⟨rfl,λys hy=>by rw[I.list_inj hy hq];exact hx⟩,st',λb hb=>(hf b hb).1⟩⟩
 done:=by
  intro X hP hw hK hc i pins s σ H E I hf st hg;subst hP hw hK;obtain⟨xs,hq,hx⟩:=hg;obtain⟨its,rv,p,hz⟩:=I.list hq;obtain⟨f0,f1,f2,f3,f4,f5⟩:=hf it ae
  have hl:=rv.length;exact wpAny_pyNext_list_end (I.ok.hd hc) st p.isList (by simp;lia) λh' eb=>⟨rfl,I.turned (t':=s.toks) (λb o hb e=>eb b o hb e) f0 f1 f3 f4 f5⟩
 self:=λ_ _ _ _ _ st h=>wpAny_pyIter_listiter st h
theorem cG5 (a it:Addr):c53 P w K tg (Itt K a) [it] it (λi h=>h.IsTupleIter it a i) where
 mem:=ae
 obj:=λi h st b hb=>by
  have e:b=it:=by simpa using hb
  subst e;obtain⟨o,e,c,d⟩:=st;exact⟨o,e,λv z=>by rw[d]at z;cases z⟩
 keep:=λi h h' st k=>st.at λo e=>k it ae o e
 item:=by
  intro X hP hw hK hc i pins s σ H E I hf st hg;subst hP hw hK;obtain⟨xs,x,hq,hx⟩:=hg;obtain⟨its,rv,p,hz⟩:=I.tuple hq;obtain⟨u,hu,ru⟩:=rv.get hx;obtain⟨f0,f1,f2,f3,f4,f5⟩:=hf it ae
  refine wpAny_pyNext_tuple_item st (show s.heap.IsTuple a its.toArray from p) (x:=u) (by simpa using hu) λh' st' sb=> ?_
  have I1:Inv X pins σ H {s with heap:=h'}:=I.turned (t':=s.toks) (λb o hb e=>(sb.2 b hb).trans e) f0 f1 f3 f4 f5
  obtain⟨o,e,c,d⟩:=id st';exact⟨u,rfl,c54 (s:={s with heap:=h'}) e c d ac ⟨x,H,I1,ru,⟨rfl,λys hy=>by rw[I.tuple_inj hy hq];exact hx⟩,st',λb hb=>(hf b hb).1⟩⟩
 done:=by
  intro X hP hw hK hc i pins s σ H E I hf st hg;subst hP hw hK;obtain⟨xs,hq,hx⟩:=hg;obtain⟨its,rv,p,hz⟩:=I.tuple hq;obtain⟨f0,f1,f2,f3,f4,f5⟩:=hf it ae
  have hl:=rv.length;exact wpAny_pyNext_tuple_end (I.ok.hd hc) st (show s.heap.IsTuple a its.toArray from p) (by simp;lia) λh' eb=>⟨rfl,I.turned (t':=s.toks) (λb o hb e=>eb b o hb e) f0 f1 f3 f4 f5⟩
 self:=λ_ _ _ _ _ st h=>wpAny_pyIter_tupleiter st h
theorem cG6 (it:Addr)(lo:Int)(n:Nat):c53 P w K tg (Itr lo n) [it] it (λi h=>IsRangeIter h it (lo+(i:Nat)*1) ((n:Int)-(i:Nat)) 1) where
 mem:=ae
 obj:=λi h st b hb=>by
  have e:b=it:=by simpa using hb
  subst e;exact⟨_,st,λv z=>by
   have z':Data.fields _=Data.cell v:=z;cases z'⟩
 keep:=λi h h' st k=>k it ae _ st
 item:=by
  intro X hP hw hK hc i pins s σ H E I hf st hg;subst hP hw hK;obtain⟨f0,f1,f2,f3,f4,f5⟩:=hf it ae
  have W:=Walks.range (prog:=X.prog) (w:=X.w) (I.ok.hd hc) it lo 1 n;refine W.item i s _ _ hg st λv h' tk hv st' kk=> ?_
  obtain⟨t,rfl⟩:=hv;have I1:Inv X pins σ H {s with heap:=h',toks:=tk}:=I.turned (λb o hb e=>kk b o (by simpa using hb) e) f0 f1 f3 f4 f5
  refine⟨_,rfl,c54 (s:={s with heap:=h',toks:=tk}) (n:="range_iterator") st' rfl rfl ac ⟨.int<|lo+i,H,I1,⟨t,?_⟩,⟨rfl,rfl⟩,st',λb hb=>(hf b hb).1⟩⟩
  rw[kF]
 done:=by
  intro X hP hw hK hc i pins s σ H E I hf st hg;subst hP hw hK;obtain⟨f0,f1,f2,f3,f4,f5⟩:=hf it ae
  exact wpAny_pyNext_range_end (I.ok.hd hc) st (by have:n<=i:=hg;lia) λh' eb=>⟨rfl,I.turned (t':=s.toks) (λb o hb e=>eb b o hb e) f0 f1 f3 f4 f5⟩
 self:=λ_ _ _ _ _ st h=>aM4 st h
section
variable {X:Cx}{tg:Expr}
theorem c55 {σ:St}{H:Hp}{R:It->Hp->Prop}{hi:Int}{t u v:Tok}(I:Inv X pins σ H s)(h1: -(2^62)<=lo)(h2:lo<2^62)(h3: -(2^62)<=hi)(h4:hi<2^62)
  (q:R (Itr lo (hi-lo).toNat) H):wpAny (model X.prog X.w) X.A (pyIter<|.ref s.heap.objs.size) (PIE X pins σ tg R) E {s with heap:=s.heap.push {cls:= .type "range",data:= .fields #[.int lo t,.int hi u,.int 1 v]},toks:=tk}:=by
 refine wpAny_pyIter_range (IsRange.new ..) (small_one h1 h2 h3 h4) ?_
 have I1:Inv X pins σ H {s with heap:=s.heap.push {cls:= .type "range",data:= .fields #[.int lo t,.int hi u,.int 1 v]},toks:=tk}:=I.kept λb o e=>aV _ e
 refine⟨(s.heap.push {cls:= .type "range",data:= .fields #[.int lo t,.int hi u,.int 1 v]}).objs.size,[(s.heap.push {cls:= .type "range",data:= .fields #[.int lo t,.int hi u,.int 1 v]}).objs.size],_,_,H,rfl,
  I1.kept (t':=tk) λb o e=>aV _ e,cG6 _ lo (hi-lo).toNat,?_,λb hb=> ?_,q⟩
 .have e1:lo+((0:Nat):Int)*1=lo:=ae
  have e2:(((hi-lo).toNat:Nat):Int)-((0:Nat):Int)=Builtin.Range.rangeSize lo hi 1:=by rw[rangeSize_one];split<;>lia
  show IsRangeIter _ _ (lo+((0:Nat):Int)*1) ((((hi-lo).toNat:Nat):Int)-((0:Nat):Int)) 1
  rw[e1,e2];exact bV _ rfl
 .have e:b=(s.heap.push {cls:= .type "range",data:= .fields #[.int lo t,.int hi u,.int 1 v]}).objs.size:=by simpa using hb
  subst e;exact I1.fpOk (aG _) (I1.hok.fresh<|aG _)
def iRng1 (ta:TA):TI:=λσ H R=>ta σ H λvs H1=> ∃j:Int,vs=[.int j]/\ -(2^62)<=j/\j<2^62/\R (Itr 0 j.toNat) H1
def iRng2 (ta:TA):TI:=λσ H R=>ta σ H λvs H1=> ∃i j:Int,vs=[.int i,.int j]/\(-(2^62)<=i/\i<2^62/\ -(2^62)<=j/\j<2^62)/\R (Itr i (j-i).toNat) H1
theorem cX1 {a:Expr}{ta:TA}(hg:Gl X "range")(hm:X.mg "range"=none)(ha:PA X [a] ta)(hs:↥(starEach [a] X.env=[(false,eval a X.env)])):PI X tg (.Call (.Name "range" p) [a] [] pos) (iRng1 ta):=by
 intro pins s σ H R I h;refine Call_ (uF I hg hm boot_range<|jX (thn (ha pos pins s σ H _ I h) λus s1 ⟨vs,H1,I1,r1,q1⟩=> ?_) hs rfl)
 obtain⟨j,e,q1,q2,q⟩:=q1;subst e;cases r1 with
 | cons r rr=>
  cases rr;obtain⟨t,rfl⟩:=r;exact call_range_1 (c55 I1 ad ad q1 q2<|by simpa using q)
theorem cX2 {a b:Expr}{ta:TA}(hg:Gl X "range")(hm:X.mg "range"=none)(ha:PA X [a,b] ta)(hs:↥(starEach [a,b] X.env=[(false,eval a X.env),(false,eval b X.env)]))(hs2:↥(starEach [b] X.env=[(false,eval b X.env)])) :
  PI X tg (.Call (.Name "range" p) [a,b] [] pos) (iRng2 ta):=by
 intro pins s σ H R I h;refine Call_ (uF I hg hm boot_range<|jX (thn (ha pos pins s σ H _ I h) λus s1 ⟨vs,H1,I1,r1,q1⟩=> ?_) (by rw[hs,hs2]) (by rw[hs2];rfl))
 obtain⟨i,j,e,⟨q1,q2,q3,q4⟩,q⟩:=q1;subst e;cases r1 with
 | cons r rr=>
  cases rr with
  | cons r' rr=>
   cases rr;obtain⟨t,rfl⟩:=r;obtain⟨t',rfl⟩:=r';exact call_range_2 (c55 I1 q1 q2 q3 q4 q)
def tFor (wi:TI)(g:TG)(tb:TS):TS:=λD σ H=>wi σ H λJ H1=> ∃W:Nat->Nat->St->Hp->Prop,(∃m,W 0 m σ H1)/\ ∀i m σ H,W i m σ H->
 (J.stop i H/\D.nx σ H)\/(J.go i H/\ ∃N:St->Hp->Prop,(∀σ' H',N σ' H'-> ∃m',m'<m/\W (i+1) m' σ' H')/\ ∀x H',J.yld i H x H'->g x σ H' λσ2 H2=>tb {D with nx:=N,ct:=N,bk:=D.nx} σ2 H2)
noncomputable def bB1 (fp:List Addr)(h:Heap):List (Addr×Obj):=fp.filterMap λb=>(h.get? b).map λo=>(b,o)
theorem a21 (hb:b∈fp)(e:h.get? b=some o):(b,o)∈bB1 fp h:=aN9.mpr ⟨b,hb,by rw[e];rfl⟩
theorem cX3 {p:Addr×Obj}(hp:p∈bB1 fp h):p.1∈fp/\h.get? p.1=some p.2:=by
 obtain⟨b,hb,e⟩:=aN9.mp hp;cases q:h.get? b with
 | none=>rw[q]at e;cases e
 | some o=>
  rw[q]at e;have e':(b,o)=p:=hJ e;subst e';exact⟨hb,q⟩
theorem Inv.pinned {σ:St}{H:Hp}(I:Inv X pins σ H s)(hf: ∀b∈fp,aY0 X pins H b)(ho: ∀b∈fp,∃o,s.heap.get? b=some o/\ ∀v,o.data≠ .cell v):Inv X (pins++bB1 fp s.heap) σ H s:=
 I.pins_of λp hp=>(eE.mp hp).elim (λz=>I.pin p (fM _ z)) λz=>by
  obtain⟨hb,e⟩:=cX3 z;obtain⟨f0,f1,f2,_⟩:=hf p.1 hb;obtain⟨o,e',d⟩:=ho p.1 hb;rw[e]at e';cases e';exact⟨e,f0,f1,f2,d⟩
theorem Inv.unpinned {pl:List (Addr×Obj)}{σ:St}{H:Hp}(I:Inv X (pins++pl) σ H s):Inv X pins σ H s:=I.pins_of λp hp=>I.pin p (fM _<|zO _ hp)
theorem ps_for {wi:TI}{g:TG}{tb:TS}(hp:PassesOwn (model X.prog X.w) X.A X.env X.xe)(hc:X.calm=true)(hi:PI X tg iter wi)(hg:PG X tg g)(hb:PSs X body tb)
  (hs: ∀x,foldedSetIterable iter X.env x=pure x:=by intro _;rfl):PS X (.For tg iter body [] pos) (tFor wi g tb):=by
 intro pins s σ H D I h;refine wpAny_For (thn (hi pins s σ H _ I h) λv s1 h1=>thn h1 λitv s2 h2=> ?_) hs
 obtain⟨it,fp,tn,J,H2,e,I2,T,st2,f2,W,⟨m0,w0⟩,turn⟩:=h2;subst e;have stat: ∀{H':Hp},(∀b∈fp,H' b=none)-> ∀b∈fp,aY0 X pins H' b:=λhn b hb=>⟨hn b hb,(f2 b hb).2⟩
 refine codeAny_forLoop_any (λn s'=> ∃i σ' H',Inv X pins σ' H' s'/\tn i s'.heap/\(∀b∈fp,H' b=none)/\W i n σ' H') ?_ m0 ⟨0,σ,H2,I2,st2,λb hb=>(f2 b hb).1,w0⟩
 rintro n s3 ⟨i,σ3,H3,I3,st3,fr3,w3⟩;rcases turn i n σ3 H3 w3 with⟨stop,qn⟩| ⟨go,N,hN,step⟩
 .refine nR hp (thn (T.done X rfl rfl rfl hc i pins s3 σ3 H3 X.xe I3 (stat fr3) st3 stop) λr s4 ⟨hr,I4⟩=> ?_)
  subst hr;exact kC ⟨σ3,H3,I4,qn⟩
 .refine nR hp (thn (T.item X rfl rfl rfl hc i pins s3 σ3 H3 X.xe I3 (stat fr3) st3 go) λr s4 ⟨u,hr,h4⟩=> ?_)
  subst hr;refine nR hp (thn h4 λ_ s5 ⟨x,H5,I5,r5,y5,st5,fr5⟩=> ?_)
  have I5':=I5.pinned (stat fr5) (T.obj _ _ st5);refine nR hp (thn (hg _ s5 σ3 H5 x u _ I5' r5<|step x H5 y5) λ_ s6 ⟨σ6,H6,I6,q6⟩=> ?_)
  refine nR hp (thn (hb _ s6 σ6 H6 _ I6 q6) λf s7 q7=> ?_)
  have again: ∀{σ7:St} {H7:Hp},Inv X (pins++bB1 fp s5.heap) σ7 H7 s7->N σ7 H7-> ∃m,m<n/\ ∃i σ' H',Inv X pins σ' H' s7/\tn i s7.heap/\(∀b∈fp,H' b=none)/\W i m σ' H':=λ{σ7 H7} I7 n7=>by
   obtain⟨m',hm,w7⟩:=hN σ7 H7 n7;refine⟨m',hm,i+1,σ7,H7,I7.unpinned,T.keep _ _ _ st5 λb hb o e=>(I7.pin (b,o)<|fM _<|fM _<|a21 hb e).1,λb hb=> ?_,w7⟩
   obtain⟨o,e,d⟩:=T.obj _ _ st5 b hb;exact(I7.pin (b,o)<|fM _<|fM _<|a21 hb e).2.1
  cases f with
  | next=>obtain⟨σ7,H7,I7,n7⟩:=q7;exact again I7 n7
  | cont=>obtain⟨σ7,H7,I7,n7⟩:=q7;exact again I7 n7
  | brk=>obtain⟨σ7,H7,I7,q7⟩:=q7;exact⟨σ7,H7,I7.unpinned,q7⟩
  | ret v=>obtain⟨x7,σ7,H7,I7,r7,q7⟩:=q7;exact⟨x7,σ7,H7,I7.unpinned,r7,q7⟩
end
abbrev R2:=V->V->Hp->VK->Prop
def OpR (X:Cx)(f:Value->Value->Sem Value)(r:R2):Prop:=
 ∀(pins:List (Addr×Obj)) (s:Shared) (σ:St) (H:Hp) (x y:V) (v u:Value) (Q:VK),Inv X pins σ H s->RelV x v->RelV y u->r x y H Q->
  wpAny (model X.prog X.w) X.A (f v u) (EP X pins σ Q) X.xe s
def UnR (X:Cx)(f:Value->Sem Value)(r:V->Hp->VK->Prop):Prop:=
 ∀(pins:List (Addr×Obj)) (s:Shared) (σ:St) (H:Hp) (x:V) (v:Value) (Q:VK),Inv X pins σ H s->RelV x v->r x H Q->
  wpAny (model X.prog X.w) X.A (f v) (EP X pins σ Q) X.xe s
def pI (X:Cx)(f:Value)(r:List V->Hp->VK->Prop):Prop:=
 ∀(pins:List (Addr×Obj)) (s:Shared) (σ:St) (H:Hp) (xs:List V) (us:List Value) (Q:VK),Inv X pins σ H s->Vals xs us->r xs H Q->
  wpAny (model X.prog X.w) X.A (call f us) (EP X pins σ Q) X.xe s
def tOp (r:R2)(ta tb:TE):TE:=λσ H Q=>ta σ H λx H1=>tb σ H1 λy H2=>r x y H2 Q
def tUn (r:V->Hp->VK->Prop)(ta:TE):TE:=λσ H Q=>ta σ H λx H1=>r x H1 Q
def rI (C:Int->Int->Prop)(g:Int->Int->V):R2:=λx y H Q=> ∃i j,x= .int i/\y= .int j/\C i j/\Q (g i j) H
def rI0 (g:Int->Int->V):R2:=λx y H Q=> ∃i j,x= .int i/\y= .int j/\Q (g i j) H
def rU (g:Int->V):V->Hp->VK->Prop:=λx H Q=> ∃i,x= .int i/\Q (g i) H
section
variable {X:Cx}{a b c:Expr}{ta tb tc:TE}{pos:Pos}
theorem binT (ha:PE X a ta)(hb:PE X b tb){σ:St}{H:Hp}{R:V->V->Hp->Prop}(I:Inv X pins σ H s)
  (h:ta σ H λx H1=>tb σ H1 λy H2=>R x y H2) {Q:Value->Shared->Prop} {f:Value->Value->Sem Value}
  (hf: ∀v u s2 x y H2,Inv X pins σ H2 s2->RelV x v->RelV y u->R x y H2->wpAny (model X.prog X.w) X.A (f v u) Q X.xe s2) :
  wpAny (model X.prog X.w) X.A (eval a X.env) (λv s₁=>wpAny (model X.prog X.w) X.A (eval b X.env) (λu s₂=>wpAny (model X.prog X.w) X.A (f v u) Q X.xe s₂) X.xe s₁) X.xe s:=by
 refine thn (ha pins s σ H _ I h) λv s1 ⟨x,H1,I1,r1,q1⟩=> ?_
 refine thn (hb pins s1 σ H1 _ I1 q1) λu s2 ⟨y,H2,I2,r2,q2⟩=> ?_
 exact hf v u s2 x y H2 I2 r1 r2 q2
theorem pe_op {op:Operator}{r:R2}(ho:OpR X (binaryOp op) r)(ha:PE X a ta)(hb:PE X b tb):PE X (.BinOp a op b pos) (tOp r ta tb):=by
 intro pins s σ H Q I h;exact wpAny_BinOp (binT ha hb I h λv u s2 x y H2 I2 rx ry q=>ho pins s2 σ H2 x y v u Q I2 rx ry q)
theorem pe_un {op:UnaryOp}{r:V->Hp->VK->Prop}(ho:UnR X (unaryOp op) r)(ha:PE X a ta):PE X (.UnaryOp op a pos) (tUn r ta):=by
 intro pins s σ H Q I h;exact UnaryOp_ (thn (ha pins s σ H _ I h) λv s1 ⟨x,H1,I1,r1,q1⟩=>ho pins s1 σ H1 x v Q I1 r1 q1)
theorem opI {f:Value->Value->Sem Value}{C:Int->Int->Prop}{g:Int->Int->Int}
  (rule: ∀(i j:Int) (t u:Tok) (s:Shared) (Q:Value->Shared->Prop) (E:Value->Shared->Prop),C i j->Q (.int (g i j) s.toks) {s with toks:=s.toks+1}->wpAny (model X.prog X.w) X.A (f (.int i t)<|.int j u) Q E s) :
  OpR X f (rI C λi j=> .int (g i j)):=by
 intro pins s σ H x y v u Q I rx ry h;obtain⟨i,j,rfl,rfl,hc,q⟩:=h;obtain⟨t,rfl⟩:=rx;obtain⟨t',rfl⟩:=ry;exact rule i j t t' s _ _ hc ⟨.int<|g i j,H,I.tok _,⟨_,rfl⟩,q⟩
theorem opI0 {f:Value->Value->Sem Value}{g:Int->Int->Int}
  (rule: ∀(i j:Int) (t u:Tok) (s:Shared) (Q:Value->Shared->Prop) (E:Value->Shared->Prop),Q (.int (g i j) s.toks) {s with toks:=s.toks+1}->wpAny (model X.prog X.w) X.A (f (.int i t)<|.int j u) Q E s) :
  OpR X f (rI0 λi j=> .int (g i j)):=by
 intro pins s σ H x y v u Q I rx ry h;obtain⟨i,j,rfl,rfl,q⟩:=h;obtain⟨t,rfl⟩:=rx;obtain⟨t',rfl⟩:=ry;exact rule i j t t' s _ _ ⟨.int<|g i j,H,I.tok _,⟨_,rfl⟩,q⟩
theorem dN1 {f:Value->Value->Sem Value}{g:Int->Int->Bool}
  (rule: ∀(i j:Int) (t u:Tok) (s:Shared) (Q:Value->Shared->Prop) (E:Value->Shared->Prop),Q (.bool<|g i j) s->wpAny (model X.prog X.w) X.A (f (.int i t)<|.int j u) Q E s) :
  OpR X f (rI0 λi j=> .bl (g i j)):=by
 intro pins s σ H x y v u Q I rx ry h;obtain⟨i,j,rfl,rfl,q⟩:=h;obtain⟨t,rfl⟩:=rx;obtain⟨t',rfl⟩:=ry;exact rule i j t t' s _ _ ⟨.bl<|g i j,H,I,rfl,q⟩
def dN2 (i j:Int):Prop:=0<=j/\j<=1000000/\i.natAbs<2^64
def cG7 (i j:Int):Prop:=(-(2^64)<i/\i<2^64)\/(-(2^64)<j/\j<2^64)
theorem cG7.ok {i j:Int}(h:cG7 i j):IntMulOk i j:=by
 rcases h with⟨h1,h2⟩| ⟨h1,h2⟩
 .exact .of_left (intBits_le_64 h1 h2)
 .exact .of_right (intBits_le_64 h1 h2)
theorem op_add:OpR X (binaryOp .Add) (rI0 λi j=> .int (i+j)):=opI0 λ_ _ _ _ _ _ _ q=>add_int q
theorem op_sub:OpR X (binaryOp .Sub) (rI0 λi j=> .int (i-j)):=opI0 λ_ _ _ _ _ _ _ q=>sub_int q
theorem dN3:OpR X (binaryOp .Mod) (rI (λ_ j=>j≠0) λi j=> .int (i.fmod j)):=opI λ_ _ _ _ _ _ _ hc q=>mod_int' hc q
theorem op_pow:OpR X (binaryOp .Pow) (rI dN2 λi j=> .int (i^j.toNat)):=opI λ_ _ _ _ _ _ _ hc q=>pow_int_small hc.1 hc.2.1 hc.2.2 q
theorem unI {f:Value->Sem Value}{g:Int->Int}
  (rule: ∀(i:Int) (t:Tok) (s:Shared) (Q:Value->Shared->Prop) (E:Value->Shared->Prop),Q (.int (g i) s.toks) {s with toks:=s.toks+1}->wpAny (model X.prog X.w) X.A (f<|.int i t) Q E s) :
  UnR X f (rU λi=> .int (g i)):=by
 intro pins s σ H x v Q I rx h;obtain⟨i,rfl,q⟩:=h;obtain⟨t,rfl⟩:=rx;exact rule i t s _ _ ⟨.int<|g i,H,I.tok _,⟨_,rfl⟩,q⟩
theorem un_neg:UnR X (unaryOp .USub) (rU λi=> .int (-i)):=unI λ_ _ _ _ _ q=>neg_int q
end
noncomputable def scal:V->V->Bool
 | .non,.non=>true| .non,.int _=>true| .int _,.non=>true| .non,.bl _=>true| .bl _,.non=>true| .non,.str _=>true| .str _,.non=>true
 | .int _,.int _=>true| .bl _,.bl _=>true| .str _,.str _=>true| .byt _,.byt _=>true
 | .int _,.str _=>true| .str _,.int _=>true| .bl _,.str _=>true| .str _,.bl _=>true
 | _,_=>false
noncomputable def rEq:R2:=λx y H Q=>scal x y=true/\Q (.bl<|decide (x=y)) H
noncomputable def rNe:R2:=λx y H Q=>scal x y=true/\Q (.bl<|!decide (x=y)) H
theorem b88 {i j:Int}:decide (V.int i=V.int j)=(i==j):=by
 rw[u5];simp
theorem bW6 {i j:Bool}:decide (V.bl i=V.bl j)=(i==j):=by
 rw[u5];simp
theorem b89 {i j:Str}:decide (V.str i=V.str j)=(i==j):=by
 rw[u5];simp
theorem cP3 {i j:Array UInt8}:decide (V.byt i=V.byt j)=(i.toList==j.toList):=by
 rw[u5];cases i;cases j;simp
section
variable {X:Cx}{a b c:Expr}{ta tb tc:TE}{pos:Pos}
theorem fH {σ:St}{H:Hp}{Q:VK}{k k':Bool}(I:Inv X pins σ H s)(q:Q (.bl k) H)(e:k=k'):EP X pins σ Q (.bool k') s:=by
 subst e;exact⟨.bl k,H,I,rfl,q⟩
theorem d62:OpR X (compareOp .Eq) rEq:=by
 intro pins s σ H x y v u Q I rx ry h;obtain⟨hs,q⟩:=h;cases x with
 | non=>
  cases rx;cases y with
  | non=>cases ry;exact PySem.EqNone.eq_none_none (fH I q ae)
  | bl j=>cases ry;exact PySem.EqNone.eq_none_bool (fH I q ae)
  | int j=>obtain⟨t',rfl⟩:=ry;exact PySem.EqNone.eq_none_int (fH I q ae)
  | str j=>obtain⟨t',rfl⟩:=ry;exact PySem.EqNone.eq_none_str (fH I q ae)
  | _=>exact absurd (show false=true from hs) bI
 | bl i=>
  cases rx;cases y with
  | non=>cases ry;exact PySem.EqNone.eq_bool_none (fH I q ae)
  | bl j=>cases ry;exact eq_bool (fH I q bW6)
  | str j=>obtain⟨t',rfl⟩:=ry;exact PySem.EqMixed.eq_bool_str (fH I q ae)
  | _=>exact absurd (show false=true from hs) bI
 | int i=>
  obtain⟨t,rfl⟩:=rx;cases y with
  | non=>cases ry;exact PySem.EqNone.eq_int_none (fH I q ae)
  | int j=>obtain⟨t',rfl⟩:=ry;exact eq_int (fH I q b88)
  | str j=>obtain⟨t',rfl⟩:=ry;exact PySem.EqMixed.eq_int_str (fH I q ae)
  | _=>exact absurd (show false=true from hs) bI
 | str i=>
  obtain⟨t,rfl⟩:=rx;cases y with
  | non=>cases ry;exact PySem.EqNone.eq_str_none (fH I q ae)
  | bl j=>cases ry;exact PySem.EqMixed.eq_str_bool (fH I q ae)
  | int j=>obtain⟨t',rfl⟩:=ry;exact PySem.EqMixed.eq_str_int (fH I q ae)
  | str j=>obtain⟨t',rfl⟩:=ry;exact eq_str (fH I q b89)
  | _=>exact absurd (show false=true from hs) bI
 | byt i=>
  obtain⟨t,rfl⟩:=rx;cases y with
  | byt j=>obtain⟨t',rfl⟩:=ry;exact PySem.W.eq_bytes (fH I q cP3)
  | _=>exact absurd (show false=true from hs) bI
 | _=>cases y<;>exact absurd (show false=true from hs) bI
theorem d63:OpR X (compareOp .NotEq) rNe:=by
 intro pins s σ H x y v u Q I rx ry h;obtain⟨hs,q⟩:=h;cases x with
 | non=>
  cases rx;cases y with
  | non=>cases ry;exact PySem.EqNone.ne_none_none (fH I q ae)
  | bl j=>cases ry;exact PySem.EqNone.ne_none_bool (fH I q ae)
  | int j=>obtain⟨t',rfl⟩:=ry;exact PySem.EqNone.ne_none_int (fH I q ae)
  | str j=>obtain⟨t',rfl⟩:=ry;exact PySem.EqNone.ne_none_str (fH I q ae)
  | _=>exact absurd (show false=true from hs) bI
 | bl i=>
  cases rx;cases y with
  | non=>cases ry;exact PySem.EqNone.ne_bool_none (fH I q ae)
  | bl j=>cases ry;exact ne_bool (fH I q<|fE not bW6)
  | str j=>obtain⟨t',rfl⟩:=ry;exact PySem.EqMixed.ne_bool_str (fH I q ae)
  | _=>exact absurd (show false=true from hs) bI
 | int i=>
  obtain⟨t,rfl⟩:=rx;cases y with
  | non=>cases ry;exact PySem.EqNone.ne_int_none (fH I q ae)
  | int j=>obtain⟨t',rfl⟩:=ry;exact ne_int (fH I q<|fE not b88)
  | str j=>obtain⟨t',rfl⟩:=ry;exact PySem.EqMixed.ne_int_str (fH I q ae)
  | _=>exact absurd (show false=true from hs) bI
 | str i=>
  obtain⟨t,rfl⟩:=rx;cases y with
  | non=>cases ry;exact PySem.EqNone.ne_str_none (fH I q ae)
  | bl j=>cases ry;exact PySem.EqMixed.ne_str_bool (fH I q ae)
  | int j=>obtain⟨t',rfl⟩:=ry;exact PySem.EqMixed.ne_str_int (fH I q ae)
  | str j=>obtain⟨t',rfl⟩:=ry;exact ne_str (fH I q<|fE not b89)
  | _=>exact absurd (show false=true from hs) bI
 | byt i=>
  obtain⟨t,rfl⟩:=rx;cases y with
  | byt j=>obtain⟨t',rfl⟩:=ry;exact PySem.W.ne_bytes (fH I q<|fE not cP3)
  | _=>exact absurd (show false=true from hs) bI
 | _=>cases y<;>exact absurd (show false=true from hs) bI
theorem op_lt:OpR X (compareOp .Lt) (rI0 λi j=> .bl (decide (i<j))):=dN1 λ_ _ _ _ _ _ _ q=>lt_int q
theorem op_le:OpR X (compareOp .LtE) (rI0 λi j=> .bl (decide (i<=j))):=dN1 λ_ _ _ _ _ _ _ q=>le_int q
theorem op_gt:OpR X (compareOp .Gt) (rI0 λi j=> .bl (decide (j<i))):=dN1 λ_ _ _ _ _ _ _ q=>gt_int q
theorem op_ge:OpR X (compareOp .GtE) (rI0 λi j=> .bl (decide (j<=i))):=dN1 λ_ _ _ _ _ _ _ q=>ge_int q
theorem aP2 (b:Expr)(h:⇑(op≠ .In))(h2:⇑(op≠ .NotIn)):behindInMarks op b=false:=by
 have e1:(op==CmpOp.In)=false:=by cases op<;>first|rfl|exact absurd rfl h
 have e2:(op==CmpOp.NotIn)=false:=by cases op<;>first|rfl|exact absurd rfl h2
 cases b<;>simp[behindInMarks,e1,e2]
theorem dN4 {r:R2}(ho:OpR X (compareOp op) r)(ha:PE X a ta)(hb:PE X b tb)(hm:behindInMarks op b=false):PE X (.Compare a [op] [b] pos) (tOp r ta tb):=by
 intro pins s σ H Q I h;exact wpAny_Compare1 (binT ha hb I h λv u s2 x y H2 I2 rx ry q=>ho pins s2 σ H2 x y v u Q I2 rx ry q) hm
def tTest (t:TE):TT:=λσ H Q=>t σ H λx H'=> ∃k,x= .bl k/\Q k H'
theorem dN5 {r:R2}(ho:OpR X (compareOp op) r)(ha:PE X a ta)(hb:PE X b tb)(hm:behindInMarks op b=false):PT X (.Compare a [op] [b] pos) (tTest<|tOp r ta tb):=by
 intro pins s σ H Q I h;refine wpAny_isTrue_Compare1 (thn (ha pins s σ H _ I h) λv s1 ⟨x,H1,I1,r1,q1⟩=>thn (hb pins s1 σ H1 _ I1 q1) λu s2 ⟨y,H2,I2,r2,q2⟩=>
  thn (ho pins s2 σ H2 x y v u _ I2 r1 r2 q2) λc s3 ⟨z,H3,I3,r3,k,e,q3⟩=> ?_) hm
 subst e;cases r3;exact nP ⟨H3,I3,q3⟩
theorem aY1:(sizeLine:Nat)<2^63:=by rw[sizeLine_eq];decide
theorem vals1 {x:V}(r:Vals [x] us): ∃u,us=[u]/\RelV x u:=by
 cases r with
 | cons r1 r2=>cases r2;exact⟨_,rfl,r1⟩
theorem vals2 {x y:V}(r:Vals [x,y] us): ∃u w',us=[u,w']/\RelV x u/\RelV y w':=by
 cases r with
 | cons r1 r2=>
  cases r2 with
  | cons r3 r4=>cases r4;exact⟨_,_,rfl,r1,r3⟩
theorem d64:pI X (.builtin "abs") (λxs H Q=> ∃i,xs=[.int i]/\Q (.int<|if i<0 then -i else i) H):=by
 intro pins s σ H xs us Q I r h;obtain⟨i,rfl,q⟩:=h;obtain⟨u,rfl,t,rfl⟩:=vals1 r;exact call_abs_int λu tk=>⟨.int<|if i<0 then -i else i,H,I.tok _,⟨_,rfl⟩,q⟩
theorem cX4 (hc:X.calm=true):pI X (.builtin "max") (λxs H Q=> ∃i j,xs=[.int i,.int j]/\Q (.int<|if j>i then j else i) H):=by
 intro pins s σ H xs us Q I r h;obtain⟨i,j,rfl,q⟩:=h;obtain⟨u,w',rfl,⟨t,rfl⟩,⟨t',rfl⟩⟩:=vals2 r;refine max_two_ints (I.ok.hd hc) λh' tk k=>⟨_,H,I.kept k,?_,q⟩
 by_cases hj:j>i
 .rw[a7 hj,a7 hj];exact⟨_,rfl⟩
 .rw[a6 hj,a6 hj];exact⟨_,rfl⟩
theorem cX5 (hc:X.calm=true):pI X (.builtin "min") (λxs H Q=> ∃i j,xs=[.int i,.int j]/\Q (.int<|if j<i then j else i) H):=by
 intro pins s σ H xs us Q I r h;obtain⟨i,j,rfl,q⟩:=h;obtain⟨u,w',rfl,⟨t,rfl⟩,⟨t',rfl⟩⟩:=vals2 r;refine min_two_ints (I.ok.hd hc) λh' tk k=>⟨_,H,I.kept k,?_,q⟩
 by_cases hj:j<i
 .rw[a7 hj,a7 hj];exact⟨_,rfl⟩
 .rw[a6 hj,a6 hj];exact⟨_,rfl⟩
theorem bP4:pI X (.type "int") (λxs H Q=>(∃i,xs=[.int i]/\Q (.int i) H)\/ ∃k,xs=[.bl k]/\Q (.int<|if k then 1 else 0) H):=by
 intro pins s σ H xs us Q I r h;rcases h with⟨i,rfl,q⟩| ⟨k,rfl,q⟩
 .obtain⟨u,rfl,t,rfl⟩:=vals1 r;exact call_int_int ⟨.int i,H,I,⟨_,rfl⟩,q⟩
 .obtain⟨u,rfl,r1⟩:=vals1 r;cases r1;exact call_int_bool ⟨.int<|if k then 1 else 0,H,I.tok _,⟨_,rfl⟩,q⟩
end
structure cX6 (h:Heap)(x dx C:Addr)(mA:Str->Option Value):Prop where
 obj:h.get? x=some (instObj C dx)
 ns:h.Ns1 dx mA
 ne:dx≠x
theorem cX7 {mA:Str->Option Value}(n:h.Ns1 dx mA): ∃od,h.get? dx=some od/\ ∀name,lookIn name od=some (mA name):=by
 obtain⟨o,es,ep,ho,hd,hk,_,hm⟩:=n;refine⟨o,ho,λname=> ?_⟩
 have e:=hm name;unfold nsFind findBy at e;rw[<-Array.find?_toList]at e;unfold lookIn;rw[hd];dsimp only;split
 .rename_i y q
  rw[q]at e;exact fE some e
 .rename_i q
  rw[q]at e;have a:es.toList.any (·.refKey)=false:=by
   rw[List.any_eq_false];intro y hy;obtain⟨z,t,hkey⟩:=hk y (Array.mem_toList_iff.mp hy);simp[DictEntry.refKey,hkey]
  have a': ¬es.toList.any (·.refKey)=true:=by rw[a];exact bI
  rw[a6 a'];exact fE some e
theorem cX6.look {x:Addr}{mA:Str->Option Value}(I:cX6 h x dx C mA): ∃od,InstAt h x (instObj C dx) C (some od)/\ ∀name,lookIn name od=some (mA name):=
 let ⟨od,ho,hl⟩:=cX7 I.ns
 ⟨od,⟨I.obj,rfl,rfl,ho⟩,hl⟩
section
variable {prog:Program}{w:World}{A:Around}{E:Value->Shared->Prop}{s:Shared}{K:PySem.W.Frag}{x dx C f:Addr}{mA:Str->Option Value}{name:Str}{v:Value}
theorem dN6 {expr:Bool}(X:K.In s.heap)(I:cX6 s.heap x dx C mA)(hg:plainGet K C name=true)(hh:hasDictIn K C=true)
  (ha:PySem.W.findIn K (.ref C) name=some none) (hv:mA name=some v) (hv':PySem.W.handedIn v=true) (h:Q v {s with toks:=s.toks+1}) :
  wpAny (model prog w) A (getAttr (.ref x) name expr) Q E s:=by
 obtain⟨od,J,hl⟩:=I.look;exact PySem.W.get_value X J (PySem.W.plainGet_of hg).1 (PySem.W.findObj_own hh ha rfl (by rw[hl,hv])) hv' h
theorem dN7 {ns:List Str}{Q:Unit->Shared->Prop}(X:K.In s.heap)(I:cX6 s.heap x dx C mA)
  (hs:PySem.W.findIn K (.ref C) "__setattr__"=some (some<|.builtin "object.__setattr__")) (hp:plainOver K C=true) (ht:takerIn K C name=some none) (hh:hasDictIn K C=true)
  (hw:PySem.Within mA ns) (hsz:ns.length<=sizeLine)
  (h: ∀h',cX6 h' x dx C (λy=>if y=name then some v else mA y)->SameBut dx s.heap h'->Q () {s with heap:=h',toks:=s.toks+2}) :
  wpAny (model prog w) A (setAttr (.ref x) name v) Q E s:=by
 obtain⟨od,J,hl⟩:=I.look;refine PySem.W.set_plain X J hs (PySem.W.osa_open (s:={s with toks:=s.toks+1}) (r:=none) X J hp ht λb=> ?_)
 obtain⟨cd,hc,hd'⟩:=PySem.W.any_some hh;have hx:s.heap.get? x=some ⟨.ref C,some dx,.plain,#[]⟩:=I.obj;refine a9 (aK<|a9<|a9<|wpAny_loadPart hx<|a9<|PySem.W.Looks.here (s:={s with toks:=s.toks+1}) (aN7 X hc) ?_);rw[hd'];refine aK (a:=some dx) (a9<|aK<|a9 ?_);refine wpAny_nsSet1 (s:={s with toks:=s.toks+1}) I.ns λh' hn2 hs2=> ?_
 obtain⟨oD,esD,epD,hoD,hdD,hcD⟩:=hn2.count (PySem.Within.cons name v hw);refine a9 (wpAny_lookBehind hoD (by rw[hdD];exact pastItsLine_dict (aI hcD (by rw[dX];lia))) ?_)
 exact aK (h _ ⟨(hs2.2 _<|Ne.symm I.ne).trans I.obj,hn2,I.ne⟩ hs2)
theorem c56 {R:Result->Shared->Prop}{vs:List Value}(X:K.In s.heap)(hm:makesIn K C=true)
  (hi:PySem.W.findIn K (.ref C) "__init__"=some (some<|.ref f)) (hf:PySem.W.typeIn K (.ref f)=some (.type "function"))
  (h:codeAny (model prog w) (A.under<|.builtin "type.__call__" ⟨.ref C::vs,kw⟩) (.call (.ref f) ⟨.ref (s.heap.objs.size+1)::vs,kw⟩) (PySem.W.InitBack (s.heap.objs.size+1) R)
   {s with heap:=(s.heap.push emptyDict).push (instObj C s.heap.objs.size)}) :
  codeAny (model prog w) A (.call (.ref C) ⟨vs,kw⟩) R s:=by
 obtain⟨hh,g,d,t,os⟩:=s;exact PySem.W.make_core (PySem.W.makes_of X hm) (PySem.W.looks_findIn X hi) (λself=>PySem.W.bind_fn X self hf) (.inl rfl) h
end
noncomputable def vQ (f:Str)(v:V):List (Str×V)->List (Str×V)
 | []=>[(f,v)]
 | (g,x)::r=>if g=f then(g,v)::r else(g,x)::vQ f v r
theorem b35 (f g:Str)(v:V): ∀fs:List (Str×V),(vQ f v fs).lookup g=if g=f then some v else fs.lookup g
 | []=>by
  show List.lookup g [(f,v)]=_
  by_cases h:g=f
  .have hb:(g==f)=true:=fO.mpr h;simp only[List.lookup,hb,a7 h]
  .have hb:(g==f)=false:=pR.mpr h;simp only[List.lookup,hb,a6 h]
 | (k,x)::r=>by
  have ih:=b35 f g v r;rw[show vQ f v ((k,x)::r)=(if k=f then(k,v)::r else(k,x)::vQ f v r)from rfl]
  by_cases hk:k=f
  .rw[a7 hk]
   by_cases h:g=k
   .have hb:(g==k)=true:=fO.mpr h;simp only[List.lookup,hb,a7<|h.trans hk]
   .have hb:(g==k)=false:=pR.mpr h;simp only[List.lookup,hb,a6 (λe:g=f=>h (e.trans hk.symm))]
  .rw[a6 hk]
   by_cases h:g=k
   .have hb:(g==k)=true:=fO.mpr h;simp only[List.lookup,hb,a6 (λe:g=f=>hk (h.symm.trans e))]
   .have hb:(g==k)=false:=pR.mpr h;simp only[List.lookup,hb];exact ih
theorem aY2 (f:Str)(v:V): ∀fs:List (Str×V),f∈(vQ f v fs).map (·.1)/\ ∀g,g∈fs.map (·.1)->g∈(vQ f v fs).map (·.1)
 | []=>⟨by simp[vQ],λg h=>by simp at h⟩
 | (k,x)::r=>by
  obtain⟨i1,i2⟩:=aY2 f v r;rw[show vQ f v ((k,x)::r)=(if k=f then(k,v)::r else(k,x)::vQ f v r)from rfl]
  by_cases hk:k=f
  .rw[a7 hk];subst hk;exact⟨ae,λg h=>by simpa using h⟩
  .rw[a6 hk];refine⟨?_,λg h=> ?_⟩
   .rw[cF];exact eM _ i1
   .rw[cF]at h⊢;rcases aZ.mp h with e|e
    .exact aZ.mpr (.inl e)
    .exact eM _ (i2 g e)
theorem b36 (f:Str)(v:V): ∀fs:List (Str×V),(vQ f v fs).length<=fs.length+1
 | []=>by simp[vQ]
 | (k,x)::r=>by
  have ih:=b36 f v r;rw[show vQ f v ((k,x)::r)=(if k=f then(k,v)::r else(k,x)::vQ f v r)from rfl]
  by_cases hk:k=f
  .rw[a7 hk,dX,dX];lia
  .rw[a6 hk,dX,dX];lia
theorem cG4.some_of {v:V}{o:Option Value}(r:cG4 (some v) o): ∃u,o=some u/\RelV v u:=by
 cases o with
 | none=>exact(show False from r).elim
 | some u=>exact⟨u,rfl,r⟩
theorem cX8 {v:V}(r:RelV v u):PySem.W.handedIn u=true:=by
 cases v with
 | non=>cases (show u=Value.none from r);rfl
 | bl b=>cases (show u=Value.bool b from r);rfl
 | int i=>obtain⟨t,e⟩:=(show ∃t,u=Value.int i t from r);cases e;rfl
 | str x=>obtain⟨t,e⟩:=(show ∃t,u=Value.str x t from r);cases e;rfl
 | byt b=>obtain⟨t,e⟩:=(show ∃t,u=Value.bytes b t from r);cases e;rfl
 | flt b=>obtain⟨t,e⟩:=(show ∃t,u=Value.float b t from r);cases e;rfl
 | ref a=>cases (show u=Value.ref a from r);rfl
 | ty n=>cases (show u=Value.type n from r);rfl
section
variable {P:Program}{w:World}{H H':Hp}{h h':Heap}{a C dx:Addr}{fs fs':List (Str×V)}
theorem cP4 (hok:HOk P w H h)(e:H a=some (.ins C dx fs)): ∃mA,cX6 h a dx C mA/\(∀f,cG4 (fs.lookup f)<|mA f)/\PySem.Within mA (fs.map (·.1))/\fs.length<=1000/\H dx=some (.own a):=by
 obtain⟨d,z,ne,ob,mA,n,r,q⟩:=(show rH P w H h a (.ins C dx fs)from hok a _ e)
 exact⟨mA,⟨ob,n,ne⟩,r,q,z,d⟩
end
structure Cls (K:PySem.W.Frag)(C:Addr):Prop where
 pg:plainGet K C Str.empty=true
 hd:hasDictIn K C=true
 po:plainOver K C=true
 sa:PySem.W.findIn K (.ref C) "__setattr__"=some (some<|.builtin "object.__setattr__")
theorem Cls.get (c:Cls K C)(f:Str):plainGet K C f=true:=c.pg
def a83 (K:PySem.W.Frag)(C:Addr)(f:Str):Prop:=PySem.W.findIn K (.ref C) f=some none
theorem a83.taker {f:Str}(n:a83 K C f):takerIn K C f=some none:=by
 unfold takerIn;rw[show PySem.W.findIn K (.ref C) f=some none from n]
 rfl
section
variable {X:Cx}{pins:List (Addr×Obj)}{σ:St}{H:Hp}{s:Shared}{a C dx:Addr}{fs:List (Str×V)}{f:Str}{v:V}{A:Around}{E:Value->Shared->Prop}
theorem cG8 {b:Bool}(I:Inv X pins σ H s)(e:H a=some (.ins C dx fs))(c:Cls X.K C)(n:a83 X.K C f)(l:fs.lookup f=some v)
  (h: ∀u s',Inv X pins σ H s'->RelV v u->Q u s'):wpAny (model X.prog X.w) A (getAttr (.ref a) f b) Q E s:=by
 obtain⟨mA,O,r,_,_,_⟩:=cP4 I.hok e;obtain⟨u,hu,ru⟩:=cG4.some_of (v:=v) (o:=mA f) (by rw[<-l];exact r f)
 exact dN6 I.kIn O (c.get f) c.hd n hu (cX8 ru) (h u _ (I.tok _) ru)
theorem cG9 {y:V}{Q:Unit->Shared->Prop}(I:Inv X pins σ H s)(e:H a=some (.ins C dx fs))(c:Cls X.K C)(n:a83 X.K C f)(hl:fs.length<1000)(ry:RelV y u)
  (h: ∀s',Inv X pins σ (upd H a<|.ins C dx<|vQ f y fs) s'->Q () s'):wpAny (model X.prog X.w) A (setAttr (.ref a) f u) Q E s:=by
 obtain⟨mA,O,r,wi,_,ho⟩:=cP4 I.hok e;have hz:(fs.map (·.1)).length<=sizeLine:=by rw[aP,sizeLine_eq];lia
 refine dN7 I.kIn O c.sa c.po n.taker c.hd wi hz λh' O' sb=>h _ ?_
 have hd: ∃o,h'.get? dx=some o:=let ⟨o,_,_,e',_⟩:=O'.ns;⟨o,e'⟩;refine I.write (x:=a) (e:=dx) (by rw[e];exact True.intro) (.inr ho) (λb q hb z=>(sb.2 b hb).trans z) hd ?_
 refine⟨by rw[cL O.ne];exact ho,?_,O.ne,O'.obj,_,O'.ns,λg=> ?_,λg hg=> ?_⟩
 .have:=b36 f y fs;lia
 .show cG4 ((vQ f y fs).lookup g) (if g=f then some u else mA g)
  rw[b35]
  by_cases q:g=f
  .rw[a7 q,a7 q];exact ry
  .rw[a6 q,a6 q];exact r g
 .by_cases q:g=f
  .rw[q];exact(aY2 f y fs).1
  .refine(aY2 f y fs).2 g (wi g λz=>hg ?_)
   show(if g=f then some u else mA g)=none
   rw[a6 q];exact z
theorem Inv.made (I:Inv X pins σ H s):Inv X pins σ (upd (upd H s.heap.objs.size<|.own<|s.heap.objs.size+1) (s.heap.objs.size+1)<|.ins C s.heap.objs.size [])
  {s with heap:=(s.heap.push emptyDict).push (instObj C s.heap.objs.size)}:=by
 have e1:(s.heap.push emptyDict).get? s.heap.objs.size=some emptyDict:=bV s.heap rfl;have e2:((s.heap.push emptyDict).push<|instObj C s.heap.objs.size).get? (s.heap.objs.size+1)=some (instObj C s.heap.objs.size):=by
  have:=bV (s.heap.push emptyDict) (o:=instObj C s.heap.objs.size) rfl
  rwa [jC]at this
 have e3:(s.heap.push emptyDict).Ns s.heap.objs.size (λ_=>none):=⟨emptyDict,#[],_,e1,rfl,(λe he=>absurd he ae),λ_=>rfl⟩
 have I1:=I.laid (a:=s.heap.objs.size) (o:= .own (s.heap.objs.size+1)) (h':=s.heap.push emptyDict) (t':=s.toks) (λb u q=>aV _ q) (aG _) ⟨_,e1⟩
 refine I1.laid (a:=s.heap.objs.size+1) (o:= .ins C s.heap.objs.size []) (t':=s.toks) (λb u q=>aV _ q) (le_of_eq<|jC _ _) ?_
 have ne:s.heap.objs.size≠s.heap.objs.size+1:=bF (pZ _);refine⟨by rw[cL ne,iZ],cG _,ne,e2,λ_=>none,(Heap.Ns1.of_empty e3).at λo q=>aV _ q,λ_=>True.intro,λy hy=>absurd rfl hy⟩
theorem dN8 {env:Env}{f:Str}{s:Shared}(hb:attributeBase e f env (eval e env)=eval e env)
  (h:wpAny (model prog w) A (eval e env) (λo s₁=>wpAny (model prog w) A (getAttr o f true) Q E s₁) E s):wpAny (model prog w) A (eval (.Attribute e f pos) env) Q E s:=
 Attribute_any_ h (by rw[arm_eval_Attribute,hb])
end
def tFld (K:PySem.W.Frag)(ta:TE)(f:Str):TE:=λσ H Q=>ta σ H λx H1=> ∃a C dx fs v,x= .ref a/\H1 a=some (.ins C dx fs)/\Cls K C/\a83 K C f/\fs.lookup f=some v/\Q v H1
def d65 (K:PySem.W.Frag)(ta tv:TE)(f:Str):TS:=λD σ H=>tv σ H λy H1=>ta σ H1 λx H2=> ∃a C dx fs,x= .ref a/\H2 a=some (.ins C dx fs)/\Cls K C/\a83 K C f/\fs.length<1000/\
 D.nx σ (upd H2 a<|.ins C dx<|vQ f y fs)
section
variable {X:Cx}{o e value:Expr}{f:Str}{pos pos' tpos:Pos}{ta tv:TE}
theorem pe_fld (he:PE X e ta)(hb:attributeBase e f X.env (eval e X.env)=eval e X.env):PE X (.Attribute e f pos) (tFld X.K ta f):=by
 intro pins s σ H Q I h;refine dN8 hb (thn (he pins s σ H _ I h) λu s1 zz=> ?_)
 obtain⟨x,H1,I1,rx,a,C,dx,fs,v,ex,ea,c,n,l,q⟩:=zz;subst ex;obtain rfl:u=Value.ref a:=rx;exact cG8 I1 ea c n l λu' s2 I2 ru=>⟨v,H1,I2,ru,q⟩
theorem cH0 (ha:PE X o ta)(hv:PE X value tv)(hs:swapsWith value (some<|.Attribute o f pos') pos.line X.env=pure false):PS X (.Assign [.Attribute o f pos'] value pos) (d65 X.K ta tv f):=by
 intro pins s σ H D I h;refine aL6 (thn (hv pins s σ H _ I h) λu s1 ⟨y,H1,I1,ry,q⟩=>thn (ha pins s1 σ H1 _ I1 q) λov s2 zz=> ?_) hs
 obtain⟨x,H2,I2,rx,a,C,dx,fs,ex,ea,c,n,l,q2⟩:=zz;subst ex;obtain rfl:ov=Value.ref a:=rx;exact cG9 I2 ea c n l ry λs3 I3=>⟨σ,_,I3,q2⟩
end
structure gS (k:Nat)(A:Around):Prop where
 hd:A.handled=none
 dp:A.depth+3*k+5<recursionLimit
 un:A.units+16*k+200<cLine
theorem gS.mono (r:gS k A)(h:j<=k):gS j A:=⟨r.hd,by have:=r.dp;lia,by have:=r.un;lia⟩
theorem gS.deeper (r:gS (k+1) A)(env:Env):gS k (A.deeper env):=
 ⟨r.hd,by have:=r.dp;show A.depth+1+3*k+5<_;lia,by have:=r.un;show A.units+3+16*k+200<_;lia⟩
theorem cH1 :(A.under<|.builtin "type.__call__" ⟨.ref C::us,kw⟩).depth=A.depth+1:=by
 first|rfl|simp[Around.under,Code.weight,Code.isCreation,Code.isGuard,Code.isCaller,Code.frames,Code.isFrame,guardIds]
theorem cH2 :(A.under<|.builtin "type.__call__" ⟨.ref C::us,kw⟩).units=A.units+1:=by
 first|rfl|simp[Around.under,Code.cUnits,Code.frames,Code.isFrame]
theorem gS.make (r:gS (k+1) A)(C:Addr)(us:List Value)(kw:List (Str×Value)):gS k (A.under<|.builtin "type.__call__" ⟨.ref C::us,kw⟩):=
 ⟨r.hd,by have:=r.dp;rw[cH1];omega,by have:=r.un;rw[cH2];omega⟩
theorem gS.depth (r:gS k A):A.depth<recursionLimit:=by have:=r.dp;lia
theorem gS.units (r:gS k A):A.units+64<cLine:=by have:=r.un;lia
def tNil:TA:=λ_ H Q=>Q [] H
def tCons (ta:TE)(tr:TA):TA:=λσ H Q=>ta σ H λx H1=>tr σ H1 λxs H2=>Q (x::xs) H2
section
variable {X:Cx}{e:Expr}{es:List Expr}{te:TE}{t:TA}{pos:Pos}
theorem cH3:PA X [] tNil:=λ_ _ _ _ H Q I h=>Calls.spliced_nil ⟨[],H,I,.nil,h⟩
theorem bW7 (ha:PE X e te)(hr:PA X es t)(hs:↥(starEach (e::es) X.env=(false,eval e X.env)::starEach es X.env)):PA X (e::es) (tCons te t):=by
 intro pos pins s σ H Q I h;rw[hs];show wpAny _ _ (spliced ((false,eval e X.env)::backTo pos (starEach es X.env))) _ _ s;refine Calls.spliced_cons (thn (ha pins s σ H _ I h) λu s1 ⟨x,H1,I1,r1,q1⟩=> ?_)
 exact thn (hr pos pins s1 σ H1 _ I1 q1) λus s2 ⟨xs,H2,I2,r2,q2⟩=>⟨x::xs,H2,I2,.cons r1 r2,q2⟩
def tTup (t:TA):TE:=λσ H Q=>t σ H λxs H1=>xs.length<=sizeLine/\ ∀p,H1 p=none->Q (.ref p) (upd H1 p<|.tup xs)
def tLst (t:TA):TE:=λσ H Q=>t σ H λxs H1=>xs.length<=sizeLine/\ ∀p,H1 p=none->Q (.ref p) (upd H1 p<|.lst xs)
theorem pe_tup {x1}(h:PA X es t):PE X (.Tuple es x1 pos) (tTup t):=by
 intro pins s σ H Q I hq;refine wpAny_Tuple_spliced (thn (h pos pins s σ H _ I hq) λus s1 ⟨xs,H1,I1,r,z,q⟩=>⟨by rw[<-r.length];exact z,?_⟩)
 have hf:H1 s1.heap.objs.size=none:=I1.hok.fresh (aG _);refine⟨.ref s1.heap.objs.size,upd H1 s1.heap.objs.size<|.tup xs,I1.laid (t':=s1.toks) (λb u e=>aV _ e) (aG _) ?_,rfl,q _ hf⟩
 exact⟨z,us,r,⟨_,bV _ rfl,rfl,_,rfl⟩⟩
theorem pe_lst (h:PA X es t):PE X (.List es pos) (tLst t):=by
 intro pins s σ H Q I hq;refine wpAny_List_spliced (thn (h pos pins s σ H _ I hq) λus s1 ⟨xs,H1,I1,r,z,q⟩=>⟨by rw[<-r.length];exact z,?_⟩)
 have hf:H1 s1.heap.objs.size=none:=I1.hok.fresh (aG _);refine⟨.ref s1.heap.objs.size,upd H1 s1.heap.objs.size<|.lst xs,I1.laid (t':=s1.toks) (λb u e=>aV _ e) (aG _) ?_,rfl,q _ hf⟩
 exact⟨z,us,0,r,bV _ rfl⟩
end
abbrev Sp:=List V->Hp->VK->XK->Prop
abbrev CXT:=List Env->Hp->Shared->XK->Value->Shared->Prop
structure cH4 (P:Program)(w:World)(K:PySem.W.Frag)(mg:Str->Option Value)(base:Heap)(A:Around)(outer:List Env)(s:Shared)(H:Hp):Prop where
 frames:A.frames=some outer
 mod:Mod K mg base
 bs: ∀b o,base.get? b=some o->s.heap.get? b=some o/\H b=none
 bsz:base.objs.size<=s.heap.objs.size
 funs:s.heap.FunFrames base outer
 frf: ∀b∈frs outer,H b=none
 hok:HOk P w H s.heap
 bare:AllBare s.gens
def CE (outer:List Env)(P:Program)(w:World)(H:Hp)(s:Shared)(Q:VK)(u:Value)(s':Shared):Prop:=
 ∃v H',s'.os=s.os/\AllBare s'.gens/\Un (frs outer) [] H H' s.heap s'.heap/\HOk P w H' s'.heap/\RelV v u/\Q v H'
def CR (CX:CXT)(outer:List Env)(P:Program)(w:World)(H:Hp)(s:Shared)(Q:VK)(E:XK)(r:Result)(s':Shared):Prop:=
 match r with
 | .ok (.ret u)=>CE outer P w H s Q u s'
 | .ok _=>False
 | .error e=>CX outer H s E e s'
structure rW (P:Program)(w:World)(K:PySem.W.Frag)(mg:Str->Option Value)(base:Heap)(CX:CXT)(k:Nat)(f:Addr)(fd:FuncData)(ps:List Str)(sp:Sp):Prop where
 len: ∀vs H Q E,sp vs H Q E->vs.length=ps.length
 run: ∀(A:Around) (outer:List Env) (s:Shared) (H:Hp) (args:Args) (us:List Value) (vs:List V) (Q:VK) (E:XK),gS k A->cH4 P w K mg base A outer s H->BindsTo s fd args (ps.zip us)->Vals vs us->sp vs H Q E->
  codeAny (model P w) A (.call (.ref f) args) (CR CX outer P w H s Q E) s
theorem rW.mono {CX:CXT}{ps:List Str}{sp:Sp}(F:rW P w K mg base CX j f fd ps sp)(h:j<=k) :
  rW P w K mg base CX k f fd ps sp:=⟨F.len,λA outer s H args us vs Q E hr=>F.run A outer s H args us vs Q E (hr.mono h)⟩
theorem cH4.make {H:Hp}(e:cH4 P w K mg base A outer s H)(C:Addr)(us:List Value)(kw:List (Str×Value)) :
  cH4 P w K mg base (A.under<|.builtin "type.__call__" ⟨.ref C::us,kw⟩) outer s H:=⟨by first|exact e.frames| (simpa[Around.under,Code.envs,Code.isFrame,pushEnvs]using e.frames),e.mod,e.bs,e.bsz,e.funs,e.frf,e.hok,e.bare⟩
section
variable {X:Cx}{pins:List (Addr×Obj)}{σ:St}{H:Hp}{s s':Shared}
theorem Inv.env0 (I:Inv X pins σ H s):cH4 X.prog X.w X.K X.mg X.base X.A X.stack s H:=
 ⟨I.ok.frames,I.ok.mod,I.bs,aI I.ok.bsz I.sz,I.stack,I.stkFree,I.hok,I.bare⟩
theorem Inv.after {Q:VK}(I:Inv X pins σ H s)(h:CE X.stack X.prog X.w H s Q u s'):EP X pins σ Q u s':=by
 obtain⟨v,H',os,bare,un,hok,r,q⟩:=h;obtain⟨hh,g,d,t,os'⟩:=s';obtain rfl:os'=s.os:=os;exact⟨v,H',I.call (h':=hh) (g':=g) (d':=d) (t':=t) (ch:=[]) un hok bare λb z=>absurd z ae,r,q⟩
end
def cP5 (sp:Sp)(dvs:List V)(E:XK)(t:TA):TE:=λσ H Q=>t σ H λvs H1=>sp (vs++dvs) H1 Q E
def cP6 (C:Addr)(sp:Sp)(dvs:List V)(E:XK)(t:TA):TE:=λσ H Q=>t σ H λvs H1=> ∀x dx,H1 x=none->H1 dx=none->dx≠x->
 sp (.ref x::(vs++dvs)) (upd (upd H1 dx<|.own x) x<|.ins C dx []) (λv H2=>v= .non/\Q (.ref x) H2) E
def Binds (K:PySem.W.Frag)(fd:FuncData)(ps:List Str)(ds:List Value):Prop:=
 ∀(s:Shared) (us:List Value),K.In s.heap->(us++ds).length=ps.length->BindsTo s fd ⟨us,[]⟩ (ps.zip<|us++ds)
theorem Binds.all {ps:List Str}(h: ∀us:List Value,us.length=ps.length->bindArgs fd ⟨us,[]⟩=pure (ps.zip us)):Binds K fd ps []:=λs us _ hl=>by
 rw[jA]at hl⊢;exact .of_eq (h us hl)
def wL (CX:CXT)(X:Cx)(E:XK):Prop:= ∀(pins:List (Addr×Obj)) (σ:St) (H:Hp) (s:Shared) (e:Value) (s':Shared),Inv X pins σ H s->CX X.stack H s E e s'->X.xe e s'
section
variable {X:Cx}{CX:CXT}{k:Nat}{f C:Addr}{fd:FuncData}{ps:List Str}{sp:Sp}{dvs:List V}{ds:List Value}{E:XK}{x m:Str}{p pos apos:Pos}{e o:Expr}{es:List Expr}{ta:TE}{t:TA}
theorem d66 {pins:List (Addr×Obj)}{σ:St}{H:Hp}{s:Shared}{Q:VK}{us:List Value}{vs:List V}(F:rW X.prog X.w X.K X.mg X.base CX k f fd ps sp)(hr:gS k X.A)(hb:Binds X.K fd ps ds)(hd:Vals dvs ds)(hx:wL CX X E)
  (I:Inv X pins σ H s) (r:Vals vs us) (h:sp (vs++dvs) H Q E):wpAny (model X.prog X.w) X.A (call (.ref f) us) (EP X pins σ Q) X.xe s:=by
 have r2:Vals (vs++dvs) (us++ds):=r.append hd;have hl:(us++ds).length=ps.length:=by rw[<-r2.length];exact F.len _ _ _ _ h
 refine nY (qE (F.run X.A X.stack s H ⟨us,[]⟩ (us++ds) (vs++dvs) Q E hr I.env0 (hb s us I.kIn hl) r2 h) λr s' hq=> ?_)
 cases r with
 | error e=>exact hx pins σ H s e s' I hq
 | ok fl=>
  cases fl with
  | ret u=>exact I.after hq
  | next=>exact False.elim hq
  | brk=>exact False.elim hq
  | cont=>exact False.elim hq
theorem cP7 (F:rW X.prog X.w X.K X.mg X.base CX k f fd ps sp)(hr:gS k X.A)(hg:Gl X x)(hm:X.mg x=some (.ref f))(hk:keepIn X.K (.ref f)=true)(hb:Binds X.K fd ps ds)(hd:Vals dvs ds)(hx:wL CX X E)
  (ha:PA X (e::es) t) (hdb:⇑((x==("__debug__":Str))=false)) (he:↥(starEach (e::es) X.env=(false,eval e X.env)::starEach es X.env)) (hpl:↥((backTo pos<|starEach es X.env).any (·.1)=false)) :
  PE X (.Call (.Name x p) (e::es) [] pos) (cP5 sp dvs E t):=by
 intro pins s σ H Q I h;refine nM (nE I hg hm ?_ hdb);refine zR (h₀:=X.base) I.ok.mod.kin hk (thn (ha pos pins s σ H _ I h) λus s1 ⟨vs,H1,I1,r,q⟩=>⟨I1.kIn,?_⟩) he hpl
 exact d66 F hr hb hd hx I1 r q
theorem d67 (F:rW X.prog X.w X.K X.mg X.base CX k f fd ps sp)(hr:gS k X.A)(hg:Gl X x)(hm:X.mg x=some (.ref f))(hk:keepIn X.K (.ref f)=true)(hb:Binds X.K fd ps ds)(hd:Vals dvs ds)(hx:wL CX X E)
  (hdb:⇑((x==("__debug__":Str))=false)):PE X (.Call (.Name x p) [] [] pos) (cP5 sp dvs E tNil):=by
 intro pins s σ H Q I h;refine nM (nE I hg hm ?_ hdb);exact PySem.W.callWith_K0 I.kIn hk (d66 (us:=[]) F hr hb hd hx I .nil h)
structure Mk (K:PySem.W.Frag)(C f:Addr):Prop where
 makes:makesIn K C=true
 init:PySem.W.findIn K (.ref C) "__init__"=some (some<|.ref f)
 fn:PySem.W.isFn K (.ref f)=true
 kp:keepIn K (.ref C)=true
theorem d68 {pins:List (Addr×Obj)}{σ:St}{H:Hp}{s:Shared}{Q:VK}{us:List Value}{vs:List V}(M:Mk X.K C f)(F:rW X.prog X.w X.K X.mg X.base CX k f fd ps sp)(hr:gS (k+1) X.A)(hb:Binds X.K fd ps ds)(hd:Vals dvs ds)
  (hx:wL CX X E) (I:Inv X pins σ H s) (r:Vals vs us)
  (h: ∀x dx,H x=none->H dx=none->dx≠x->sp (.ref x::(vs++dvs)) (upd (upd H dx<|.own x) x<|.ins C dx []) (λv H2=>v= .non/\Q (.ref x) H2) E) :
  wpAny (model X.prog X.w) X.A (call (.ref C) us) (EP X pins σ Q) X.xe s:=by
 have hq:=h (s.heap.objs.size+1) s.heap.objs.size (I.hok.fresh<|uB _) (I.hok.fresh<|aG _) (bF<|pZ _);have I2:=Inv.made (C:=C) I;have r2:Vals (V.ref (s.heap.objs.size+1)::(vs++dvs)) (Value.ref (s.heap.objs.size+1)::(us++ds)):= .cons rfl (r.append hd);have hl:(Value.ref (s.heap.objs.size+1)::us++ds).length=ps.length:=by
  have e:=r2.length;rw[F.len _ _ _ _ hq]at e;exact e.symm
 refine nY (c56 (f:=f) I.kIn M.makes M.init (fO.mp M.fn) (qE (F.run _ X.stack _ _ ⟨Value.ref (s.heap.objs.size+1)::us,[]⟩ (Value.ref (s.heap.objs.size+1)::(us++ds)) _ _ E (hr.make C us [])
  (I2.env0.make C us []) (hb _ (Value.ref (s.heap.objs.size+1)::us) I2.kIn hl) r2 hq) λr s' hq'=> ?_))
 cases r with
 | error e=>exact hx pins σ _ _ e s' I2 hq'
 | ok fl=>
  cases fl with
  | ret u=>
   obtain⟨v,H',I3,rv,ev,q3⟩:=I2.after hq';subst ev;exact⟨rv,⟨V.ref<|s.heap.objs.size+1,H',I3,rfl,q3⟩⟩
  | next=>exact False.elim hq'
  | brk=>exact False.elim hq'
  | cont=>exact False.elim hq'
theorem dN9 (M:Mk X.K C f)(F:rW X.prog X.w X.K X.mg X.base CX k f fd ps sp)(hr:gS (k+1) X.A)(hg:Gl X x)(hm:X.mg x=some (.ref C))(hb:Binds X.K fd ps ds)(hd:Vals dvs ds)(hx:wL CX X E)
  (ha:PA X (e::es) t) (hdb:⇑((x==("__debug__":Str))=false)) (he:↥(starEach (e::es) X.env=(false,eval e X.env)::starEach es X.env)) (hpl:↥((backTo pos<|starEach es X.env).any (·.1)=false)) :
  PE X (.Call (.Name x p) (e::es) [] pos) (cP6 C sp dvs E t):=by
 intro pins s σ H Q I h;refine nM (nE I hg hm ?_ hdb);refine zR (h₀:=X.base) I.ok.mod.kin M.kp (thn (ha pos pins s σ H _ I h) λus s1 ⟨vs,H1,I1,r,q⟩=>⟨I1.kIn,?_⟩) he hpl
 exact d68 M F hr hb hd hx I1 r q
end
section
variable {X:Cx}{CX:CXT}{k:Nat}{f C:Addr}{fd:FuncData}{ps ks:List Str}{sp:Sp}{E:XK}{x m:Str}{p pos apos kpos:Pos}{e o:Expr}{es:List Expr}{kws:List Keyword}{te ta:TE}{t tk:TA}{nm:Option Str}
variable {g:List Value->List Value->List Value}{gV:List V->List V->List V}
end
structure aY (N P:List Str)(sc:Scope):Prop where
 kind:sc.kind= .function
 co:sc.isCoroutine=false
 gen:sc.isGenerator=false
 nd:N.Nodup
 pre:N.take P.length=P
 par: ∀x∈P,sc.names.lookup x=some .local\/sc.names.lookup x=some .cell
 nofree: ∀y∈sc.names,y.2≠ .free
theorem bP5 {kindOf:Str->Option NameKind}{x:Str}: ∀{binds:List (Str×Value)} {m:Str->Option Value},(∀v,(x,v) ∉ binds)->bindL kindOf binds m x=m x
 | [],_,_=>rfl
 | (n,v)::r,m,h=>by
  unfold bindL;rw[bP5 λw hw=>h w (eM _ hw)]
  split
  .have:x≠n:=by rintro rfl;exact h v hG
   simp[this]
  .rfl
theorem bP6 {kindOf:Str->Option NameKind}{x:Str}: ∀{binds:List (Str×Value)} {m:Str->Option Value},(∀v,(x,v) ∉ binds)->bindC kindOf binds m x=m x
 | [],_,_=>rfl
 | (n,v)::r,m,h=>by
  unfold bindC;rw[bP6 λw hw=>h w (eM _ hw)]
  split
  .rfl
  .have:x≠n:=by rintro rfl;exact h v hG
   simp[this]
theorem bP7 {kindOf:Str->Option NameKind}{x:Str}{v:Value}: ∀{P:List Str} {vs:List Value} {i:Nat} {m:Str->Option Value},P.Nodup->P[i]? =some x->vs[i]? =some v->kindOf x=some .local->
  bindL kindOf (P.zip vs) m x=some v
 | [],_,_,_,_,h,_,_=>by simp at h
 | _::_,[],_,_,_,_,h,_=>by simp at h
 | p::P,w::vs,0,m,nd,h1,h2,hk=>by
  simp at h1 h2;subst h1;subst h2
  show bindL kindOf ((p,w)::P.zip vs) m p=_
  unfold bindL;rw[bP5 λv hv=>(zZ.mp nd).1 (a00 hv).1,a7 hk]
  simp
 | p::P,w::vs,i+1,m,nd,h1,h2,hk=>by
  show bindL kindOf ((p,w)::P.zip vs) m x=_
  unfold bindL;exact bP7 (i:=i) (zZ.mp nd).2 (by simpa using h1) (by simpa using h2) hk
theorem bP8 {kindOf:Str->Option NameKind}{x:Str}{v:Value}: ∀{P:List Str} {vs:List Value} {i:Nat} {m:Str->Option Value},P.Nodup->P[i]? =some x->vs[i]? =some v->kindOf x≠some .local->
  bindC kindOf (P.zip vs) m x=some v
 | [],_,_,_,_,h,_,_=>by simp at h
 | _::_,[],_,_,_,_,h,_=>by simp at h
 | p::P,w::vs,0,m,nd,h1,h2,hk=>by
  simp at h1 h2;subst h1;subst h2
  show bindC kindOf ((p,w)::P.zip vs) m p=_
  unfold bindC;rw[bP6 λv hv=>(zZ.mp nd).1 (a00 hv).1,a6 hk]
  simp
 | p::P,w::vs,i+1,m,nd,h1,h2,hk=>by
  show bindC kindOf ((p,w)::P.zip vs) m x=_
  unfold bindC;exact bP8 (i:=i) (zZ.mp nd).2 (by simpa using h1) (by simpa using h2) hk
noncomputable def start (N:List Str)(vs:List V):St:=vs.map some++replicate (N.length-vs.length) none
noncomputable def sY (CX:CXT)(P:Program)(w:World)(K:PySem.W.Frag)(mg:Str->Option Value)(base:Heap)(N:List Str)(qual:Str)(scope:Scope)(f:Addr)(cd:Value)(A:Around)(outer:List Env)(s:Shared)(H:Hp)(E:XK):Cx where
 prog:=P
 w:=w
 K:=K
 mg:=mg
 base:=base
 A:=A.deeper (envOfC qual scope s.heap.objs.size f cd)
 N:=N
 s₀:=s
 H₀:=H
 env:=envOfC qual scope s.heap.objs.size f cd
 outer:=outer
 stack:=envOfC qual scope s.heap.objs.size f cd::outer
 ex:=[]
 calm:=true
 fn:=λ_=>true
 pn:=[]
 xe:=λe s'=>wpAny (model P w) (A.deeper<|envOfC qual scope s.heap.objs.size f cd) (leaving (envOfC qual scope s.heap.objs.size f cd) e) (λ_ s''=>CX outer H s E e s'') (λe' s''=>CX outer H s E e' s'') s'
theorem c57 {sc:Scope}(h:sc.names.lookup x=some .cell): ∃c,(cellsFrom n sc.names []).lookup x=some c:=by
 have q:=aM5 sc.names n [] (.inl h);exact zF.mp q
theorem bP9 {CX:CXT}{ps:List Str}{cd:Value}{s1:Shared}{H:Hp}{E:XK}{vs:List V}
  (S:aY N ps scope) (hd:A.handled=none) (e0:cH4 P w K mg base A outer s H) (hl:vs.length=ps.length) (r:Vals vs us)
  (x:InCallC s s.heap.objs.size (bindL (envOfC qual scope s.heap.objs.size f cd).kindOf (ps.zip us) λ_=>none) (cellsFrom (s.heap.objs.size+1) scope.names []) (bindC (envOfC qual scope s.heap.objs.size f cd).kindOf (ps.zip us) λ_=>none) s1) :
  Inv (sY CX P w K mg base N qual scope f cd A outer s H E) [] (start N vs) H s1:=by
 have hpl:ps.length<=N.length:=by have:=fE List.length S.pre;rw[zY]at this;lia
 obtain⟨h1,tk,rfl,hk⟩:=x.done;have noA: ∀b:Addr,b ∉ (sY CX P w K mg base N qual scope f cd A outer s H E).ex:=λb z=>absurd (show b∈([]:List Addr)from z) ae
 refine⟨⟨e0.mod,S.kind,rfl,rfl,aG _,λy z c h1 h2=> ?_,λy hy=> ?_,λy c _ h=> ?_,λ_=>hd,Around.frames_deeper e0.frames,.inr ⟨rfl,rfl⟩,λb z=>absurd z (noA b),e0.bs,e0.bsz,λb _ _=>noA b,λb z=>absurd z (noA b),e0.funs,e0.frf⟩,
  rfl,e0.bare,Un.kept hk,⟨_,x.toInCall.ns,λi y v h1 h2 h3=> ?_⟩,λy c h=>⟨_,x.cell y c h⟩,e0.hok.fresh<|aG _,λy c h=> ?_,λp hp=>absurd (show p∈([]:List (Addr×Obj))from hp) ae,e0.hok.kept hk,?_⟩
 .exact name_of_addr x.apart (pS h1) (pS h2)
 .have hy:scope.names.lookup y=some .cell\/scope.names.lookup y=some .free:=hy;rcases hy with hy|hy
  .exact c57 hy
  .exact absurd rfl (S.nofree _<|pS hy)
 .exact nW (x.above y c<|pS h)
 .have hi:i<vs.length:=by
   unfold start at h2
   by_cases hi:i<vs.length
   .exact hi
   .rw[tP<|by simpa using hi]at h2
    rw[List.getElem?_replicate]at h2;split at h2<;>cases h2
  have ha:vs[i]? =some v:=by
   unfold start at h2;rw[zD<|by simpa using hi,bO]at h2
   cases e:vs[i]? with
   | none=>rw[e]at h2;cases h2
   | some a=>rw[e]at h2;cases h2;rfl
  obtain⟨u,hu,rv⟩:=r.get ha;have hp:ps[i]? =some y:=by
   rw[<-S.pre,List.getElem?_take_of_lt ad];exact h1
  have ndP:ps.Nodup:=by rw[<-S.pre];exact S.nd.sublist (List.take_sublist _ _)
  refine⟨u,rv,?_⟩
  rcases S.par y (aN0 hp)with k|k
  .exact .inl ⟨k,bP7 ndP hp hu k⟩
  .obtain⟨c,e⟩:=c57 (n:=s.heap.objs.size+1) k;refine .inr ⟨.inl k,c,e,?_⟩;have q:=x.cell y c e;rw[bP8 ndP hp hu (by show scope.names.lookup y≠_;rw[k];decide)]at q
   exact q
 .exact e0.hok.fresh (nW<|x.above y c<|pS h)
 .unfold start;show _=N.length;rw[cS,aP,jZ]
  lia
theorem d69 {CX:CXT}{P:Program}{w:World}{K:PySem.W.Frag}{mg:Str->Option Value}{base:Heap}{k:Nat}{f:Addr}{name qual:Str}{params:Arguments}{body:List Stmt}{scope:Scope}{dV kV doc pm cdv ct oc:Value}{an od:Option Addr}
  {osl:Array (Option Value)} {N ps:List Str} {sp:Sp} (lk:K.lookup f=some ⟨oc,od,.func<|fnOf name qual params body scope dV kV doc pm an cdv ct,osl⟩) (hcd:codeIn K cdv qual=true) (S:aY N ps scope)
  (len: ∀vs H Q E,sp vs H Q E->vs.length=ps.length)
  (hbody: ∀(A:Around) (outer:List Env) (s:Shared) (H:Hp) (vs:List V) (Q:VK) (E:XK),gS k (A.deeper<|envOfC qual scope s.heap.objs.size f cdv)->sp vs H Q E->
   ∃t,PSs (sY CX P w K mg base N qual scope f cdv A outer s H E) body t/\t {nx:=λ_ H'=>Q .non H',rt:=Q} (start N vs) H) :
  rW P w K mg base CX (k+1) f (fnOf name qual params body scope dV kV doc pm an cdv ct) ps sp:=by
 refine⟨len,λA outer s H args us vs Q E hr e0 hb r hsp=> ?_⟩
 have hl:=len _ _ _ _ hsp;have KX:K.In s.heap:=e0.mod.kin.keeps λb o e=>(e0.bs b o e).1
 have lim:s.heap.NoLimit:=e0.mod.nolimit.keeps λb o e=>(e0.bs b o e).1
 have hkind: ∀y∈ps.zip us,scope.names.lookup y.1=some .local\/(scope.names.lookup y.1=some .cell/\((cellsFrom (s.heap.objs.size+1) scope.names []).lookup y.1).isSome=true):=λ⟨n,v⟩ hy=>by
  rcases S.par n (a00 hy).1 with q|q
  .exact .inl q
  .exact .inr ⟨q,aM5 _ _ _<|.inl q⟩
 refine codeAny_call_function hr.depth (KX _ _ lk) rfl S.co S.gen rfl (PySem.W.codeRec_of KX hcd) (hb _ _ _ _ ?_)
 refine wpAny_newFunctionEnv_cells S.kind hkind λenv he s1 x=> ?_
 subst he;refine⟨lim.keeps x.toInCall.keep,codeAny_func ?_⟩;obtain⟨t,ht,hq⟩:=hbody A outer s H vs Q E (hr.deeper _) hsp;have I:Inv (sY CX P w K mg base N qual scope f cdv A outer s H E) [] (start N vs) H s1:=bP9 S hr.hd e0 hl r x;refine bJ (ht [] s1 (start N vs) H _ I hq) (λfl s' hs=> ?_) λe s' hs=>hs
 have fin: ∀{σ':St} {H':Hp} {v:V} {u:Value},Inv (sY CX P w K mg base N qual scope f cdv A outer s H E) [] σ' H' s'->RelV v u->Q v H'->CE outer P w H s Q u s':=
  λ{σ' H' v u} J rv q=>⟨v,H',J.os,J.bare,J.base,J.hok,rv,q⟩
 cases fl with
 | ret u=>
  obtain⟨v,σ',H',J,rv,q⟩:=hs;exact fin J rv q
 | next=>
  obtain⟨σ',H',J,q⟩:=hs;exact fin (v:=V.non) (u:=Value.none) J rfl q
 | brk=>
  obtain⟨_,_,_,q⟩:=hs;exact False.elim q
 | cont=>
  obtain⟨_,_,_,q⟩:=hs;exact False.elim q
section
variable {X:Cx}{x:Str}{p pos:Pos}{e:Expr}{es:List Expr}{t:TA}{id T:String}{r:List V->Hp->VK->Prop}
def tCB (r:List V->Hp->VK->Prop)(t:TA):TE:=λσ H Q=>t σ H λvs H1=>r vs H1 Q
theorem c58 (hc:pI X (.builtin id) r)(hg:Gl X x)(hm:X.mg x=none)(hv:bootBuiltins x=some (.builtin id))(ha:PA X (e::es) t)(hn:⇑(x≠"__name__"))(hdb:⇑((x==("__debug__":Str))=false))
  (he:↥(starEach (e::es) X.env=(false,eval e X.env)::starEach es X.env)) (hpl:↥((backTo pos<|starEach es X.env).any (·.1)=false)):PE X (.Call (.Name x p) (e::es) [] pos) (tCB r t):=by
 intro pins s σ H Q I h;refine nM (uF I hg hm hv ?_ hn hdb);exact PyProof.Rows.callWith_builtin1 (thn (ha pos pins s σ H _ I h) λus s1 ⟨vs,H1,I1,r1,q1⟩=>hc pins s1 σ H1 vs us Q I1 r1 q1) he hpl
theorem cX9 (hc:pI X (.type T) r)(hg:Gl X x)(hm:X.mg x=none)(hv:bootBuiltins x=some (.type T))(ha:PA X (e::es) t)(hn:⇑(x≠"__name__"))(hdb:⇑((x==("__debug__":Str))=false))
  (he:↥(starEach (e::es) X.env=(false,eval e X.env)::starEach es X.env)) (hpl:↥((backTo pos<|starEach es X.env).any (·.1)=false)):PE X (.Call (.Name x p) (e::es) [] pos) (tCB r t):=by
 intro pins s σ H Q I h;refine nM (uF I hg hm hv ?_ hn hdb);exact jX (thn (ha pos pins s σ H _ I h) λus s1 ⟨vs,H1,I1,r1,q1⟩=>hc pins s1 σ H1 vs us Q I1 r1 q1) he hpl
end
end L2
namespace HT
open PySem PyProof.Rows
section
open PySem.SeqAt
open PySem.AutoSeq1 (wpAny_loadPart')
open PySem.MeetsSeq PySem.MeetsSeq2 PySem.MeetsSeq3
end
section
variable {prog:Program}{w:World}{A:Around}{E:Value->Shared->Prop}{s:Shared}
theorem cat_tup {vs ws:List Value}(ht:IsTup s.heap t vs.toArray)(hb:IsTup s.heap b ws.toArray)(hv:vs≠[])
  (h1:ws=[]->Q (.ref t) s) (h2:ws≠[]->Q (.ref s.heap.objs.size) {s with heap:=s.heap.push {cls:= .type "tuple",data:= .seq (vs++ws).toArray}})
  (hsz:vs.length+ws.length<=sizeLine):wpAny (model prog w) A (binaryOp .Add (.ref t)<|.ref b) Q E s:=by
 obtain⟨⟨cls,dd,data,sl⟩,ho,hc,n,hd⟩:=id ht;obtain⟨⟨cls2,dd2,data2,sl2⟩,ho2,hc2,n2,hd2⟩:=id hb;simp only at hc hd hc2 hd2;subst hc hd hc2 hd2;have e:vs.toArray++ws.toArray=(vs++ws).toArray:=ae
 by_cases hw:ws=[]
 .exact concat_meets ⟨_,ho,rfl⟩ ⟨_,ho2,rfl⟩ aO7 seq_tuple_add aM6 aM1 (aL7 _ _)
   (tuple_addW1 t b vs.toArray ws.toArray n n2 dd dd2 sl sl2 (by simpa using hv)<|by simp[hw]) ⟨ho,ho2,h1 hw⟩
 .refine concat_meets ⟨_,ho,rfl⟩ ⟨_,ho2,rfl⟩ aO7 seq_tuple_add aM6 aM1 (aL7 _ _)
   (tuple_addW2 t b vs.toArray ws.toArray n n2 dd dd2 sl sl2 (by simpa using hv) (by simpa using hw) (by rw[bC,bC];exact hsz)) ⟨ho,ho2,?_⟩
  rw[e];exact h2 hw
noncomputable def sIx (n d:Nat):Option Int->Nat
 | none=>d
 | some v=>if v<0 then(v+(n:Int)).toNat else min v.toNat n
theorem sIx_none (n d:Nat):sIx n d none=d:=rfl
theorem sIx_nat (n d k:Nat):sIx n d (some (k:Int))=min k n:=by
 show(if(k:Int)<0 then((k:Int)+(n:Int)).toNat else min (k:Int).toNat n)=min k n
 rw[a6 ad,bX]
theorem sIx_le (n d:Nat)(hd:d<=n)(o:Option Int):sIx n d o<=n:=by
 cases o with
 | none=>exact hd
 | some v=>
  show(if v<0 then(v+(n:Int)).toNat else min v.toNat n)<=n
  by_cases hv:v<0
  .rw[a7 hv];lia
  .rw[a6 hv];exact Nat.min_le_right _ _
theorem cP8 (v:Int)(n d:Nat):(if v<0 then max (v+(n:Int)) 0 else min v (n:Int))=((sIx n d (some v):Nat):Int):=by
 show(if v<0 then max (v+(n:Int)) 0 else min v (n:Int))=(((if v<0 then(v+(n:Int)).toNat else min v.toNat n):Nat):Int)
 by_cases hv:v<0
 .simp only[a7 hv];lia
 .simp only[a6 hv];lia
theorem cH5 (lo hi:Option Int)(n:Nat):Builtin.Slice.sliceAdjust lo hi 1 (n:Int)=(((sIx n 0 lo:Nat):Int),((sIx n n hi:Nat):Int)):=by
 have h1: ¬((1:Int)<0):=ad
 unfold Builtin.Slice.sliceAdjust;simp only[h1,dC];refine kH ?_ ?_
 .cases lo with
  | none=>rfl
  | some v=>exact cP8 v n 0
 .cases hi with
  | none=>rfl
  | some v=>exact cP8 v n n
theorem cH6 (i j:Nat):Builtin.Slice.slicePlaces (i:Int) (j:Int) 1=j-i:=by
 unfold Builtin.Slice.slicePlaces;have h1:(1:Int)>0:=ad
 simp only[h1,cU,Int.ediv_one];split<;>lia
theorem bB2 {o:Option Int}{Q:Option Int->Shared->Prop}(p:IsPart v o)(h:Q o s):wpAny (model prog w) A (Builtin.Slice.slicePartIndex v) Q E s:=by
 cases p with
 | none=>exact slicePart_none h
 | int i t=>exact slicePart_int h
theorem yE {lo:Option Int}{Q:Int×Int×Nat->Shared->Prop}(hs:s.heap.IsSliceOf sl vl vu .none)(pl:IsPart vl lo)(pu:IsPart vu hi)
  (h:Q (((sIx n 0 lo:Nat):Int),1,sIx n n hi-sIx n 0 lo) s):wpAny (model prog w) A (Builtin.Slice.sliceApplied (.ref sl)<|pure (n:Int)) Q E s:=by
 obtain⟨os,hos,hcs,hds⟩:=id hs;unfold Builtin.Slice.sliceApplied Builtin.Slice.sliceFields;refine a9 (a9<|dB hos hds (x:=vl) rfl (a9<|dB hos hds (x:=vu) rfl (a9<|dB hos hds (x:= .none) rfl (aK ?_))));refine a9 (slicePart_none ?_);show wpAny _ _ (if((1:Int)==0)=true then _ else _) _ _ s;rw[a6 ac]
 refine a9 (bB2 pl<|a9<|bB2 pu<|a9<|aK ?_)
 show wpAny _ _ (match Builtin.Slice.sliceAdjust lo hi 1 (n:Int)with| (lo,hi)=>pure (lo,(1:Int),Builtin.Slice.slicePlaces lo hi 1)) _ _ s
 rw[cH5 lo hi n];show wpAny _ _ (pure (((sIx n 0 lo:Nat):Int),(1:Int),Builtin.Slice.slicePlaces ((sIx n 0 lo:Nat):Int) ((sIx n n hi:Nat):Int) 1)) _ _ s;rw[cH6];exact aK h
theorem d70 (xs:Array Value)(i k:Nat):((List.range k).filterMap fun(m:Nat)=>xs[((i:Int)+(m:Int)*1).toNat]?).toArray=((xs.toList.drop i).take k).toArray:=by
 have e:(fun(m:Nat)=>xs[((i:Int)+(m:Int)*1).toNat]?)=λm=>xs[i+m]? :=by
  funext m
  have:((i:Int)+(m:Int)*1).toNat=i+m:=ad
  rw[this]
 rw[e];have:=pick_run xs i k;rw[List.filterMap_map]at this;have e2:((λx=>xs[x]?)∘λx=>i+x)=λm=>xs[i+m]? :=rfl
 rw[e2]at this;rw[this]
theorem getItem_tuple_cut {lo:Option Int}(ht:IsTup s.heap t items)(hs:s.heap.IsSliceOf sl vl vu .none)(pl:IsPart vl lo)(pu:IsPart vu hi)
  (hw: ¬(sIx items.size 0 lo=0/\sIx items.size items.size hi=items.size))
  (h:Q (.ref s.heap.objs.size) {s with heap:=s.heap.push {cls:= .type "tuple",data:= .seq ((items.toList.drop<|sIx items.size 0 lo).take<|sIx items.size items.size hi-sIx items.size 0 lo).toArray}})
  (hsz:items.size<=sizeLine):wpAny (model prog w) A (getItem (.ref t)<|.ref sl) Q E s:=by
 have htake:sizeOk (.seq ((items.toList.drop<|sIx items.size 0 lo).take<|sIx items.size items.size hi-sIx items.size 0 lo).toArray):=by
  show((items.toList.drop<|sIx items.size 0 lo).take<|sIx items.size items.size hi-sIx items.size 0 lo).toArray.size<=sizeLine
  rw[bC,zY,tZ,aN6];omega
 have hj:sIx items.size items.size hi<=items.size:=sIx_le _ _ (aG _) hi;obtain⟨os,hos,hcs,hds⟩:=id hs;have hTs:s.TypeIs (.ref sl) "slice":=⟨os,hos,hcs⟩;unfold getItem;try with_reducible refine hX ?_
 first|refine a9 (aK ?_)|skip
 refine a9 (wpAny_sequenceKey ht.typeIs ac ?_)
 refine a9 (kX (name:=Str.ofString "__getitem__") ht.typeIs zC
  (j9 zC ht.typeIs entry_tuple_getitem ?_<|args_tuple_getitem _ _))
 show wpAny _ _ (Builtin.Tuple.tupleItemsOf (.ref t) >>= _) _ _ s
 refine a9 (tupleItemsOf_ ht ?_)
 refine a9 (a10 hTs ?_)
 rw[a7 ac]
 refine a9 (yE hs pl pu ?_)
 have hno: ¬((((sIx items.size 0 lo:Nat):Int)==0&&(1:Int)==1&&(sIx items.size items.size hi-sIx items.size 0 lo)==items.size)=true):=by
  intro q;rw[dZ,dZ]at q;have q1:((sIx items.size 0 lo:Nat):Int)=0:=eq_of_beq q.1.1;have q2:sIx items.size items.size hi-sIx items.size 0 lo=items.size:=eq_of_beq q.2;exact hw ⟨aa,aa⟩
 show wpAny _ _ (if(((sIx items.size 0 lo:Nat):Int)==0&&(1:Int)==1&&(sIx items.size items.size hi-sIx items.size 0 lo)==items.size)=true then _ else _) _ _ s
 rw[a6 hno,d70]
 first
  | exact a9 (m:=Builtin.Tuple.tupleExact _) (k8 (aK ⟨_,rfl,aK h⟩) htake)
  | exact a9 (m:=Builtin.Tuple.tupleExact _) (k8 (a9<|aK<|aK ⟨_,rfl,aK h⟩) htake)
  | exact a9 (a9 (m:=Builtin.Tuple.tupleExact _)<|k8 (aK<|aK ⟨_,rfl,aK h⟩) htake)
  | exact a9 (a9 (m:=Builtin.Tuple.tupleExact _)<|k8 (aK ⟨_,rfl,aK h⟩) htake)
end
end HT
namespace L2
abbrev TO:=St->Hp->(Option Int->Hp->Prop)->Prop
def PO (X:Cx)(e:Option Expr)(t:TO):Prop:=
 ∀(pins:List (Addr×Obj)) (s:Shared) (σ:St) (H:Hp) (Q:Option Int->Hp->Prop),Inv X pins σ H s->t σ H Q->
  wpAny (model X.prog X.w) X.A (evalPart e X.env) (λu s'=> ∃o H',Inv X pins σ H' s'/\IsPart u o/\Q o H') X.xe s
def dO0:TO:=λ_ H Q=>Q none H
def tPart (t:TE):TO:=λσ H Q=>t σ H λx H1=> ∃i,x= .int i/\Q (some i) H1
theorem intsAre_of {ns:List Int}: ∀{us:List Value},Vals (ns.map V.int) us->IntsAre us ns:=by
 induction ns with
 | nil=>intro us r;rw[jD]at r;cases r;exact .nil
 | cons n ns ih=>
  intro us r;rw[cF]at r;cases r with
  | cons r1 r2=>
   obtain⟨t,e⟩:=r1;subst e;exact .cons n t (ih r2)
section
variable {X:Cx}{e:Expr}{te:TE}{lo hi:Option Expr}{tl th:TO}{pos p2:Pos}
theorem dO1:PO X none dO0:=by
 intro pins s σ H Q I h;rw[evalPart_none];exact aK ⟨none,H,I,.none,h⟩
theorem cP9 (h:PE X e te):PO X (some e) (tPart te):=by
 intro pins s σ H Q I hw;rw[evalPart_some];refine thn (h pins s σ H _ I hw) λu s1 ⟨x,H1,I1,r1,q1⟩=> ?_
 obtain⟨i,rfl,q⟩:=q1;obtain⟨t,rfl⟩:=r1;exact⟨some i,H1,I1,.int i t,q⟩
def SlR (X:Cx)(r:V->Option Int->Option Int->Hp->VK->Prop):Prop:=
 ∀(pins:List (Addr×Obj)) (s:Shared) (σ:St) (H:Hp) (x:V) (v vl vu:Value) (lo hi:Option Int) (sl:Addr) (Q:VK),Inv X pins σ H s->RelV x v->s.heap.IsSliceOf sl vl vu .none->IsPart vl lo->IsPart vu hi->r x lo hi H Q->
  ∃T id,typeLookup (.type T) "__getitem__"=pure (some<|.builtin id)/\s.TypeIs v T/\wpAny (model X.prog X.w) X.A (getItem v<|.ref sl) (EP X pins σ Q) X.xe s
theorem SlR.or {r r':V->Option Int->Option Int->Hp->VK->Prop}(h:SlR X r)(h':SlR X r'):SlR X (λx lo hi H Q=>r x lo hi H Q\/r' x lo hi H Q):=by
 intro pins s σ H x v vl vu lo hi sl Q I rx hs pl pu q;rcases q with q|q
 .exact h pins s σ H x v vl vu lo hi sl Q I rx hs pl pu q
 .exact h' pins s σ H x v vl vu lo hi sl Q I rx hs pl pu q
def tSl (r:V->Option Int->Option Int->Hp->VK->Prop)(te:TE)(tl th:TO):TE:=λσ H Q=>te σ H λx H1=>tl σ H1 λl H2=>th σ H2 λu H3=>r x l u H3 Q
theorem c59 {r:V->Option Int->Option Int->Hp->VK->Prop}(hr:SlR X r)(he:PE X e te)(hl:PO X lo tl)(hu:PO X hi th):PE X (.Subscript e (.Slice lo hi none p2) pos) (tSl r te tl th):=by
 intro pins s σ H Q I h;refine Subscript_ (thn (he pins s σ H _ I h) λv s1 ⟨x,H1,I1,r1,q1⟩=> ?_)
 refine wpAny_Slice (thn (hl pins s1 σ H1 _ I1 q1) λvl s2 ⟨l,H2,I2,pl,q2⟩=>thn (hu pins s2 σ H2 _ I2 q2) λvu s3 ⟨u,H3,I3,pu,q3⟩=> ?_)
 rw[evalPart_none];refine aK ?_;have I4:Inv X pins σ H3 {s3 with heap:=s3.heap.push {cls:= .type "slice",data:= .fields #[vl,vu,.none]}}:=I3.kept (t':=s3.toks) λb ob q=>aV _ q
 obtain⟨T,id,hT,ht,hg⟩:=hr pins {s3 with heap:=s3.heap.push {cls:= .type "slice",data:= .fields #[vl,vu,.none]}} σ H3 x v vl vu l u s3.heap.objs.size Q I4 r1 (Heap.IsSliceOf.new ..) pl pu q3;show wpAny (model X.prog X.w) X.A (subscriptTail e (.Slice lo hi none p2) v<|.ref s3.heap.objs.size) (EP X pins σ Q) X.xe {s3 with heap:=s3.heap.push {cls:= .type "slice",data:= .fields #[vl,vu,.none]}}
 exact tail_any (ops:=[.ref s3.heap.objs.size,v]) ht hT hg (by with_unfolding_all rfl)
noncomputable def c60 (xs:List V)(lo hi:Option Int):List V:=(xs.drop<|HT.sIx xs.length 0 lo).take (HT.sIx xs.length xs.length hi-HT.sIx xs.length 0 lo)
theorem b37 (xs:List V)(lo hi:Option Int):(c60 xs lo hi).length<=xs.length:=by
 unfold c60;rw[zY,tZ]
 lia
noncomputable def rSlT (K:PySem.W.Frag):V->Option Int->Option Int->Hp->VK->Prop:=λx lo hi H Q=> ∃a xs,x= .ref a/\SqT K H a xs/\
 ¬(HT.sIx xs.length 0 lo=0/\HT.sIx xs.length xs.length hi=xs.length)/\ ∀p,H p=none->Q (.ref p) (upd H p<|.tup<|c60 xs lo hi)
theorem d71:SlR X (rSlT X.K):=by
 intro pins s σ H x v vl vu lo hi sl Q I rx hs pl pu h;obtain⟨a,xs,rfl,hx,hw,q⟩:=h;cases rx;obtain⟨its,r,ht,hz⟩:=I.tuple hx;have hlen:its.toArray.size=xs.length:=by rw[bC];exact r.length.symm
 refine⟨"tuple",_,PyProof.Rows.slot_tuple_getitem.lookup,ht.typeIs,?_⟩
 refine HT.getItem_tuple_cut ht hs pl pu (by rw[hlen];exact hw) ?_ (by rw[hlen];exact hz)
 rw[hlen];refine⟨.ref s.heap.objs.size,_,I.laid (t':=s.toks) (o:= .tup (c60 xs lo hi)) (λb ob q=>aV _ q) (aG _) ?_,rfl,q _<|I.hok.fresh<|aG _⟩
 exact⟨aI (b37 xs lo hi) hz,_,(r.drop<|HT.sIx xs.length 0 lo).take<|HT.sIx xs.length xs.length hi-HT.sIx xs.length 0 lo,uE _ _⟩
noncomputable def rCatT (K:PySem.W.Frag):R2:=λx y H Q=> ∃a b xs ys,x= .ref a/\y= .ref b/\SqT K H a xs/\SqT K H b ys/\xs≠[]/\xs.length+ys.length<=sizeLine/\
 (ys=[]->Q (.ref a) H)/\(ys≠[]-> ∀p,H p=none->Q (.ref p) (upd H p<|.tup<|xs++ys))
theorem Vals.nil_iff {xs:List V}(r:Vals xs us):us=[]↔xs=[]:=by
 cases r with
 | nil=>simp
 | cons _ _=>simp
theorem dO2:OpR X (binaryOp .Add) (rCatT X.K):=by
 intro pins s σ H x y v u Q I rx ry h;obtain⟨a,b,xs,ys,rfl,rfl,ha,hb,hx,hz,q1,q2⟩:=h;cases rx;cases ry;obtain⟨its,r1,p1,_⟩:=I.tuple ha;obtain⟨its2,r2,p2,_⟩:=I.tuple hb;refine HT.cat_tup p1 p2 (λz=>hx (r1.nil_iff.mp z)) (λz=>⟨.ref a,H,I,rfl,q1<|r2.nil_iff.mp z⟩) (λz=> ?_) (by rw[<-r1.length,<-r2.length];exact hz)
 refine⟨.ref s.heap.objs.size,_,I.laid (t':=s.toks) (o:= .tup (xs++ys)) (λb ob q=>aV _ q) (aG _) ?_,rfl,q2 (λw=>z (r2.nil_iff.mpr w)) _<|I.hok.fresh<|aG _⟩
 exact⟨by rw[cS];exact hz,_,r1.append r2,uE _ _⟩
end
noncomputable def ixN (n:Nat)(i:Int):Option Nat:=if 0<=i then(if i<n then some i.toNat else none)else if -(n:Int)<=i then some (i+n).toNat else none
noncomputable def atI (xs:List α)(i:Int):Option α:=(ixN xs.length i).bind λj=>xs[j]?
theorem cQ0 {i:Int}(h:ixN n i=some j):seqIndex? i n=some j/\j<n/\ -(n:Int)<=i/\i<n:=by
 unfold ixN at h
 by_cases h0:0<=i
 .rw[a7 h0]at h
  by_cases h1:i<n
  .rw[a7 h1]at h;have e:i.toNat=j:=hJ h;exact⟨by rw[a18 h0 h1,e],ad,ad,h1⟩
  .rw[a6 h1]at h;cases h
 .rw[a6 h0]at h
  by_cases h1: -(n:Int)<=i
  .rw[a7 h1]at h;have e:(i+n).toNat=j:=hJ h;exact⟨by rw[a11 ad h1,e],ad,h1,ad⟩
  .rw[a6 h1]at h;cases h
theorem b90 {xs:List α}{i:Int}{v:α}(h:atI xs i=some v): ∃j,seqIndex? i xs.length=some j/\xs[j]? =some v/\j<xs.length/\ -(xs.length:Int)<=i/\i<xs.length:=by
 unfold atI at h;cases e:ixN xs.length i with
 | none=>rw[e]at h;cases h
 | some j=>
  rw[e]at h;obtain⟨h1,h2,h3,h4⟩:=cQ0 e;exact⟨j,h1,h,h2,h3,h4⟩
theorem d4 {xs:List α}{v:α}(h:xs[j]? =some v):atI xs (j:Int)=some v:=by
 have hj:j<xs.length:=(jY.mp h).1;have e:ixN xs.length (j:Int)=some j:=by
  unfold ixN;rw[a7 ad,a7 ad];simp
 unfold atI;rw[e];exact h
theorem d72 (xs:List α)(v:α):atI (xs++[v]) (-1)=some v:=by
 have hl:(xs++[v]).length=xs.length+1:=ae
 have e:ixN (xs++[v]).length (-1)=some xs.length:=by
  unfold ixN;rw[hl,a6 ac,a7 ad]
  congr 1
  lia
 unfold atI;rw[e];show(xs++[v])[xs.length]? =some v;simp
def bW8 (b:Expr):Prop:= ∀o i,subscripted b false o i=operate [o,i] (getItem o i)
def IxR (X:Cx)(r:R2):Prop:=
 ∀(value slice:Expr) (pins:List (Addr×Obj)) (s:Shared) (σ:St) (H:Hp) (x y:V) (v u:Value) (Q:VK),Inv X pins σ H s->RelV x v->RelV y u->r x y H Q->
  subscripted slice false v u=operate [v,u] (getItem v u)->wpAny (model X.prog X.w) X.A (subscriptTail value slice v u) (EP X pins σ Q) X.xe s
def MtR (X:Cx)(id:String)(r:V->List V->Hp->VK->Prop):Prop:=
 ∀(pins:List (Addr×Obj)) (s:Shared) (σ:St) (H:Hp) (x:V) (xs:List V) (v:Value) (us:List Value) (Q:VK),Inv X pins σ H s->RelV x v->Vals xs us->r x xs H Q->
  wpAny (model X.prog X.w) X.A (call (.builtin id) (v::us)) (EP X pins σ Q) X.xe s
section
variable {X:Cx}{a b:Expr}{ta tb:TE}{pos:Pos}
theorem IxR.or {r r':R2}(h:IxR X r)(h':IxR X r'):IxR X (λx y H Q=>r x y H Q\/r' x y H Q):=by
 intro value slice pins s σ H x y v u Q I rx ry q hs;rcases q with q|q
 .exact h value slice pins s σ H x y v u Q I rx ry q hs
 .exact h' value slice pins s σ H x y v u Q I rx ry q hs
theorem pe_ix {r:R2}(hr:IxR X r)(ha:PE X a ta)(hb:PE X b tb)(hs:bW8 b):PE X (.Subscript a b pos) (tOp r ta tb):=by
 intro pins s σ H Q I h;exact Subscript_ (binT ha hb I h λv u s2 x y H2 I2 rx ry q=>hr a b pins s2 σ H2 x y v u Q I2 rx ry q (hs _ _))
noncomputable def rIxL (K:PySem.W.Frag):R2:=λx y H Q=> ∃p xs i v,x= .ref p/\y= .int i/\SqL K H p xs/\atI xs i=some v/\Q v H
noncomputable def rIxT (K:PySem.W.Frag):R2:=λx y H Q=> ∃p xs i v,x= .ref p/\y= .int i/\SqT K H p xs/\atI xs i=some v/\Q v H
noncomputable def rIxS:R2:=λx y H Q=> ∃z i c,x= .str z/\y= .int i/\z.length<=sizeLine/\atI z.cps.toList i=some c/\Q (.str ⟨#[c]⟩) H
theorem dO3:IxR X (rIxL X.K):=by
 intro value slice pins s σ H x y v u Q I rx ry h hs;obtain⟨p,xs,i,z,rfl,rfl,hq,he,q⟩:=h;cases rx;obtain⟨t,rfl⟩:=ry;obtain⟨its,r,pl,hz⟩:=I.list hq;obtain⟨j,h1,h2,h3,h4,h5⟩:=b90 he;obtain⟨w,ew,rw'⟩:=r.get h2;have hl:=r.length;have hn:=aY1;have fin:EP X pins σ Q w s:=⟨z,H,I,rw',q⟩
 by_cases h0:0<=i
 .have hj:i.toNat=j:=by
   rw[a18 h0 h5]at h1;exact hJ h1
  exact item_listR pl.isList h0 ad (by rw[hj];simpa using ew) fin hs
 .have hj:(i+(its.toArray.size:Int)).toNat=j:=by
   rw[a11 ad h4]at h1
   rw[bC,<-hl];exact hJ h1
  exact subscriptTail_builtinR (x:=w) pl.isList.typeIs slot_list_getitem.lookup
   (wpAny_getItem_list_neg (Q:=λr s'=>r=w/\EP X pins σ Q r s') pl.isList ad (by rw[bC]<;>lia) ad (by rw[hj];simpa using ew) ⟨rfl,fin⟩) hs
theorem ix_tup:IxR X (rIxT X.K):=by
 intro value slice pins s σ H x y v u Q I rx ry h hs;obtain⟨p,xs,i,z,rfl,rfl,hq,he,q⟩:=h;cases rx;obtain⟨t,rfl⟩:=ry;obtain⟨its,r,pl,hz⟩:=I.tuple hq;obtain⟨j,h1,h2,h3,h4,h5⟩:=b90 he;obtain⟨w,ew,rw'⟩:=r.get h2;have hl:=r.length;have hn:=aY1;have fin:EP X pins σ Q w s:=⟨z,H,I,rw',q⟩;exact subscriptTail_builtinR (x:=w) pl.typeIs slot_tuple_getitem.lookup
  (getItem_tuple (j:=j) (Q:=λr s'=>r=w/\EP X pins σ Q r s') pl ad ad (by rw[bC,<-hl];exact h1) (by simpa using ew) ⟨rfl,fin⟩) hs
theorem ix_str:IxR X rIxS:=by
 intro value slice pins s σ H x y v u Q I rx ry h hs;obtain⟨z,i,c,rfl,rfl,hz,he,q⟩:=h;obtain⟨t,rfl⟩:=rx;obtain⟨t',rfl⟩:=ry;obtain⟨j,h1,h2,h3,h4,h5⟩:=b90 he;have hl:z.cps.toList.length=z.length:=by simp[Str.length]
 rw[hl]at h1 h4 h5;have hn:=aY1;exact tail_any (typeIs_str s z t) slot_str_getitem.lookup (getItem_str (c:=c) (by
  have e1:decide (i< -(2^63:Int))=false:=eC ad
  have e2:decide (i≥2^63)=false:=eC ad
  rw[e1,e2,Bool.or_false]) (by rw[h1];simpa using h2) ⟨.str ⟨#[c]⟩,H,I.tok _,⟨_,rfl⟩,q⟩) hs
noncomputable def rIx (K:PySem.W.Frag):R2:=λx y H Q=>rIxL K x y H Q\/rIxT K x y H Q\/rIxS x y H Q
theorem ix_seq:IxR X (rIx X.K):=dO3.or (ix_tup.or ix_str)
theorem cH7 (its:List Value)(n j:Nat)(u:Value):Obj.mapSeq (·.setIfInBounds j u) {cls:= .type "list",data:= .seq its.toArray n}={cls:= .type "list",data:= .seq (its.set j u).toArray n}:=by
 simp[Obj.mapSeq]
theorem Inv.lst {σ:St}{H:Hp}{p:Addr}{xs:List V}(I:Inv X pins σ H s)(h:H p=some (.lst xs)) :
  ∃(its:List Value) (n:Nat),Vals xs its/\s.heap.get? p=some {cls:= .type "list",data:= .seq its.toArray n}/\xs.length<=sizeLine:=by
 obtain⟨z,its,n,r,e⟩:=I.hok p _ h;exact⟨its,n,r,e,z⟩
theorem Inv.lstUpd {σ:St}{H:Hp}{p:Addr}{xs ys:List V}{its':List Value}{n':Nat}{f:Obj->Obj}(I:Inv X pins σ H s)(h:H p=some (.lst xs))
  (ho:s.heap.get? p=some {cls:= .type "list",data:= .seq its.toArray n}) (hf:f {cls:= .type "list",data:= .seq its.toArray n}={cls:= .type "list",data:= .seq its'.toArray n'}) (r:Vals ys its') (hz:ys.length<=sizeLine) (t:Nat) :
  Inv X pins σ (upd H p<|.lst ys) {s with heap:=s.heap.update p f,toks:=t}:=by
 have e:(s.heap.update p f).get? p=some {cls:= .type "list",data:= .seq its'.toArray n'}:=by
  rw[pN f ho (by rw[hf]<;>rfl),hf]
 refine I.write (x:=p) (e:=p) (by rw[h];trivial) (.inl rfl) (λb u hb q=>(aM7 _ _<|Ne.symm hb).trans q) ⟨_,e⟩ ?_
 exact⟨hz,its',n',r,e⟩
noncomputable def rSetL:V->V->V->Hp->(Hp->Prop)->Prop:=λo i v H Q=> ∃p xs k j,o= .ref p/\i= .int k/\H p=some (.lst xs)/\ixN xs.length k=some j/\Q (upd H p<|.lst<|xs.set j v)
theorem c61:PSet X rSetL:=by
 intro pins s σ H o i v ov iv u Q I ro ri rv h;obtain⟨p,xs,k,j,rfl,rfl,hp,hj,q⟩:=h;cases ro;obtain⟨t,rfl⟩:=ri;obtain⟨its,n,r,ho,hz⟩:=I.lst hp;obtain⟨h1,h2,h3,h4⟩:=cQ0 hj;have hl:=r.length;have hn:=aY1;have I':Inv X pins σ (upd H p<|.lst<|xs.set j v) {s with heap:=s.heap.update p (Obj.mapSeq (·.setIfInBounds j u))}:=
  I.lstUpd hp ho (cH7 its n j u) (r.set rv j) (by rw[fB];exact hz) s.toks
 by_cases h0:0<=k
 .have hk:k.toNat=j:=by
   rw[a18 h0 h4]at h1;exact hJ h1
  exact PySem.W.ki_setAt ho h0 ad (by rw[bC,<-hl];exact h4) (by rw[hk];exact⟨_,I',q⟩)
 .have hk:(k+(its.toArray.size:Int)).toNat=j:=by
   rw[a11 ad h3]at h1
   rw[bC,<-hl];exact hJ h1
  exact PySem.W.ki_setBack ho ad (by rw[bC,<-hl];exact h3) ad (by rw[hk];exact⟨_,I',q⟩)
theorem bW9 (lo hi:Option Int)(n:Nat):(sliceBounds lo hi none n).1=((HT.sIx n 0 lo:Nat):Int)/\(sliceBounds lo hi none n).2.1=((HT.sIx n n hi:Nat):Int)/\(sliceBounds lo hi none n).2.2=1:=by
 refine⟨?_,?_,rfl⟩
 .cases lo with
  | none=>simp[sliceBounds,HT.sIx]
  | some i=>
   simp only[sliceBounds,HT.sIx,getD_none,show(1:Int)>0 by decide,cU]
   by_cases h:i<0
   .simp only[h,cU]<;>lia
   .simp only[h,dC]<;>lia
 .cases hi with
  | none=>simp[sliceBounds,HT.sIx]
  | some i=>
   simp only[sliceBounds,HT.sIx,getD_none,show(1:Int)>0 by decide,cU]
   by_cases h:i<0
   .simp only[h,cU]<;>lia
   .simp only[h,dC]<;>lia
theorem bL8 (its:List Value)(lo hi:Option Int):slicePick its.toArray lo hi none=((its.drop<|HT.sIx its.length 0 lo).take<|HT.sIx its.length its.length hi-HT.sIx its.length 0 lo).toArray:=by
 obtain⟨h1,h2,h3⟩:=bW9 lo hi its.toArray.size;unfold slicePick;rw[h1,h2,h3];simp only[sliceRange_one,pick_run,bC]<;>rfl
noncomputable def rSlL (K:PySem.W.Frag):V->Option Int->Option Int->Hp->VK->Prop:=λx lo hi H Q=> ∃a xs,x= .ref a/\SqL K H a xs/\ ∀p,H p=none->Q (.ref p) (upd H p<|.lst<|c60 xs lo hi)
theorem cQ1:SlR X (rSlL X.K):=by
 intro pins s σ H x v vl vu lo hi sl Q I rx hs pl pu h;obtain⟨a,xs,rfl,hx,q⟩:=h;cases rx;obtain⟨its,r,ht,hz⟩:=I.list hx;have hlen:=r.length;refine⟨"list",_,slot_list_getitem.lookup,ht.isList.typeIs,?_⟩;refine wpAny_getItem_list_slice ht.isList hs pl pu .none ae ?_ (by rw[bC]<;>lia)
 rw[bL8,<-hlen];refine⟨.ref s.heap.objs.size,_,I.laid (t':=s.toks) (o:= .lst (c60 xs lo hi)) (λb ob q=>aV _ q) (aG _) ?_,rfl,q _<|I.hok.fresh<|aG _⟩
 exact⟨aI (b37 xs lo hi) hz,_,0,(r.drop<|HT.sIx xs.length 0 lo).take<|HT.sIx xs.length xs.length hi-HT.sIx xs.length 0 lo,bV _ rfl⟩
noncomputable def aS7:V->Bool
 | .non=>true
 | .bl _=>true
 | .int _=>true
 | .str _=>true
 | _=>false
noncomputable def eqV:V->V->Bool
 | .non,.non=>true
 | .bl a,.bl b=>a==b
 | .bl a,.int b=>(if a then 1 else 0)==b
 | .int a,.bl b=>a==(if b then 1 else 0)
 | .int a,.int b=>a==b
 | .str a,.str b=>a==b
 | _,_=>false
theorem eqAt_V {y x:V}(ry:RelV y u)(rx:RelV x v)(fy:aS7 y=true)(fx:aS7 x=true):SeqAt.EqAt A s u v (eqV y x):=by
 cases y with
 | non=>
  cases ry;cases x with
  | non=>cases rx;exact SeqAt.EqAt.same _
  | bl b=>cases rx;exact SeqAt.EqAt.none_bool b
  | int b=>obtain⟨t,rfl⟩:=rx;exact SeqAt.EqAt.none_int b t
  | str b=>obtain⟨t,rfl⟩:=rx;exact SeqAt.EqAt.none_str b t
  | _=>exact absurd (show false=true from fx) bI
 | bl a=>
  cases ry;cases x with
  | non=>cases rx;exact SeqAt.EqAt.bool_none a
  | bl b=>cases rx;exact SeqAt.EqAt.bool_bool a b
  | int b=>obtain⟨t,rfl⟩:=rx;exact SeqAt.EqAt.bool_int a b t
  | str b=>obtain⟨t,rfl⟩:=rx;exact SeqAt.EqAt.bool_str a b t
  | _=>exact absurd (show false=true from fx) bI
 | int a=>
  obtain⟨t',rfl⟩:=ry;cases x with
  | non=>cases rx;exact SeqAt.EqAt.int_none a t'
  | bl b=>cases rx;exact SeqAt.EqAt.int_bool a t' b
  | int b=>obtain⟨t,rfl⟩:=rx;exact SeqAt.EqAt.int_int a t' b t
  | str b=>obtain⟨t,rfl⟩:=rx;exact SeqAt.EqAt.int_str a t' b t
  | _=>exact absurd (show false=true from fx) bI
 | str a=>
  obtain⟨t',rfl⟩:=ry;cases x with
  | non=>cases rx;exact SeqAt.EqAt.str_none a t'
  | bl b=>cases rx;exact SeqAt.EqAt.str_bool a t' b
  | int b=>obtain⟨t,rfl⟩:=rx;exact SeqAt.EqAt.str_int a t' b t
  | str b=>obtain⟨t,rfl⟩:=rx;exact SeqAt.EqAt.str_str a t' b t
  | _=>exact absurd (show false=true from fx) bI
 | _=>exact absurd (show false=true from fy) bI
noncomputable def eqU (x:V)(u:Value):Bool:=match u with
 | .none=>eqV .non x
 | .bool b=>eqV (.bl b) x
 | .int i _=>eqV (.int i) x
 | .str z _=>eqV (.str z) x
 | _=>false
theorem d73 {x y:V}(r:RelV y u)(f:aS7 y=true):eqU x u=eqV y x:=by
 cases y with
 | non=>cases r;rfl
 | bl b=>cases r;rfl
 | int i=>obtain⟨t,rfl⟩:=r;rfl
 | str z=>obtain⟨t,rfl⟩:=r;rfl
 | _=>exact absurd (show false=true from f) bI
theorem bX0 {x:V}: ∀{xs:List V} {us:List Value},Vals xs us->xs.all aS7=true->us.any (eqU x)=xs.any λy=>eqV y x
 | _,_,.nil,_=>rfl
 | y::xs,u::us,.cons r t,f=>by
  rw[all_cons,dZ]at f;rw[any_cons,any_cons,d73 r f.1,bX0 t f.2]
theorem bB3 {A:Around}{s:Shared}{x:V}{v:Value}(rx:RelV x v)(fx:aS7 x=true): ∀{xs:List V} {us:List Value},Vals xs us->xs.all aS7=true-> ∀u∈us,SeqAt.EqAt A s u v (eqU x u)
 | _,_,.nil,_=>λu hu=>by cases hu
 | y::xs,u::us,.cons r t,f=>λu' hu=>by
  rw[all_cons,dZ]at f;rcases aZ.mp hu with rfl|hu
  .rw[d73 r f.1];exact eqAt_V r rx f.1 fx
  .exact bB3 rx fx t f.2 u' hu
noncomputable def inV (x:V)(xs:List V):Bool:=xs.any λy=>eqV y x
noncomputable def rIn (K:PySem.W.Frag)(neg:Bool):R2:=λx y H Q=> ∃p xs,y= .ref p/\(SqL K H p xs\/SqT K H p xs)/\aS7 x=true/\xs.all aS7=true/\Q (.bl<|if neg then !inV x xs else inV x xs) H
theorem bX1:OpR X (compareOp .NotIn) (rIn X.K true):=by
 intro pins s σ H x y v u Q I rx ry h;obtain⟨p,xs,rfl,hq,fx,fs,q⟩:=h;cases ry;rcases hq with hq|hq
 .obtain⟨its,r,pl,hz⟩:=I.list hq;refine SeqAt.notIn_listAt (eqU x) pl.isList (λw hw=>bB3 rx fx r fs w (by simpa using hw)) ⟨.bl _,H,I,rfl,?_⟩
  rw[show its.toArray.any (eqU x)=its.any (eqU x)by simp,bX0 r fs]
  exact q
 .obtain⟨its,r,pl,hz⟩:=I.tuple hq;refine SeqAt.notIn_tupleAt (eqU x) pl (λw hw=>bB3 rx fx r fs w (by simpa using hw)) ⟨.bl _,H,I,rfl,?_⟩
  rw[show its.toArray.any (eqU x)=its.any (eqU x)by simp,bX0 r fs]
  exact q
theorem bX2:pI X (.builtin "len") (λxs H Q=> ∃p ys,xs=[.ref p]/\(SqL X.K H p ys\/SqT X.K H p ys)/\Q (.int ys.length) H):=by
 intro pins s σ H xs us Q I r h;obtain⟨p,ys,rfl,hq,q⟩:=h;obtain⟨u,rfl,rx⟩:=vals1 r;cases rx;have hn:=aY1;rcases hq with hq|hq
 .obtain⟨its,r',pl,hz⟩:=I.list hq;have hlen:=r'.length;exact Calls.call_len_list pl.isList (by simp only[bC]<;>lia) ⟨.int ys.length,H,I.tok _,⟨s.toks+1,by rw[bC,hlen]⟩,q⟩
 .obtain⟨its,r',pl,hz⟩:=I.tuple hq;have hlen:=r'.length;exact len_tuple pl (by simp only[bC]<;>lia) ⟨.int ys.length,H,I.tok _,⟨s.toks+1,by rw[bC,hlen]⟩,q⟩
theorem bX3:pI X (.type "list") (λxs H Q=> ∃p ys,xs=[.ref p]/\(SqL X.K H p ys\/SqT X.K H p ys)/\ ∀l,H l=none->Q (.ref l) (upd H l<|.lst ys)):=by
 intro pins s σ H xs us Q I r h;obtain⟨p,ys,rfl,hq,q⟩:=h;obtain⟨u,rfl,rx⟩:=vals1 r;cases rx;have fin: ∀(its:List Value),Vals ys its->ys.length<=sizeLine-> ∀(h':Heap) (c':Nat),(∀b o',s.heap.get? b=some o'->h'.get? b=some o')->
   h'.get? s.heap.objs.size=some {cls:= .type "list",dict:=none,data:= .seq its.toArray c',slots:= #[]}->EP X pins σ Q (.ref s.heap.objs.size) {s with heap:=h'}:=λits r' hz h' c' kp e=>
  ⟨.ref s.heap.objs.size,_,I.laid (t':=s.toks) kp (aG _)<|show rH X.prog X.w _ h' _ (.lst ys)from⟨hz,its,c',r',e⟩,rfl,q _<|I.hok.fresh<|aG _⟩
 rcases hq with hq|hq
 .obtain⟨its,r',pl,hz⟩:=I.list hq;have hlen:=r'.length;obtain⟨o,ho,hc,n,hd⟩:=pl.isList;exact call_list_seq p (.inl rfl) ho hc hd (λh' c' kp e=>fin its r' hz h' c' kp e) (by simp only[bC]<;>lia)
 .obtain⟨its,r',pl,hz⟩:=I.tuple hq;have hlen:=r'.length;obtain⟨o,ho,hc,n,hd⟩:=pl;exact call_list_seq p (.inr rfl) ho hc hd (λh' c' kp e=>fin its r' hz h' c' kp e) (by simp only[bC]<;>lia)
theorem wM:pI X (.type "tuple") (λxs H Q=> ∃p ys,xs=[.ref p]/\((SqL X.K H p ys/\ ∀l,H l=none->Q (.ref l) (upd H l<|.tup ys))\/(SqT X.K H p ys/\Q (.ref p) H))):=by
 intro pins s σ H xs us Q I r h;obtain⟨p,ys,rfl,h⟩:=h;obtain⟨u,rfl,rx⟩:=vals1 r;cases rx;rcases h with⟨hq,q⟩| ⟨hq,q⟩
 .obtain⟨its,r',pl,hz⟩:=I.list hq;have hlen:=r'.length;refine call_tuple_list pl.isList (λh' kp=> ?_) (by simp only[bC]<;>lia)
  have I1:Inv X pins σ H {s with heap:=h'}:=I.kept (t':=s.toks) kp;have I2:Inv X pins σ (upd H h'.objs.size<|.tup ys) {s with heap:=h'.push {cls:= .type "tuple",data:= .seq its.toArray}}:=
   I1.laid (t':=s.toks) (λb o e=>aV _ e) (aG _) (show rH X.prog X.w _ _ _ (.tup ys)from⟨hz,its,r',uE _ _⟩)
  exact⟨.ref h'.objs.size,_,I2,rfl,q _<|I1.hok.fresh<|aG _⟩
 .obtain⟨its,r',pl,hz⟩:=I.tuple hq;exact call_tuple_same pl ⟨.ref p,H,I,rfl,q⟩
def tyV (K:PySem.W.Frag)(T:String)(x:V)(H:Hp):Prop:=match x with
 | .str _=>T="str"
 | .int _=>T="int"
 | .ref p=>(T="list"/\ ∃xs,SqL K H p xs)\/(T="tuple"/\ ∃o,K.lookup p=some o/\o.cls= .type "tuple"/\o.dict=none)\/
   (T="dict"/\((∃kvs,H p=some (.dK kvs))\/ ∃kvs,H p=some (.dT kvs)))\/(T="set"/\ ∃S n,H p=some (.set S n))
 | _=>False
theorem tyV_is {pins:List (Addr×Obj)}{σ:St}{H:Hp}{s:Shared}{T:String}{x:V}{v:Value}(I:Inv X pins σ H s)(r:RelV x v)(ty:tyV X.K T x H) :
  s.TypeIs v T/\ ∀a,v= .ref a-> ∃ob,s.heap.get? a=some ob/\ob.dict=none:=by
 cases x with
 | str z=>
  obtain⟨t,rfl⟩:=r;cases (show T="str" from ty)
  exact⟨typeIs_str s z t,λ_ e=>nomatch e⟩
 | int i=>
  obtain⟨t,rfl⟩:=r;cases (show T="int" from ty)
  exact⟨qH s i t,λ_ e=>nomatch e⟩
 | ref p=>
  cases r;rcases ty with⟨rfl,xs,hq⟩| ⟨rfl,o,hk,hc,hd⟩| ⟨rfl,hk⟩| ⟨rfl,S,n,hk⟩
  .obtain⟨its,_,pl,_⟩:=I.list hq;refine⟨pl.isList.typeIs,λa e=> ?_⟩
   cases e;obtain⟨o,n,e,c,hd,_⟩:=pl;exact⟨o,e,hd⟩
  .refine⟨⟨o,I.kIn p o hk,hc⟩,λa e=> ?_⟩
   cases e;exact⟨o,I.kIn _ o hk,hd⟩
  .have z: ∃o,s.heap.get? p=some o/\o.ExactDict:=by
    rcases hk with⟨kvs,hk⟩| ⟨kvs,hk⟩
    .obtain⟨_,_,_,_,o,_,_,e,ex,_⟩:=I.hok p _ hk;exact⟨o,e,ex⟩
    .obtain⟨_,_,_,_,o,_,_,e,ex,_⟩:=I.hok p _ hk;exact⟨o,e,ex⟩
   obtain⟨o,e,ex⟩:=z;refine⟨⟨o,e,ex.1⟩,λa e2=> ?_⟩
   cases e2;exact⟨o,e,ex.2.1⟩
  .obtain⟨o,_,_,_,e,ex,_⟩:=I.hok p _ hk;refine⟨⟨o,e,ex.1⟩,λa e2=> ?_⟩
   cases e2;exact⟨o,e,ex.2.1⟩
 | _=>exact False.elim ty
def tBM (K:PySem.W.Frag)(T:String)(r:V->List V->Hp->VK->Prop)(to:TE)(t:TA):TE:=λσ H Q=>to σ H λx H1=>tyV K T x H1/\t σ H1 λxs H2=>r x xs H2 Q
variable {o e:Expr}{es:List Expr}{to:TE}{t:TA}{name:Str}{apos cpos:Pos}{T id:String}{r:V->List V->Hp->VK->Prop}
theorem pe_bm (pa:PlainAttrs T)(slot:Slot T name id)(hty:typeOf (.builtin id)=pure (.type "method_descriptor"))(hm:MtR X id r)(ho:PE X o to)(ha:PA X (e::es) t)
  (hbase:↥(attributeBase o name X.env (eval o X.env)=eval o X.env))
  (hfew:↥(((backTo cpos<|starEach (e::es) X.env).all (λx=> !x.1)&&(backToKw cpos<|keywordEach [] X.env).all (λx=>x.1.isSome)
   &&decide ((e::es).length+([]:List Keyword).length+(if([]:List Keyword).isEmpty then 0 else 1)<30))=true))
  (hline:↥((apos.endLine==cpos.line)=true)) (hs:↥(starEach (e::es) X.env=(false,eval e X.env)::starEach es X.env)) (hplain:↥((backTo cpos<|starEach es X.env).any (·.1)=false)) :
  PE X (.Call (.Attribute o name apos) (e::es) [] cpos) (tBM X.K T r to t):=by
 intro pins s σ H Q I h;refine wpAny_Call_method_late hbase hfew hline rfl (thn (ho pins s σ H _ I h) λv s1 ⟨x,H1,I1,r1,ty,q1⟩=> ?_)
 obtain⟨h1,h2⟩:=tyV_is I1 r1 ty;refine⟨T,id,pa,slot,hty,h1,h2,?_⟩;have hA:=ha cpos pins s1 σ H1 _ I1 q1;rw[hs]at hA⊢;refine Calls.callWith_builtin (by show(false||(backTo cpos<|starEach es X.env).any (·.1))=false;rw[hplain]<;>rfl) (aN1 ?_)
 exact thn hA λus s2 ⟨vs,H2,I2,r2,q2⟩=>hm pins s2 σ H2 x vs v us Q I2 r1 r2 q2
end
def MtM (X:Cx)(id:String)(r:V->List V->Hp->VK->Prop):Prop:=
 ∀(pins:List (Addr×Obj)) (s:Shared) (σ:St) (H:Hp) (x:V) (xs:List V) (v:Value) (us:List Value) (Q:VK),Inv X pins σ H s->RelV x v->Vals xs us->r x xs H Q->
  wpAny (model X.prog X.w) X.A (call (.builtin id) (v::us)) (EP X pins σ Q) X.xe s
theorem Vals.one {x:V}(h:Vals [x] us): ∃u,us=[u]/\RelV x u:=by
 cases h with
 | cons r q=>cases q;exact⟨_,rfl,r⟩
theorem Vals.two {x y:V}(h:Vals [x,y] us): ∃u v,us=[u,v]/\RelV x u/\RelV y v:=by
 cases h with
 | cons r q=>obtain⟨u,rfl,s⟩:=Vals.one q;exact⟨_,_,rfl,r,s⟩
theorem Vals.reverse {xs:List V}(h:Vals xs us):Vals xs.reverse us.reverse:=by
 induction h with
 | nil=>exact .nil
 | cons r t ih=>rw[zU,zU];exact Vals.append ih (.cons r .nil)
theorem Vals.rep {xs:List V}{us:List Value}(h:Vals xs us): ∀k:Nat,Vals (replicate k xs).flatten (replicate k us).flatten
 | 0=> .nil
 | k+1=>by
  rw[k7,k7,nQ,nQ];exact Vals.append h (Vals.rep h k)
theorem foldl_rep (its:List Value): ∀(k:Nat) (acc:List Value),
  foldl (λx1 x2=>x1++x2) acc.toArray (replicate k its.toArray)=(acc++(replicate k its).flatten).toArray
 | 0,acc=>ae
 | k+1,acc=>by
  have e:acc.toArray++its.toArray=(acc++its).toArray:=ae
  have e2:(acc++its)++(replicate k its).flatten=acc++(replicate (k+1) its).flatten:=by
   rw[k7,nQ,List.append_assoc]
  rw[<-e2,<-foldl_rep its k (acc++its),<-e,k7,List.foldl_cons]
section
variable {X:Cx}{pins:List (Addr×Obj)}{σ:St}{H:Hp}{s:Shared}{l b:Addr}{xs ys zs:List V}
theorem Inv.lset {its':List Value}{f:Array Value->Array Value}(I:Inv X pins σ H s)(hH:H l=some (.lst xs))
  (e:s.heap.get? l=some {cls:= .type "list",data:= .seq its.toArray n}) (hf:f its.toArray=its'.toArray) (hv:Vals ys its') (hz:ys.length<=sizeLine) :
  Inv X pins σ (upd H l<|.lst ys) {s with heap:=s.heap.update l (Obj.mapSeq f),toks:=t'}:=by
 have q:=PySem.IsL.update e f;rw[hf]at q;refine I.write (x:=l) (e:=l) (by rw[hH];exact trivial) (.inl rfl) (λb' u hb hu=>(aM7 s.heap (Obj.mapSeq f)<|Ne.symm hb).trans hu) ⟨_,q⟩ ?_
 exact⟨hz,its',_,hv,q⟩
theorem Inv.lnew (I:Inv X pins σ H s)(hv:Vals ys its)(hz:ys.length<=sizeLine) :
  Inv X pins σ (upd H s.heap.objs.size<|.lst ys) {s with heap:=s.heap.push {cls:= .type "list",data:= .seq its.toArray},toks:=t'}:=
 I.laid (λ_ _ q=>aV _ q) (aG _) ⟨hz,its,0,hv,bV _ rfl⟩
theorem Inv.fresh (I:Inv X pins σ H s):H s.heap.objs.size=none:=I.hok.fresh (aG _)
theorem Inv.lstM (I:Inv X pins σ H s)(hH:H l=some (.lst xs)):xs.length<=sizeLine/\ ∃(its:List Value) (n:Nat),Vals xs its/\xs.length=its.length/\s.heap.get? l=some {cls:= .type "list",data:= .seq its.toArray n}:=by
 obtain⟨z,its,n,r,e⟩:=I.hok l _ hH;exact⟨z,its,n,r,r.length,e⟩
theorem d74 (h:n<=sizeLine):Builtin.List.listTooLong n=false:=by
 unfold Builtin.List.listTooLong;exact eC ad
end
section
variable {X:Cx}
noncomputable def dO4:V->List V->Hp->VK->Prop:=λx vs H Q=> ∃l xs y,x= .ref l/\vs=[y]/\H l=some (.lst xs)/\xs.length<sizeLine/\Q .non (upd H l<|.lst<|xs++[y])
theorem bQ0:MtM X "list.append" dO4:=by
 intro pins s σ H x vs v us Q I rx rv h;obtain⟨l,xs,y,rfl,rfl,hH,hz,q⟩:=h;cases rx;obtain⟨u,rfl,ru⟩:=rv.one;obtain⟨z,its,n,r,hl,e⟩:=I.lstM hH;refine l8 F.slot_list_append ⟨_,e,rfl⟩ F.entry_list_append (F.args_list_append_2 _ _) (PySem.list_append l its.toArray n u (by rw[bC];lia)) ⟨e,?_⟩
 refine⟨.non,_,I.lset (its':=its++[u]) hH e ae (r.append<|.cons ru .nil) ?_,rfl,q⟩
 rw[cS,zJ]
 lia
noncomputable def rCat:R2:=λx y H Q=> ∃l b xs zs,x= .ref l/\y= .ref b/\H l=some (.lst xs)/\H b=some (.lst zs)/\xs.length+zs.length<=sizeLine/\ ∀p,H p=none->Q (.ref p) (upd H p<|.lst<|xs++zs)
theorem op_cat:OpR X (binaryOp .Add) rCat:=by
 intro pins s σ H x y v u Q I rx ry h;obtain⟨l,b,xs,zs,rfl,rfl,hH,hB,hz,q⟩:=h;cases rx;cases ry;obtain⟨z,its,n,r,hl,e⟩:=I.lstM hH;obtain⟨z2,its2,n2,r2,hl2,e2⟩:=I.lstM hB;refine PySem.P.add_list e e2 ?_ (by rw[bC,bC];omega)
 have ea:its.toArray++its2.toArray=(its++its2).toArray:=ae
 rw[ea];exact⟨.ref _,_,I.lnew (t':=s.toks) (r.append r2) (by rw[cS];omega),rfl,q _ I.fresh⟩
noncomputable def rRep:R2:=λx y H Q=> ∃l k xs,x= .ref l/\y= .int k/\H l=some (.lst xs)/\ -(2^63)<=k/\k<2^63/\xs.length*k.toNat<=sizeLine/\
 ∀p,H p=none->Q (.ref p) (upd H p<|.lst (replicate k.toNat xs).flatten)
theorem bX4 (xs:List α)(k:Nat):(replicate k xs).flatten.length=k*xs.length:=by
 induction k with
 | zero=>simp
 | succ k ih=>rw[k7,nQ,cS,ih,Nat.succ_mul,add_comm]
theorem op_rep:OpR X (binaryOp .Mult) rRep:=by
 intro pins s σ H x y v u Q I rx ry h;obtain⟨l,k,xs,rfl,rfl,hH,h1,h2,hz,q⟩:=h;cases rx;obtain⟨t,rfl⟩:=ry;obtain⟨z,its,n,r,hl,e⟩:=I.lstM hH;have hlen:its.toArray.size*k.toNat<=sizeLine:=by rw[bC,<-hl];exact hz
 have hcap: ¬its.toArray.size*k.toNat>(2^63-1)/8:=by
  have:(sizeLine:Nat)<=(2^63-1)/8:=ac
  lia
 have hfit: ¬(!Builtin.List.listFitsIndex k)=true:=by
  rw[fitsIndex_both h1 h2];exact bI
 have hlong: ¬Builtin.List.listTooLong (its.toArray.size*k.toNat)=true:=by
  rw[d74 hlen];exact bI
 have hnew:foldl (λx1 x2=>x1++x2) #[] (replicate (if its.toArray.isEmpty=true then 0 else k.toNat) its.toArray)=(replicate k.toNat its).flatten.toArray:=by
  have f0: ∀m:Nat,foldl (λx1 x2=>x1++x2) #[] (replicate m its.toArray)=(replicate m its).flatten.toArray:=λm=>by
   have:=foldl_rep its m [];rw[a01]at this;exact this
  rw[f0];cases its with
  | nil=>simp
  | cons a r'=>rw[a6 ae]
 refine wpAny_binaryOp_repeat_ref (T:="list") (U:="int") ac ⟨_,e,rfl⟩ (λs'=>qH s' k t) noFill_list_mul F.fills_int_mul F.slot_int_rmul repeat_list F.slot_int_index.lookup
  (l8 F.slot_int_rmul (qH s k t) F.entry_int_rmul (F.args_int_rmul_2 _ _) (int___rmul___int_list k t l its.toArray n)
   ⟨e,rfl,⟨_,e,rfl⟩,l8 F.slot_list_mul ⟨_,e,rfl⟩ F.entry_list_mul (F.args_list_mul_2 _ _) (AutoListH.list___mul___list_int_3 l its.toArray n k t hfit hcap hlong) ⟨e,?_⟩⟩)
 rw[hnew];exact⟨.ref _,_,I.lnew (t':=s.toks) (r.rep k.toNat) (by rw[bX4,mul_comm];exact hz),rfl,q _ I.fresh⟩
end
section
variable {prog:Program}{w:World}{A:Around}{E:Value->Shared->Prop}{s:Shared}
set_option maxRecDepth 100000 in
end
end L2
namespace Att
open PySem PySem.W PySem.Calls PyProof.Rows
theorem b68 {P:Params}: ∀(ns:List Int) (vs:List Value),WellAll P h vs (ns.map WData.int)->IntsAre vs ns:=by
 intro ns
 induction ns with
 | nil=>
  intro vs w;rw[jD]at w;cases w;exact .nil
 | cons n ns ih=>
  intro vs w;rw[cF]at w;cases w with
  | cons a b=>
   cases a;exact .cons _ _ (ih _ b)
theorem cY0 {l:OpenLaw}{n:Nat}(hn:l.most=some n){P:Params}{h:Heap}{args:List WData}{vals:List Value}
  (hpre:l.row.toRowW.claim.pre args=true) (hwl:WellAll P h vals args) :
  ∃a vs ns,vals=[Value.ref a]/\args=[WData.list<|ns.map WData.int]/\h.get? a=some {cls:= .type "list",data:= .seq vs.toArray}/\IntsAre vs ns/\ns.length<=n:=by
 have hsh:WShape.hasAll [] args [.list .int]=true:=(pre_splitW hpre).1;have hc:l.pre.holds [] {args:=args}=true:=(pre_splitW hpre).2;obtain⟨d,r,rfl,h1,h2⟩:=hasAllW_cons hsh;obtain rfl:=hasAllW_nil h2;obtain⟨xs,rfl,h3⟩:=hasW_list h1;obtain⟨ns,rfl⟩:=items_int h3;have hlen:ns.length<=n:=by
  unfold OpenLaw.pre at hc;have h4:(WTm.not<|.lt (.lit<|.int (n:Int))<|.len<|.arg 0).holds [] {args:=[.list<|ns.map .int]}=true:=by
   have h4:=(holds_andW hc).1;rw[hn]at h4;exact h4
  have h5:=condW_of h4 (w_not<|w_lt w_lit<|w_len_list<|w_arg rfl);rw[aP]at h5;refine Nat.le_of_not_lt λq=> ?_
  have q':(n:Int)< ((ns.length:Nat):Int):=aa
  first
   | (rw[hV q']at h5;exact absurd h5 ac)
   | (simp at h5;omega)
 cases hwl with
 | cons w1 w2=>
  cases w2;cases w1 with
  | list ho hall=>exact⟨_,_,ns,rfl,rfl,ho,b68 ns _ hall,hlen⟩
theorem cY1 (l:OpenLaw)(args:List WData):l.row.toRowW.claim.post args (.bool true) args=true:=
 postW_of (r:=l.row.toRowW) (X:=(true==true))
  (show WShape.has [] (.bool true) .bool=true by first|rfl|decide|simp[WShape.has,WShape.arms,WShape.armsAll])
  (show(WTm.eq .res<|.lit<|.bool true).value [] {args:=args,res:=some (.bool true),after:=args}=some (.bool<|true==true)from w_eq_bool (w_res rfl) w_lit) rfl
theorem attach_call {l:OpenLaw}{XP:(Str->Option Value)->Heap->Prop}{d:DefRec}
  (hn:l.most=some n) (hdf:d.params.defaults=[])
  (call: ∀(w:World) (s₀ s₁:Shared) (mg mb:Str->Option Value) (fa:Addr) (o:Obj) (pm cd doc:Value) (a:Addr) (vs:List Value) (ns:List Int),
   Ground q loose [] XP w s₀ mg mb s₁.heap->YP w s₁.heap->
   s₁.heap.get? fa=some o->o.data= .func (docDef d.name d.params d.body d.scope pm cd doc)->s₁.heap.CodeRec cd d.name->mg d.name=some (.ref fa)->
   s₁.heap.get? a=some {cls:= .type "list",data:= .seq vs.toArray}->IntsAre vs ns->ns.length<=n->s₁.gens= #[]->
   codeAny (model l.prog w) callerA (.call (.ref fa) ⟨[.ref a],[]⟩) (λr s'=>r= .ok (.ret<|.bool true)/\OldK s₁.heap s'.heap/\s'.os=s₁.os/\AllBare s'.gens) s₁) :
  WalkO q loose XP YP l.row.toRowW d [] (λf vs=>PySem.call f vs):=by
 intro w s₀ s₁ mg mb G Y fa o pm cd doc dV kV ho hd hcd hD hmg hg args vals as hpre hlay hrd hwl hlo;obtain rfl:dV= .none:=Dflts.none hD hdf;obtain rfl:kV= .none:=Dflts.noKw hD;obtain⟨a,vs,ns,rfl,rfl,hobj,hints,hlen⟩:=cY0 hn hpre hwl;refine enter_call (qE (call w s₀ s₁ mg mb fa o pm cd doc a vs ns G Y ho (fd_plain hd) hcd hmg hobj hints hlen hg) λr s' hq=> ?_)
 obtain⟨rfl,h2,h3,h4⟩:=hq;exact⟨.inl ⟨.bool true,.bool true,[],rfl,λ_=>rfl,.bool true,cY1 l _,λ_=>⟨List.Pairwise.nil,λ_ hm=>(nomatch hm)⟩⟩,h2,h3,h4⟩
end Att
namespace L2
theorem bQ1: ∀{vs:List Value} {ns:List Int},IntsAre vs ns->Vals (ns.map V.int) vs
 | _,_,.nil=> .nil
 | _,_,.cons n t h=> .cons ⟨t,rfl⟩ (bQ1 h)
def Only (H:Hp):Prop:= ∀b,H b=none\/ ∃o xs,H b=some (.frz o<|.lst xs)
theorem d75 {P:Program}{w:World}{K:PySem.W.Frag}{mg mb:Str->Option Value}{CX:CXT}{k:Nat}{fa a:Addr}{fd:FuncData}{x:Str}{sp:Sp}{s₁:Shared}{vs:List Value}{ns:List Int}
  (KX:K.In s₁.heap) (hns:s₁.heap.Ns mainGlobals mg) (hb:s₁.heap.Ns builtinsNs mb) (hbb: ∀x:Str,x≠"__name__"->mb x=bootBuiltins x) (hlim:s₁.heap.NoLimit) (hg:s₁.gens= #[])
  (ha:s₁.heap.get? a=some {cls:= .type "list",data:= .seq vs.toArray}) (hi:IntsAre vs ns) (hl:ns.length<=sizeLine) (hr:gS k callerA)
  (F: ∀base:Heap,K.In base->base.Ns mainGlobals mg->rW P w K mg base CX k fa fd [x] sp) (hbind: ∀(s:Shared) (u:Value),BindsTo s fd ⟨[u],[]⟩ [(x,u)])
  (hsp: ∀H:Hp,Only H->SqL K H a (ns.map V.int)->sp [.ref a] H (λv _=>v= .bl true) λ_ _ _=>False)
  (hCX: ∀H e s',CX [] H s₁ (λ_ _ _=>False) e s'->False) :
  codeAny (model P w) callerA (.call (.ref fa) ⟨[.ref a],[]⟩) (λr s'=>r= .ok (.ret<|.bool true)/\OldK s₁.heap s'.heap/\s'.os=s₁.os/\AllBare s'.gens) s₁:=by
 have rv:=bQ1 hi;have lenV:=hi.length;have core: ∀H:Hp,Only H->SqL K H a (ns.map V.int)->HOk P w H s₁.heap->(∀b,H b≠none->b=a)->(H a≠none->K.lookup a=none)->
   codeAny (model P w) callerA (.call (.ref fa) ⟨[.ref a],[]⟩) (λr s'=>r= .ok (.ret<|.bool true)/\OldK s₁.heap s'.heap/\s'.os=s₁.os/\AllBare s'.gens) s₁:=by
  intro H hO hS hok hA hK;have base_of: ∀{b:Addr} {o:Obj},s₁.heap.get? b=some o->H b=none->(bW2 s₁.heap H).get? b=some o:=λe n=>d51 e n
  have noA: ∀{b:Addr} {o:Obj} {es:Array DictEntry} {ep:Nat},s₁.heap.get? b=some o->o.data= .dict es ep->H b=none:=λ{b o es ep} e d=>by
   cases q:H b with
   | none=>rfl
   | some u=>
    have e':b=a:=hA b (by rw[q];simp)
    subst e';rw[ha]at e;cases e;have d':Data.seq vs.toArray _=Data.dict es ep:=d;cases d'
  have nsK: ∀{b:Addr} {m:Str->Option Value},s₁.heap.Ns b m->(bW2 s₁.heap H).Ns b m:=λ{b m} ⟨o,es,ep,e,d,r⟩=>⟨o,es,ep,base_of e<|noA e d,d,r⟩
  have hKb:K.In (bW2 s₁.heap H):=λb o e=>base_of (KX b o e) (by
   cases q:H b with
   | none=>rfl
   | some u=>
    have e':b=a:=hA b (by rw[q];simp)
    subst e';rw[hK (by rw[q];simp)]at e;cases e)
  have hM:Mod K mg (bW2 s₁.heap H):=⟨hKb,nsK hns,⟨mb,nsK hb,hbb⟩,let ⟨mc,h1,h2⟩:=hlim;⟨mc,nsK h1,h2⟩⟩;have e0:cH4 P w K mg (bW2 s₁.heap H) callerA [] s₁ H:=⟨rfl,hM,λb o e=>dM2 e,le_of_eq<|cW8 _ _,trivial,λb hb=>absurd (show b∈([]:List Addr)from hb) ae,hok,.of_eq hg⟩
  refine qE ((F _ hKb<|nsK hns).run callerA [] s₁ H ⟨[.ref a],[]⟩ [.ref a] [.ref a] _ _ hr e0 (hbind s₁<|.ref a) (.cons rfl .nil)<|hsp H hO hS) λr s' h=> ?_
  cases r with
  | error e=>exact(hCX H e s' h).elim
  | ok fl=>
   cases fl with
   | next=>exact False.elim h
   | brk=>exact False.elim h
   | cont=>exact False.elim h
   | ret u=>
    obtain⟨v,H',os,bare,un,hok',r',q⟩:=h;have q':v= .bl true:=q;subst q';obtain rfl:u=Value.bool true:=r';refine⟨rfl,OldK.of_keep λb o e=> ?_,os,bare⟩
    cases q:H b with
    | none=>exact un.keep b o e q (by intro z;exact absurd (show b∈([]:List Addr)from z) ae) ae
    | some u=>
     rcases hO b with z| ⟨ob,xs,z⟩
     .rw[q]at z;cases z
     .have z2:=un.frzs b ob _ z;obtain⟨e1,_⟩:=hok b _ z;obtain⟨e2,_⟩:=hok' b _ z2;rw[e]at e1;cases e1;exact e2
 cases hk:K.lookup a with
 | some o=>
  have e:=KX a o hk;rw[ha]at e;cases e;refine core (λ_=>none) (λ_=> .inl rfl) (.inr ⟨_,vs.toArray,_,hk,rfl,rfl,rfl,by rw[bC,lenV];exact hl,by simpa using rv⟩) (λb u z=>by have z':(none:Option HO)=some u:=z;cases z') (λb z=>absurd rfl z) λz=>absurd rfl z
 | none=>
  refine core (λb=>if b=a then some (.frz {cls:= .type "list",data:= .seq vs.toArray}<|.lst<|ns.map V.int)else none) (λb=> ?_) (.inl<|.inr ⟨{cls:= .type "list",data:= .seq vs.toArray},a7 rfl⟩) (λb u z=> ?_) (λb z=> ?_) λ_=>hk
  .by_cases hb:b=a
   .exact .inr ⟨_,_,a7 hb⟩
   .exact .inl (a6 hb)
  .by_cases hb:b=a
   .have z':=(a7 hb).symm.trans z;cases z';subst hb;exact⟨ha,by rw[aP];exact hl,vs,_,rv,ha⟩
   .have z':=(a6 hb).symm.trans z;cases z'
  .by_cases hb:b=a
   .exact hb
   .exact absurd (a6 hb) z
theorem walk_of {l:PySem.W.OpenLaw}{XP:(Str->Option Value)->Heap->Prop}{d:DefRec}{K:Params->PySem.W.Frag}{CX:World->CXT}{sp:World->Sp}
  (hn:l.most=some n) (hn2:n<=sizeLine) (hdf:d.params.defaults=[]) (hr:gS k callerA)
  (hY: ∀(w:World) (h:Heap),YP w h->(K w.params).In h)
  (F: ∀(w:World) (mg:Str->Option Value) (fa:Addr) (h:Heap),(K w.params).In h->h.Ns mainGlobals mg->mg d.name=some (.ref fa)->
   ∃fd:FuncData,(∀(s:Shared) (u:Value),BindsTo s fd ⟨[u],[]⟩ [(x,u)])/\
    ∀base:Heap,(K w.params).In base->base.Ns mainGlobals mg->rW l.prog w (K w.params) mg base (CX w) k fa fd [x] (sp w))
  (hsp: ∀(w:World) (H:Hp) (a:Addr) (ns:List Int),ns.length<=n->Only H->SqL (K w.params) H a (ns.map V.int)->sp w [.ref a] H (λv _=>v= .bl true) λ_ _ _=>False)
  (hCX: ∀(w:World) (H:Hp) (s:Shared) (e:Value) (s':Shared),CX w [] H s (λ_ _ _=>False) e s'->False) :
  PySem.W.WalkO q loose XP YP l.row.toRowW d [] (λf vs=>PySem.call f vs):=by
 refine Att.attach_call hn hdf λw s₀ s₁ mg mb fa o pm cd doc a vs ns G Y ho hd hcd hmg hobj hints hlen hg=> ?_
 have KX:=hY w _ Y;obtain⟨fd,hb,hF⟩:=F w mg fa _ KX G.T.g hmg;exact d75 KX G.T.g G.T.b G.T.builtins G.T.nolimit hg hobj hints (aI hlen hn2) hr hF hb (λH hO hS=>hsp w H a ns hlen hO hS) λH e s'=>hCX w H s₁ e s'
def jK (s:Stmt):Arguments:=match s with
 | .FunctionDef _ a _ _ _ _ _ _ _ _=>a
 | _=>{posonlyargs:=[],args:=[],vararg:=none,kwonlyargs:=[],kw_defaults:=[],kwarg:=none,defaults:=[]}
def dY (s:Stmt):List Stmt:=match s with
 | .FunctionDef _ _ b _ _ _ _ _ _ _=>b
 | _=>[]
def aF (s:Stmt):Scope:=match s with
 | .FunctionDef _ _ _ _ _ _ sc _ _ _=>sc
 | _=>{kind:= .function,names:=[],isGenerator:=false,isCoroutine:=false}
abbrev CX0:CXT:=λ_ _ _ _ _ _=>False
abbrev E0:XK:=λ_ _ _=>False
structure Fun (K:PySem.W.Frag)(x qual:Str)(st:Stmt)(f:Addr)(fd:FuncData):Prop where
 ex: ∃(oc:Value) (od:Option Addr) (kV doc pm:Value) (an:Option Addr) (cdv ct:Value) (osl:Array (Option Value)),
  fd=fnOf x qual (jK st) (dY st) (aF st) .none kV doc pm an cdv ct/\K.lookup f=some ⟨oc,od,.func fd,osl⟩/\codeIn K cdv qual=true
 kp:keepIn K (.ref f)=true
section
variable {P:Program}{w:World}{K:PySem.W.Frag}{mg:Str->Option Value}{base:Heap}
theorem Fun.ok {ps:List Str}{sp:Sp}(F:Fun K x qual st f fd)(S:aY N ps (aF st))(len: ∀vs H Q E,sp vs H Q E->vs.length=ps.length)
  (hbody: ∀(cdv:Value) (A:Around) (outer:List Env) (s:Shared) (H:Hp) (vs:List V) (Q:VK) (E:XK),gS k (A.deeper<|envOfC qual (aF st) s.heap.objs.size f cdv)->sp vs H Q E->
   ∃t,PSs (sY CX0 P w K mg base N qual (aF st) f cdv A outer s H E).nox (dY st) t/\t {nx:=λ_ H'=>Q .non H',rt:=Q} (start N vs) H):rW P w K mg base CX0 (k+1) f fd ps sp:=by
 obtain⟨oc,od,kV,doc,pm,an,cdv,ct,osl,rfl,lk,hcd⟩:=F.ex;refine d69 lk hcd S len λA outer s H vs Q E hr hsp=> ?_
 obtain⟨t,h,q⟩:=hbody cdv A outer s H vs Q E hr hsp;exact⟨t,h.nox,q⟩
theorem Fun.binds {ps:List Str}(F:Fun K x qual st f fd)
  (h: ∀(kV doc pm:Value) (an:Option Addr) (cdv ct:Value) (us:List Value),us.length=ps.length->bindArgs (fnOf x qual (jK st) (dY st) (aF st) .none kV doc pm an cdv ct) ⟨us,[]⟩=pure (ps.zip us)):Binds K fd ps []:=by
 obtain⟨oc,od,kV,doc,pm,an,cdv,ct,osl,rfl,lk,hcd⟩:=F.ex;exact .all (h kV doc pm an cdv ct)
theorem aY3 {oc:Value}{an:Option Addr}{osl:Array (Option Value)}{kV doc pm cdv ct:Value}(l:K.lookup f=some ⟨oc,od,.func<|fnOf x qual (jK st) (dY st) (aF st) .none kV doc pm an cdv ct,osl⟩)
  (c:codeIn K cdv qual=true) (k:keepIn K (.ref f)=true):Fun K x qual st f (fnOf x qual (jK st) (dY st) (aF st) .none kV doc pm an cdv ct):=⟨⟨oc,od,kV,doc,pm,an,cdv,ct,osl,rfl,l,c⟩,k⟩
end
section
variable {X:Cx}
theorem pv (i:Nat)(hN:↥(X.N[i]? =some x))(hv:Vis X.env.scope x:=by first|exact Or.inl rfl|exact Or.inr (Or.inl rfl)|exact Or.inr (Or.inr rfl))(hd:⇑((x==("__debug__":Str))=false))
  (hcd:⇑((x==("__classdict__":Str))=false)):PE X (.Name x pos) (a82 i):=pe_var hN hv hd hcd
end
def iE (H H':Hp):Prop:= ∀b o,H b=some o->H' b=some o
theorem iE.refl (H:Hp):iE H H:=λ_ _ h=>h
theorem iE.trans {H H1 H2:Hp}(a:iE H H1)(b:iE H1 H2):iE H H2:=λc o h=>b c o (a c o h)
theorem iE.free {H H':Hp}(e:iE H H')(h:H' l=Option.none):H l=Option.none:=by
 cases q:H l with
 | none=>rfl
 | some o=>
  rw[e l o q]at h;cases h
theorem iE.seq {H H':Hp}{xs:List V}(e:iE H H')(h:SqL K H a xs):SqL K H' a xs:=by
 rcases h with(h| ⟨o,h⟩)|h
 .exact .inl (.inl<|e _ _ h)
 .exact .inl (.inr ⟨o,e _ _ h⟩)
 .exact .inr h
end L2
namespace M
inductive D where
 | non|bl (b:Bool)|int (i:Int)|str (x:Str)|ty (n:String)
 | tup (l:List D)|lst (l:List D)|rol (l:List D)
 | obj (C:Addr) (ks:List Str) (l:List D)
 | adr (a:Addr)
 | xob (a d:Addr) (ks:List Str) (l:List D)
abbrev AS:=Addr->Prop
def KT (K:PySem.W.Frag)(a:Addr)(vs:List V):Prop:=
 ∃(o:Obj) (its:Array Value) (n:Nat),K.lookup a=some o/\o.cls= .type "tuple"/\o.data= .seq its n/\its.size<=sizeLine/\Vals vs its.toList
def KL (K:PySem.W.Frag)(a:Addr)(vs:List V):Prop:=
 ∃(o:Obj) (its:Array Value) (n:Nat),K.lookup a=some o/\o.cls= .type "list"/\o.dict=none/\o.data= .seq its n/\its.size<=sizeLine/\Vals vs its.toList
def OkC (K:PySem.W.Frag)(C:Addr)(ks:List Str):Prop:=Cls K C/\ ∀f∈ks,a83 K C f
mutual
def Rep (K:PySem.W.Frag)(A:AS)(H:Hp):D->V->Prop
 | .non,v=>v= .non
 | .bl b,v=>v= .bl b
 | .int i,v=>v= .int i
 | .str x,v=>v= .str x
 | .ty n,v=>v= .ty n
 | .tup l,v=> ∃a vs,v= .ref a/\((¬A a/\Rd H a (.tup vs))\/KT K a vs)/\bS K A H l vs
 | .lst l,v=> ∃a vs,v= .ref a/\ ¬A a/\H a=some (.lst vs)/\bS K A H l vs
 | .rol l,v=> ∃a vs,v= .ref a/\((¬A a/\Rd H a (.lst vs))\/KL K a vs)/\bS K A H l vs
 | .obj C ks l,v=> ∃a dx vs,v= .ref a/\ ¬A a/\H a=some (.ins C dx<|ks.zip vs)/\ks.length=vs.length/\bS K A H l vs/\OkC K C ks
 | .adr a,v=>v= .ref a
 | .xob a d ks l,v=> ∃vs,v= .ref a/\ ¬A d/\H d=some (.xd<|ks.zip vs)/\ks.length=vs.length/\bS K A H l vs
def bS (K:PySem.W.Frag)(A:AS)(H:Hp):List D->List V->Prop
 | [],vs=>vs=[]
 | d::ds,vs=> ∃v vr,vs=v::vr/\Rep K A H d v/\bS K A H ds vr
end
section
variable {K:PySem.W.Frag}{A A':AS}{H H':Hp}
def mK (A:AS)(H:Hp)(A':AS)(H':Hp):Prop:= ∀b o,¬A b->H b=some o-> ¬A' b/\H' b=some o
theorem Rd.pres (p:mK A H A' H'){u:HO}(n: ¬A a)(r:Rd H a u): ¬A' a/\Rd H' a u:=by
 rcases r with r| ⟨o,r⟩
 .exact⟨(p a _ n r).1,.inl (p a _ n r).2⟩
 .exact⟨(p a _ n r).1,.inr ⟨o,(p a _ n r).2⟩⟩
mutual
theorem Rep.mono (p:mK A H A' H'): ∀{d:D} {v:V},Rep K A H d v->Rep K A' H' d v
 | .non,_,h=>h
 | .bl _,_,h=>h
 | .int _,_,h=>h
 | .str _,_,h=>h
 | .ty _,_,h=>h
 | .tup l,v,h=>by
  simp only[Rep]at h⊢;obtain⟨a,vs,e,c,r⟩:=h;refine⟨a,vs,e,?_,bS.mono p r⟩;rcases c with⟨n,c⟩|c
  .exact .inl (Rd.pres p n c)
  .exact .inr c
 | .lst l,v,h=>by
  simp only[Rep]at h⊢;obtain⟨a,vs,e,n,c,r⟩:=h;exact⟨a,vs,e,(p a _ n c).1,(p a _ n c).2,bS.mono p r⟩
 | .rol l,v,h=>by
  simp only[Rep]at h⊢;obtain⟨a,vs,e,c,r⟩:=h;refine⟨a,vs,e,?_,bS.mono p r⟩;rcases c with⟨n,c⟩|c
  .exact .inl (Rd.pres p n c)
  .exact .inr c
 | .obj C ks l,v,h=>by
  simp only[Rep]at h⊢;obtain⟨a,dx,vs,e,n,c,hl,r,ok⟩:=h;exact⟨a,dx,vs,e,(p a _ n c).1,(p a _ n c).2,hl,bS.mono p r,ok⟩
 | .adr _,_,h=>h
 | .xob a d ks l,v,h=>by
  simp only[Rep]at h⊢;obtain⟨vs,e,n,c,hl,r⟩:=h;exact⟨vs,e,(p d _ n c).1,(p d _ n c).2,hl,bS.mono p r⟩
theorem bS.mono (p:mK A H A' H'): ∀{l:List D} {vs:List V},bS K A H l vs->bS K A' H' l vs
 | [],_,h=>by simp only[bS]at h ⊢; exact h
 | d::ds,vs,h=>by
  simp only[bS]at h⊢;obtain⟨v,vr,e,r,rs⟩:=h;exact⟨v,vr,e,Rep.mono p r,bS.mono p rs⟩
end
theorem bS.length: ∀{l:List D} {vs:List V},bS K A H l vs->l.length=vs.length
 | [],_,h=>by simp only[bS]at h;subst h;rfl
 | d::ds,vs,h=>by
  simp only[bS]at h;obtain⟨v,vr,rfl,_,rs⟩:=h;simp only[dX,bS.length rs]
theorem bS.nil:bS K A H [] []:=by simp only[bS]
theorem bS.cons {d:D}{v:V}{l:List D}{vs:List V}(r:Rep K A H d v)(rs:bS K A H l vs):bS K A H (d::l) (v::vs):=by
 simp only[bS];exact⟨v,vs,rfl,r,rs⟩
theorem bS.uncons {d:D}{l:List D}{vs:List V}(h:bS K A H (d::l) vs): ∃v vr,vs=v::vr/\Rep K A H d v/\bS K A H l vr:=by
 simpa only[bS]using h
theorem bS.unnil {vs:List V}(h:bS K A H [] vs):vs=[]:=by simpa only[bS]using h
theorem bS.append: ∀{l m:List D} {vs ws:List V},bS K A H l vs->bS K A H m ws->bS K A H (l++m) (vs++ws)
 | [],_,_,_,h,g=>by rw[h.unnil];exact g
 | d::l,m,vs,ws,h,g=>by
  obtain⟨v,vr,rfl,r,rs⟩:=h.uncons;exact .cons r (bS.append rs g)
theorem bS.get: ∀{l:List D} {vs:List V} {i:Nat} {d:D},bS K A H l vs->l[i]? =some d-> ∃v,vs[i]? =some v/\Rep K A H d v
 | [],_,_,_,_,e=>by simp at e
 | d::l,vs,0,d',h,e=>by
  obtain⟨v,vr,rfl,r,rs⟩:=h.uncons;simp at e;subst e;exact⟨v,ae,r⟩
 | d::l,vs,i+1,d',h,e=>by
  obtain⟨v,vr,rfl,r,rs⟩:=h.uncons;obtain⟨w,h1,h2⟩:=bS.get (i:=i) rs (by simpa using e)
  exact⟨w,by simpa using h1,h2⟩
theorem bS.set: ∀{l:List D} {vs:List V} {d:D} {v:V} (i:Nat),bS K A H l vs->Rep K A H d v->bS K A H (l.set i d) (vs.set i v)
 | [],_,_,_,_,h,_=>by rw[h.unnil];exact .nil
 | d'::l,vs,d,v,0,h,g=>by
  obtain⟨w,vr,rfl,r,rs⟩:=h.uncons;exact .cons g rs
 | d'::l,vs,d,v,i+1,h,g=>by
  obtain⟨w,vr,rfl,r,rs⟩:=h.uncons;exact .cons r (bS.set i rs g)
theorem bS.drop: ∀{l:List D} {vs:List V} (n:Nat),bS K A H l vs->bS K A H (l.drop n) (vs.drop n)
 | _,_,0,h=>h
 | [],_,n+1,h=>by rw[h.unnil];exact .nil
 | d::l,vs,n+1,h=>by
  obtain⟨v,vr,rfl,r,rs⟩:=h.uncons;exact bS.drop n rs
theorem bS.take: ∀{l:List D} {vs:List V} (n:Nat),bS K A H l vs->bS K A H (l.take n) (vs.take n)
 | _,_,0,h=>by simp only[List.take_zero];exact .nil
 | [],_,n+1,h=>by rw[h.unnil];exact .nil
 | d::l,vs,n+1,h=>by
  obtain⟨v,vr,rfl,r,rs⟩:=h.uncons;exact .cons r (bS.take n rs)
theorem bS.rep {l:List D}{vs:List V}(h:bS K A H l vs): ∀k:Nat,bS K A H (replicate k l).flatten (replicate k vs).flatten
 | 0=> .nil
 | k+1=>by
  rw[k7,k7,nQ,nQ];exact .append h (h.rep k)
theorem bS.reverse: ∀{l:List D} {vs:List V},bS K A H l vs->bS K A H l.reverse vs.reverse
 | [],_,h=>by rw[h.unnil];exact .nil
 | d::l,vs,h=>by
  obtain⟨v,vr,rfl,r,rs⟩:=h.uncons;rw[zU,zU];exact .append (bS.reverse rs) (.cons r .nil)
theorem mK.same (s:iE H H'):mK A H A H':=λb o n e=>⟨n,s b o e⟩
theorem mK.sub (s:iE H H')(h: ∀a,A' a->A a):mK A H A' H':=λb o n e=>⟨λq=>n (h b q),s b o e⟩
theorem mK.fresh (s:iE H H')(n:H a=none):mK A H (λb=>A b\/b=a) H':=λb o nb e=>
 ⟨λq=>q.elim nb λz=>(by subst z;rw[n]at e;cases e),s b o e⟩
theorem mK.upd {a:Addr}{o:HO}(h:A a):mK A H A (upd H a o):=λb o' nb e=>⟨nb,by rw[cL λz=>nb (by subst z;exact h)];exact e⟩
end
inductive B where
 | pu (d:D)|ow (l:List D)|bo (l:List D)
noncomputable def B.d:B->D
 | .pu d=>d
 | .ow l=> .lst l
 | .bo l=> .lst l
abbrev Ev:=List (Option B)
def Own (ρ:Ev)(σ:L2.St):AS:=λa=> ∃(i:Nat) (l:List D),ρ[i]? =some (some<|.ow l)/\σ[i]? =some (some<|.ref a)
structure C0 where
 H0:Hp
 A0:AS
def Av (C:C0)(ρ:Ev)(σ:L2.St):AS:=λa=>C.A0 a\/Own ρ σ a
structure EOk (K:PySem.W.Frag)(C:C0)(ρ:Ev)(σ:L2.St)(H:Hp):Prop where
 len:ρ.length=σ.length
 pu: ∀(i:Nat) (d:D),ρ[i]? =some (some<|.pu d)-> ∃v,σ[i]? =some (some v)/\Rep K (Av C ρ σ) H d v
 ow: ∀(i:Nat) (l:List D),ρ[i]? =some (some<|.ow l)-> ∃a vs,σ[i]? =some (some<|.ref a)/\H a=some (.lst vs)/\C.H0 a=none/\bS K (Av C ρ σ) H l vs
 inj: ∀(i j:Nat) (l l':List D) (a:Addr),ρ[i]? =some (some<|.ow l)->ρ[j]? =some (some<|.ow l')->σ[i]? =some (some<|.ref a)->σ[j]? =some (some<|.ref a)->i=j
 bo: ∀(i:Nat) (l:List D),ρ[i]? =some (some<|.bo l)-> ∃a vs,σ[i]? =some (some<|.ref a)/\C.A0 a/\C.H0 a=some (.lst vs)/\bS K (Av C ρ σ) H l vs
 ext:iE C.H0 H
 a0: ∀a,C.A0 a->C.H0 a≠none
section
variable {K:PySem.W.Frag}{C:C0}{ρ ρ':Ev}{σ σ':L2.St}{H H':Hp}
theorem EOk.avSome (I:EOk K C ρ σ H)(h:Av C ρ σ a):H a≠none:=by
 rcases h with h| ⟨i,l,h1,h2⟩
 .intro z;cases e:C.H0 a with
  | none=>exact I.a0 a h e
  | some o=>rw[I.ext a o e]at z;cases z
 .obtain⟨b,vs,h3,h4,_⟩:=I.ow i l h1;rw[h2]at h3;cases h3;rw[h4];simp
theorem EOk.same (I:EOk K C ρ σ H)(s:iE H H'):EOk K C ρ σ H' where
 len:=I.len
 pu:=λi d h=>let ⟨v,h1,h2⟩:=I.pu i d h;⟨v,h1,h2.mono<|.same s⟩
 ow:=λi l h=>let ⟨a,vs,h1,h2,h3,h4⟩:=I.ow i l h;⟨a,vs,h1,s _ _ h2,h3,h4.mono<|.same s⟩
 inj:=I.inj
 bo:=λi l h=>let ⟨a,vs,h1,h2,h3,h4⟩:=I.bo i l h;⟨a,vs,h1,h2,h3,h4.mono<|.same s⟩
 ext:=I.ext.trans s
 a0:=I.a0
theorem get_set_ne {l:List α}{x:α}(h:i≠j):(l.set i x)[j]? =l[j]? :=by
 rw[aO4];simp[h]
theorem jE {l:List α}{x:α}(h:i<l.length):(l.set i x)[i]? =some x:=by
 rw[aO4];simp[h]
theorem bE {l:List α}{x y:α}(h:(l.set i x)[j]? =some y):(i=j/\y=x/\i<l.length)\/(i≠j/\l[j]? =some y):=by
 by_cases e:i=j
 .subst e;rw[aO4]at h
  by_cases hl:i<l.length
  .simp[hl]at h;exact .inl ⟨rfl,h.symm,hl⟩
  .simp[hl]at h
 .exact .inr ⟨e,by rw[get_set_ne e]at h;exact h⟩
def qJ (K:PySem.W.Frag)(A:AS)(H H':Hp):B->V->Prop
 | .pu d,v=>Rep K A H' d v
 | .ow l,v=> ∃a vs,v= .ref a/\H a=none/\H' a=some (.lst vs)/\bS K (λb=>A b\/b=a) H' l vs
 | .bo _,_=>False
theorem qJ.rep {A:AS}(hA: ∀a,A a->H a≠none): ∀{b:B} {v:V},qJ K A H H' b v->Rep K A H' b.d v
 | .pu d,v,h=>h
 | .ow l,v,h=>by
  obtain⟨a,vs,e,n,h1,r⟩:=h;show Rep K A H' (.lst l) v;simp only[Rep];exact⟨a,vs,e,λz=>hA a z n,h1,r.mono λb o nb q=>⟨λz=>nb (.inl z),q⟩⟩
 | .bo l,v,h=>h.elim
theorem EOk.store (I:EOk K C ρ σ H){b:B}{v:V}{H1:Hp}(s:iE H H1)(r:qJ K (Av C ρ σ) H H1 b v)(hi:i<σ.length):EOk K C (ρ.set i<|some b) (σ.set i<|some v) H1:=by
 have I1:=I.same s;have hir:i<ρ.length:=by rw[I.len];exact hi
 cases b with
 | pu d=>
  have sub: ∀a,Av C (ρ.set i<|some<|.pu d) (σ.set i<|some v) a->Av C ρ σ a:=by
   rintro a (z| ⟨j,l,h1,h2⟩)
   .exact .inl z
   .rcases bE h1 with⟨rfl,h3,_⟩| ⟨ne,h3⟩
    .cases h3
    .rw[get_set_ne ne]at h2;exact .inr ⟨j,l,h3,h2⟩
  refine⟨by rw[fB,fB];exact I.len,?_,?_,?_,?_,I1.ext,I.a0⟩
  rotate_right
  .intro j l h;rcases bE h with⟨rfl,h3,_⟩| ⟨ne,h3⟩
   .cases h3
   .obtain⟨a,vs,h4,h5,h6,h7⟩:=I1.bo j l h3;exact⟨a,vs,by rw[get_set_ne ne];exact h4,h5,h6,h7.mono<|.sub (.refl _) sub⟩
  .intro j d' h;rcases bE h with⟨rfl,h3,_⟩| ⟨ne,h3⟩
   .cases h3;exact⟨v,jE hi,Rep.mono (.sub (.refl _) sub) r⟩
   .obtain⟨v',h4,h5⟩:=I1.pu j d' h3;exact⟨v',by rw[get_set_ne ne];exact h4,h5.mono<|.sub (.refl _) sub⟩
  .intro j l h;rcases bE h with⟨rfl,h3,_⟩| ⟨ne,h3⟩
   .cases h3
   .obtain⟨a,vs,h4,h5,h6,h7⟩:=I1.ow j l h3;exact⟨a,vs,by rw[get_set_ne ne];exact h4,h5,h6,h7.mono<|.sub (.refl _) sub⟩
  .intro j k l l' a h1 h2 h3 h4;rcases bE h1 with⟨rfl,z,_⟩| ⟨ne,z⟩
   .cases z
   .rcases bE h2 with⟨rfl,z',_⟩| ⟨ne',z'⟩
    .cases z'
    .rw[get_set_ne ne]at h3;rw[get_set_ne ne']at h4;exact I.inj j k l l' a z z' h3 h4
 | ow l0=>
  obtain⟨a0,vs0,rfl,n0,e0,r0⟩:=r;have sub: ∀a,Av C (ρ.set i<|some<|.ow l0) (σ.set i<|some<|.ref a0) a->Av C ρ σ a\/a=a0:=by
   rintro a (z| ⟨j,l,h1,h2⟩)
   .exact .inl (.inl z)
   .rcases bE h1 with⟨rfl,h3,_⟩| ⟨ne,h3⟩
    .rw[jE hi]at h2;cases h2;exact .inr rfl
    .rw[get_set_ne ne]at h2;exact .inl (.inr ⟨j,l,h3,h2⟩)
  have P:mK (Av C ρ σ) H (Av C (ρ.set i<|some<|.ow l0)<|σ.set i<|some<|.ref a0) H1:=λb o nb e=>
   ⟨λq=>(sub b q).elim nb λz=>(by subst z;rw[n0]at e;cases e),s b o e⟩
  refine⟨by rw[fB,fB];exact I.len,?_,?_,?_,?_,I1.ext,I.a0⟩
  rotate_right
  .intro j l h;rcases bE h with⟨rfl,h3,_⟩| ⟨ne,h3⟩
   .cases h3
   .obtain⟨a,vs,h4,h5,h6,h7⟩:=I.bo j l h3;exact⟨a,vs,by rw[get_set_ne ne];exact h4,h5,h6,h7.mono P⟩
  .intro j d' h;rcases bE h with⟨rfl,h3,_⟩| ⟨ne,h3⟩
   .cases h3
   .obtain⟨v',h4,h5⟩:=I.pu j d' h3;exact⟨v',by rw[get_set_ne ne];exact h4,h5.mono P⟩
  .intro j l h;rcases bE h with⟨rfl,h3,_⟩| ⟨ne,h3⟩
   .cases h3;refine⟨a0,vs0,jE hi,e0,?_,r0.mono λb o nb q=>⟨λz=>nb (sub b z),q⟩⟩
    cases e:C.H0 a0 with
    | none=>rfl
    | some o=>rw[I.ext _ _ e]at n0;cases n0
   .obtain⟨a,vs,h4,h5,h6,h7⟩:=I.ow j l h3;exact⟨a,vs,by rw[get_set_ne ne];exact h4,s _ _ h5,h6,h7.mono P⟩
  .intro j k l l' a h1 h2 h3 h4;have old: ∀{j:Nat} {l:List D},ρ[j]? =some (some<|.ow l)->σ[j]? ≠some (some<|.ref a0):=λ{j l} h z=>by
    obtain⟨b,vs,h4,h5,_⟩:=I.ow j l h;rw[z]at h4;cases h4;rw[n0]at h5;cases h5
   rcases bE h1 with⟨rfl,z,_⟩| ⟨ne,z⟩
   .rw[jE hi]at h3;cases h3;rcases bE h2 with⟨rfl,z',_⟩| ⟨ne',z'⟩
    .rfl
    .rw[get_set_ne ne']at h4;exact absurd h4 (old z')
   .rw[get_set_ne ne]at h3;rcases bE h2 with⟨rfl,z',_⟩| ⟨ne',z'⟩
    .rw[jE hi]at h4;cases h4;exact absurd h3 (old z)
    .rw[get_set_ne ne']at h4;exact I.inj j k l l' a z z' h3 h4
 | bo l0=>exact r.elim
theorem EOk.freeze (I:EOk K C ρ σ H){l:List D}(h:ρ[i]? =some (some<|.ow l)) :
  EOk K C (ρ.set i<|some<|.pu<|.lst l) σ H/\(∀a,Own (ρ.set i<|some<|.pu<|.lst l) σ a->Own ρ σ a)/\ ∃v,σ[i]? =some (some v)/\Rep K (Av C (ρ.set i<|some<|.pu<|.lst l) σ) H (.lst l) v:=by
 have sub: ∀a,Own (ρ.set i<|some<|.pu<|.lst l) σ a->Own ρ σ a:=by
  rintro a ⟨j,l',h1,h2⟩;rcases bE h1 with⟨rfl,h3,_⟩| ⟨ne,h3⟩
  .cases h3
  .exact⟨j,l',h3,h2⟩
 have subA: ∀a,Av C (ρ.set i<|some<|.pu<|.lst l) σ a->Av C ρ σ a:=λa z=>z.imp id (sub a)
 obtain⟨a,vs,h1,h2,h3,h4⟩:=I.ow i l h;have na: ¬Av C (ρ.set i<|some<|.pu<|.lst l) σ a:=by
  rintro(z| ⟨j,l',g1,g2⟩)
  .exact I.a0 a z h3
  .rcases bE g1 with⟨rfl,g3,_⟩| ⟨ne,g3⟩
   .cases g3
   .exact ne (I.inj i j l l' a h g3 h1 g2)
 have R:Rep K (Av C (ρ.set i<|some<|.pu<|.lst l) σ) H (.lst l) (.ref a):=by
  simp only[Rep];exact⟨a,vs,rfl,na,h2,h4.mono<|.sub (.refl _) subA⟩
 refine⟨⟨by rw[fB];exact I.len,?_,?_,?_,?_,I.ext,I.a0⟩,sub,.ref a,h1,R⟩
 rotate_right
 .intro j l' g;rcases bE g with⟨rfl,g3,_⟩| ⟨ne,g3⟩
  .cases g3
  .obtain⟨a',vs',g4,g5,g6,g7⟩:=I.bo j l' g3;exact⟨a',vs',g4,g5,g6,g7.mono<|.sub (.refl _) subA⟩
 .intro j d' g;rcases bE g with⟨rfl,g3,_⟩| ⟨ne,g3⟩
  .cases g3;exact⟨_,h1,R⟩
  .obtain⟨v',g4,g5⟩:=I.pu j d' g3;exact⟨v',g4,g5.mono<|.sub (.refl _) subA⟩
 .intro j l' g;rcases bE g with⟨rfl,g3,_⟩| ⟨ne,g3⟩
  .cases g3
  .obtain⟨a',vs',g4,g5,g6,g7⟩:=I.ow j l' g3;exact⟨a',vs',g4,g5,g6,g7.mono<|.sub (.refl _) subA⟩
 .intro j k l1 l2 a' g1 g2 g3 g4;rcases bE g1 with⟨rfl,z,_⟩| ⟨ne,z⟩
  .cases z
  .rcases bE g2 with⟨rfl,z',_⟩| ⟨ne',z'⟩
   .cases z'
   .exact I.inj j k l1 l2 a' z z' g3 g4
theorem EOk.write (I:EOk K C ρ σ H){l l':List D}{vs':List V}(h:ρ[i]? =some (some<|.ow l))(hs:σ[i]? =some (some<|.ref a))(r:bS K (Av C ρ σ) H l' vs') :
  EOk K C (ρ.set i<|some<|.ow l') σ (upd H a<|.lst vs'):=by
 have hi:i<ρ.length:=(jY.mp h).1;have sub: ∀b,Av C (ρ.set i<|some<|.ow l') σ b->Av C ρ σ b:=by
  rintro b (z| ⟨j,l2,h1,h2⟩)
  .exact .inl z
  .rcases bE h1 with⟨rfl,h3,_⟩| ⟨ne,h3⟩
   .exact .inr ⟨i,l,h,h2⟩
   .exact .inr ⟨j,l2,h3,h2⟩
 have own:Av C ρ σ a:= .inr ⟨i,l,h,hs⟩;have P:mK (Av C ρ σ) H (Av C (ρ.set i<|some<|.ow l') σ) (upd H a<|.lst vs'):=λb o nb e=>⟨λz=>nb (sub b z),(mK.upd own b o nb e).2⟩
 obtain⟨a1,vs,h1,h2,h3,h4⟩:=I.ow i l h;rw[hs]at h1;cases h1;refine⟨by rw[fB];exact I.len,?_,?_,?_,?_,?_,I.a0⟩
 rotate_left 3
 .intro j l2 g;rcases bE g with⟨rfl,g3,_⟩| ⟨ne,g3⟩
  .cases g3
  .obtain⟨a',vs',g4,g5,g6,g7⟩:=I.bo j l2 g3;exact⟨a',vs',g4,g5,g6,g7.mono P⟩
 rotate_left 1
 .intro j d' g;rcases bE g with⟨rfl,g3,_⟩| ⟨ne,g3⟩
  .cases g3
  .obtain⟨v',g4,g5⟩:=I.pu j d' g3;exact⟨v',g4,g5.mono P⟩
 .intro j l2 g;rcases bE g with⟨rfl,g3,_⟩| ⟨ne,g3⟩
  .cases g3;exact⟨a,vs',hs,iZ,h3,r.mono P⟩
  .obtain⟨a',vs2,g4,g5,g6,g7⟩:=I.ow j l2 g3;refine⟨a',vs2,g4,?_,g6,g7.mono P⟩;rw[cL λz=> ?_]
   .exact g5
   .subst z;exact ne (I.inj i j l l2 a' h g3 hs g4)
 .intro j k l1 l2 a' g1 g2 g3 g4;have old: ∀{j:Nat} {l1:List D},(ρ.set i<|some<|.ow l')[j]? =some (some<|.ow l1)-> ∃l3,ρ[j]? =some (some<|.ow l3):=λ{j l1} g=>by
   rcases bE g with⟨rfl,z,_⟩| ⟨ne,z⟩
   .exact⟨l,h⟩
   .exact⟨l1,z⟩
  obtain⟨_,q1⟩:=old g1;obtain⟨_,q2⟩:=old g2;exact I.inj j k _ _ a' q1 q2 g3 g4
 .intro b o e;rw[cL λz=> ?_]
  .exact I.ext b o e
  .subst z;rw[h3]at e;cases e
noncomputable def C0.raise (C:C0)(ρ:Ev)(σ:L2.St)(H:Hp)(D:(a:Addr)->Decidable (Own ρ σ a)):C0:=⟨λb=> @ite _ (Own ρ σ b) (D b) none (H b),C.A0⟩
open Classical in
theorem EOk.raise (I:EOk K C ρ σ H):EOk K (C.raise ρ σ H λ_=>inferInstance) ρ σ H/\iE C.H0 (C.raise ρ σ H λ_=>inferInstance).H0:=by
 have e1: ∀b,Own ρ σ b->(C.raise ρ σ H λ_=>inferInstance).H0 b=none:=λb h=>a7 h
 have e2: ∀b,¬Own ρ σ b->(C.raise ρ σ H λ_=>inferInstance).H0 b=H b:=λb h=>a6 h
 have no: ∀b o,C.H0 b=some o-> ¬Own ρ σ b:=λb o e ⟨i,l,h1,h2⟩=>by
  obtain⟨a,vs,h3,h4,h5,_⟩:=I.ow i l h1;rw[h2]at h3;cases h3;rw[h5]at e;cases e
 have s1:iE C.H0 (C.raise ρ σ H λ_=>inferInstance).H0:=λb o e=>by rw[e2 b<|no b o e];exact I.ext b o e
 refine⟨⟨I.len,I.pu,λi l h=> ?_,I.inj,λi l h=> ?_,λb o e=> ?_,λa h z=> ?_⟩,s1⟩
 .obtain⟨a,vs,h3,h4,h5,h6⟩:=I.ow i l h;exact⟨a,vs,h3,h4,e1 a ⟨i,l,h,h3⟩,h6⟩
 .obtain⟨a,vs,h3,h4,h5,h6⟩:=I.bo i l h;exact⟨a,vs,h3,h4,s1 _ _ h5,h6⟩
 .by_cases q:Own ρ σ b
  .rw[e1 b q]at e;cases e
  .rw[e2 b q]at e;exact e
 .cases e:C.H0 a with
  | none=>exact I.a0 a h e
  | some o=>rw[s1 a o e]at z;cases z
theorem EOk.lower {C C':C0}(I:EOk K C' ρ σ H)(s:iE C.H0 C'.H0)(e:C'.A0=C.A0)(ha: ∀a,C.A0 a->C.H0 a≠none):EOk K C ρ σ H:=by
 obtain⟨H0',A0'⟩:=C';obtain⟨H0,A0⟩:=C;have e':A0'=A0:=e;subst e';refine⟨I.len,I.pu,λi l h=> ?_,I.inj,λi l h=> ?_,s.trans I.ext,ha⟩
 .obtain⟨a,vs,h3,h4,h5,h6⟩:=I.ow i l h;exact⟨a,vs,h3,h4,s.free h5,h6⟩
 .obtain⟨a,vs,h3,h4,h5,h6⟩:=I.bo i l h;refine⟨a,vs,h3,h4,?_,h6⟩;cases e:H0 a with
  | none=>exact absurd e (ha a h4)
  | some o=>
   have:=s a o e;have h5':H0' a=some (.lst vs):=h5;have this':H0' a=some o:=this;rw[h5']at this';cases this';exact e
end
def Frz (ρ ρ':Ev):Prop:=ρ'.length=ρ.length/\ ∀i:Nat,ρ'[i]? =ρ[i]? \/ ∃l:List D,ρ[i]? =some (some<|.ow l)/\ρ'[i]? =some (some<|.pu<|.lst l)
theorem Frz.refl (ρ:Ev):Frz ρ ρ:=⟨rfl,λ_=> .inl rfl⟩
theorem Frz.trans {a b c:Ev}(h:Frz a b)(g:Frz b c):Frz a c:=by
 refine⟨g.1.trans h.1,λi=> ?_⟩
 rcases g.2 i with e| ⟨l,e1,e2⟩
 .rcases h.2 i with e'| ⟨l,e1,e2⟩
  .exact .inl (e.trans e')
  .exact .inr ⟨l,e1,e.trans e2⟩
 .rcases h.2 i with e'| ⟨l',e3,e4⟩
  .exact .inr ⟨l,e'▸e1,e2⟩
  .rw[e4]at e1;cases e1
theorem Frz.own {ρ ρ':Ev}{σ:L2.St}(f:Frz ρ ρ')(h:Own ρ' σ a):Own ρ σ a:=by
 obtain⟨i,l,h1,h2⟩:=h;rcases f.2 i with e| ⟨l',_,e2⟩
 .exact⟨i,l,e▸h1,h2⟩
 .rw[e2]at h1;cases h1
theorem Frz.set {ρ:Ev}{l:List D}(h:ρ[i]? =some (some<|.ow l)):Frz ρ (ρ.set i<|some<|.pu<|.lst l):=by
 refine⟨fB,λj=> ?_⟩
 by_cases e:i=j
 .subst e;exact .inr ⟨l,h,jE (jY.mp h).1⟩
 .exact .inl (get_set_ne e)
section
variable {K:PySem.W.Frag}{C:C0}{ρ ρ':Ev}{σ:L2.St}{H H':Hp}
theorem Frz.av (f:Frz ρ ρ')(h:Av C ρ' σ a):Av C ρ σ a:=h.imp id f.own
theorem EOk.frz (I:EOk K C ρ σ H)(f:Frz ρ ρ'):EOk K C ρ' σ H:=by
 have ow': ∀{j:Nat} {l:List D},ρ'[j]? =some (some<|.ow l)->ρ[j]? =some (some<|.ow l):=λ{j l} h=>by
  rcases f.2 j with e| ⟨l',_,e2⟩
  .exact e▸h
  .rw[e2]at h;cases h
 refine⟨by rw[f.1];exact I.len,λi d h=> ?_,λi l h=> ?_,λi j l l' a h1 h2=>I.inj i j l l' a (ow' h1) (ow' h2),λi l h=> ?_,I.ext,I.a0⟩
 .rcases f.2 i with e| ⟨l,e1,e2⟩
  .obtain⟨v,h1,h2⟩:=I.pu i d (e▸h);exact⟨v,h1,h2.mono<|.sub (.refl _) λa=>f.av⟩
  .rw[e2]at h;cases h;obtain⟨a,vs,h1,h2,h3,h4⟩:=I.ow i l e1;refine⟨.ref a,h1,?_⟩;simp only[Rep];refine⟨a,vs,rfl,?_,h2,h4.mono<|.sub (.refl _) λa=>f.av⟩
   rintro(z| ⟨j,l',g1,g2⟩)
   .exact I.a0 a z h3
   .have:=I.inj i j l l' a e1 (ow' g1) h1 g2;subst this;rw[e2]at g1;cases g1
 .obtain⟨a,vs,h1,h2,h3,h4⟩:=I.ow i l (ow' h);exact⟨a,vs,h1,h2,h3,h4.mono<|.sub (.refl _) λa=>f.av⟩
 .have h':ρ[i]? =some (some<|.bo l):=by
   rcases f.2 i with e| ⟨l',_,e2⟩
   .exact e▸h
   .rw[e2]at h;cases h
  obtain⟨a,vs,h1,h2,h3,h4⟩:=I.bo i l h';exact⟨a,vs,h1,h2,h3,h4.mono<|.sub (.refl _) λa=>f.av⟩
end
abbrev UE:=Ev->(B->Ev->Prop)->Prop
abbrev UV:=Ev->(D->Ev->Prop)->Prop
abbrev UA:=Ev->(List D->Ev->Prop)->Prop
abbrev UT:=Ev->(Bool->Ev->Prop)->Prop
def lE (K:PySem.W.Frag)(t:UE):TE:=λσ H Q=> ∃C ρ Q0,EOk K C ρ σ H/\t ρ Q0/\
 ∀b ρ' v H',Q0 b ρ'->Frz ρ ρ'->iE H H'->qJ K (Av C ρ' σ) H H' b v->Q v H'
def lA (K:PySem.W.Frag)(t:UA):TA:=λσ H Q=> ∃C ρ Q0,EOk K C ρ σ H/\t ρ Q0/\
 ∀ds ρ' vs H',Q0 ds ρ'->Frz ρ ρ'->iE H H'->bS K (Av C ρ' σ) H' ds vs->Q vs H'
def lT (K:PySem.W.Frag)(t:UT):TT:=λσ H Q=> ∃C ρ Q0,EOk K C ρ σ H/\t ρ Q0/\
 ∀b ρ' H',Q0 b ρ'->Frz ρ ρ'->iE H H'->Q b H'
def cH8 (K:PySem.W.Frag)(A:AS)(H:Hp):D->V->Prop
 | .tup l,v=> ∃a vs,v= .ref a/\SqT K H a vs/\bS K A H l vs
 | .lst l,v=> ∃a vs,v= .ref a/\H a=some (.lst vs)/\bS K A H l vs
 | .rol l,v=> ∃a vs,v= .ref a/\SqL K H a vs/\bS K A H l vs
 | d,v=>Rep K A H d v
def lV (K:PySem.W.Frag)(t:UV):TE:=λσ H Q=> ∃C ρ Q0,EOk K C ρ σ H/\t ρ Q0/\
 ∀d ρ' v H',Q0 d ρ'->Frz ρ ρ'->iE H H'->cH8 K (Av C ρ' σ) H' d v->Q v H'
def PU (X:Cx)(e:Expr)(t:UE):Prop:=PE X e (lE X.K t)
def PUV (X:Cx)(e:Expr)(t:UV):Prop:=PE X e (lV X.K t)
def PUA (X:Cx)(es:List Expr)(t:UA):Prop:=PA X es (lA X.K t)
def PUT (X:Cx)(e:Expr)(t:UT):Prop:=PT X e (lT X.K t)
def PUW (X:Cx)(e:Expr)(t:UT):Prop:=PW X e (lT X.K t)
section
variable {K:PySem.W.Frag}{A:AS}{H:Hp}
theorem Rep.one: ∀{d:D} {v:V},Rep K A H d v->cH8 K A H d v
 | .non,_,h=>h
 | .bl _,_,h=>h
 | .int _,_,h=>h
 | .str _,_,h=>h
 | .ty _,_,h=>h
 | .tup l,v,h=>by
  simp only[Rep]at h;obtain⟨a,vs,e,c,r⟩:=h;exact⟨a,vs,e,c.imp cT id,r⟩
 | .lst l,v,h=>by
  simp only[Rep]at h;obtain⟨a,vs,e,n,c,r⟩:=h;exact⟨a,vs,e,c,r⟩
 | .rol l,v,h=>by
  simp only[Rep]at h;obtain⟨a,vs,e,c,r⟩:=h;exact⟨a,vs,e,c.imp cT id,r⟩
 | .obj _ _ _,_,h=>h
 | .adr _,_,h=>h
 | .xob _ _ _ _,_,h=>h
end
theorem iT {X:Cx}{t t':TE}(h:PE X e t)(i: ∀σ H Q,t' σ H Q->t σ H Q):PE X e t':=λpins s σ H Q I q=>h pins s σ H Q I (i σ H Q q)
theorem dY3 {X:Cx}{t t':TA}(h:PA X es t)(i: ∀σ H Q,t' σ H Q->t σ H Q):PA X es t':=λpos pins s σ H Q I q=>h pos pins s σ H Q I (i σ H Q q)
theorem c62 {X:Cx}{t t':TT}(h:PT X e t)(i: ∀σ H Q,t' σ H Q->t σ H Q):PT X e t':=λpins s σ H Q I q=>h pins s σ H Q I (i σ H Q q)
theorem dY4 {X:Cx}{t t':TT}(h:PW X e t)(i: ∀σ H Q,t' σ H Q->t σ H Q):PW X e t':=λw pins s σ H Q I q=>h w pins s σ H Q I (i σ H Q q)
section
variable {X:Cx}{a b c e o:Expr}{es wK:List Expr}{pos:Pos}{ta tb tc:UE}
def uC (d:D):UE:=λρ Q=>Q (.pu d) ρ
theorem aE {i j pos}:PU X (.Constant (.int i) j pos) (uC<|.int i):=iT pe_int λσ H Q ⟨C,ρ,Q0,I,h,k⟩=>k _ ρ _ H h (.refl _) (.refl _) (show Rep _ _ _ _ _ by simp only[Rep])
theorem bQ2 {b j pos}:PU X (.Constant (.bool b) j pos) (uC<|.bl b):=iT pe_bl λσ H Q ⟨C,ρ,Q0,I,h,k⟩=>k _ ρ _ H h (.refl _) (.refl _) (show Rep _ _ _ _ _ by simp only[Rep])
theorem a84 {j pos}:PU X (.Constant .none j pos) (uC .non):=iT pe_non λσ H Q ⟨C,ρ,Q0,I,h,k⟩=>k _ ρ _ H h (.refl _) (.refl _) (show Rep _ _ _ _ _ by simp only[Rep])
theorem oN {x j pos}:PU X (.Constant (.str x) j pos) (uC<|.str x):=iT pe_str λσ H Q ⟨C,ρ,Q0,I,h,k⟩=>k _ ρ _ H h (.refl _) (.refl _) (show Rep _ _ _ _ _ by simp only[Rep])
def a85 (ρ:Ev)(i:Nat)(Q:B->Ev->Prop):Prop:=match ρ[i]? with
 | some (some<|.pu d)=>Q (.pu d) ρ
 | some (some<|.ow l)=>Q (.pu<|.lst l) (ρ.set i<|some<|.pu<|.lst l)
 | _=>False
def aC (i:Nat):UE:=λρ Q=>a85 ρ i Q
theorem cJ (i:Nat){pos:Pos}(h:PE X (.Name x pos) (a82 i)):PU X (.Name x pos) (aC i):=iT h λσ H Q ⟨C,ρ,Q0,I,h,k⟩=>by
 unfold aC a85 at h;split at h
 .rename_i d e
  obtain⟨v,h1,h2⟩:=I.pu i d e;exact⟨v,h1,k _ ρ v H h (.refl _) (.refl _) h2⟩
 .rename_i l e
  obtain⟨_,_,v,h1,h2⟩:=I.freeze e;exact⟨v,h1,k _ _ v H h (.set e) (.refl _) h2⟩
 .exact h.elim
def bQ3 (ρ:Ev)(i:Nat)(Q:D->Ev->Prop):Prop:=match ρ[i]? with
 | some (some<|.pu d)=>Q d ρ
 | some (some<|.ow l)=>Q (.lst l) ρ
 | some (some<|.bo l)=>Q (.lst l) ρ
 | _=>False
def aX (i:Nat):UV:=λρ Q=>bQ3 ρ i Q
theorem mL (i:Nat){pos:Pos}(h:PE X (.Name x pos) (a82 i)):PUV X (.Name x pos) (aX i):=iT h λσ H Q ⟨C,ρ,Q0,I,h,k⟩=>by
 unfold aX bQ3 at h;split at h
 .rename_i d e
  obtain⟨v,h1,h2⟩:=I.pu i d e;exact⟨v,h1,k _ ρ v H h (.refl _) (.refl _) h2.one⟩
 .rename_i l e
  obtain⟨a,vs,h1,h2,h3,h4⟩:=I.ow i l e;exact⟨_,h1,k _ ρ _ H h (.refl _) (.refl _) ⟨a,vs,rfl,h2,h4⟩⟩
 .rename_i l e
  obtain⟨a,vs,h1,h2,h3,h4⟩:=I.bo i l e;exact⟨_,h1,k _ ρ _ H h (.refl _) (.refl _) ⟨a,vs,rfl,I.ext _ _ h3,h4⟩⟩
 .exact h.elim
def uV (t:UE):UV:=λρ Q=>t ρ λb ρ1=>Q b.d ρ1
theorem EOk.avF {C:C0}{ρ ρ':Ev}{σ:L2.St}{H:Hp}(I:EOk K C ρ σ H)(f:Frz ρ ρ'){a:Addr}(h:Av C ρ' σ a):H a≠none:=I.avSome (f.av h)
theorem uG (h:PU X e ta):PUV X e (uV ta):=iT h λσ H Q ⟨C,ρ,Q0,I,h,k⟩=>
 ⟨C,ρ,_,I,h,λb ρ' v H' q f s r=>k b.d ρ' v H' q f s (r.rep λa z=>I.avF f z).one⟩
theorem b91 {v:V}{d:D}{pos:Pos}(h:PE X (.Name x pos) (tC v))(r: ∀A H,Rep X.K A H d v):PU X (.Name x pos) (uC d):=iT h λσ H Q ⟨C,ρ,Q0,I,h,k⟩=>k _ ρ _ H h (.refl _) (.refl _) (r _ _)
def OpU (X:Cx)(f:Value->Value->Sem Value)(g:D->D->(B->Prop)->Prop):Prop:=
 ∀(A:AS) (H:Hp) (d e:D) (v w:V) (Q0:B->Prop) (Q:VK),(∀a,A a->H a≠none)->Rep X.K A H d v->Rep X.K A H e w->g d e Q0->
  (∀b v' H',Q0 b->iE H H'->qJ X.K A H H' b v'->Q v' H')-> ∃r,OpR X f r/\r v w H Q
def uOp (g:D->D->(B->Prop)->Prop)(ta tb:UE):UE:=λρ Q=>ta ρ λx ρ1=>tb ρ1 λy ρ2=>g x.d y.d λb=>Q b ρ2
theorem d76 {f:Value->Value->Sem Value}:OpR X f (λx y H Q=> ∃r,OpR X f r/\r x y H Q):=λpins s σ H x y v u Q I rx ry ⟨r,hr,q⟩=>hr pins s σ H x y v u Q I rx ry q
theorem qJ.from {K:PySem.W.Frag}{A:AS}{H0 H H':Hp}(s:iE H0 H): ∀{b:B} {v:V},qJ K A H H' b v->qJ K A H0 H' b v
 | .pu _,_,h=>h
 | .ow _,_,⟨a,vs,e,n,h1,r⟩=>⟨a,vs,e,s.free n,h1,r⟩
 | .bo _,_,h=>h.elim
theorem lOp {f:Value->Value->Sem Value}{g:D->D->(B->Prop)->Prop}(ho:OpU X f g)(σ:L2.St)(H:Hp)(Q:VK)(h:lE X.K (uOp g ta tb) σ H Q) :
  tOp (λx y H Q=> ∃r,OpR X f r/\r x y H Q) (lE X.K ta) (lE X.K tb) σ H Q:=by
 obtain⟨C,ρ,Q0,I,h,k⟩:=h;refine⟨C,ρ,_,I,h,λx ρ1 v H1 q1 f1 s1 r1=> ?_⟩
 have I1:=(I.frz f1).same s1;refine⟨C,ρ1,_,I1,q1,λy ρ2 w H2 q2 f2 s2 r2=> ?_⟩
 have I2:=(I1.frz f2).same s2;have hA: ∀a,Av C ρ2 σ a->H2 a≠none:=λa z=>I2.avSome z
 refine ho (Av C ρ2 σ) H2 x.d y.d v w _ Q hA ((r1.rep λa z=>I.avF f1 z).mono<|.sub s2 λa=>f2.av) (r2.rep λa z=>I1.avF f2 z) q2 λb v' H' q s r=> ?_
 exact k b ρ2 v' H' q (f1.trans f2) (s1.trans<|s2.trans s) (r.from<|s1.trans s2)
theorem aN {op:Operator}{g:D->D->(B->Prop)->Prop}(ho:OpU X (binaryOp op) g)(ha:PU X a ta)(hb:PU X b tb):PU X (.BinOp a op b pos) (uOp g ta tb):=
 iT (pe_op d76 ha hb) (lOp ho)
theorem d77 {g:D->D->(B->Prop)->Prop}(ho:OpU X (compareOp op) g)(ha:PU X a ta)(hb:PU X b tb)(hm:behindInMarks op b=false):PU X (.Compare a [op] [b] pos) (uOp g ta tb):=
 iT (dN4 d76 ha hb hm) (lOp ho)
def isB (Q:Bool->Ev->Prop):B->Ev->Prop:=λb ρ=>match b with
 | .pu (.bl k)=>Q k ρ
 | _=>False
def dQ (t:UE):UT:=λρ Q=>t ρ (isB Q)
theorem dO5 {t:UE}(σ:L2.St)(H:Hp)(Q:Bool->Hp->Prop)(h:lT X.K (dQ t) σ H Q):lE X.K t σ H λx H'=> ∃k,x= .bl k/\Q k H':=by
 obtain⟨C,ρ,Q0,I,h,k⟩:=h;refine⟨C,ρ,_,I,h,λb ρ' v H' q f s r=> ?_⟩
 unfold isB at q;split at q
 .rename_i k'
  refine⟨k',?_,k k' ρ' H' q f s⟩
  have r':Rep X.K (Av C ρ' σ) H' (.bl k') v:=r
  simpa only[Rep]using r'
 .exact q.elim
theorem uH (h:PU X e ta)(he: ∀whole,isTrue e X.env whole=(do let v<-whole;standAt e.pos;holding [v] (truthy v)):=by intro _;rfl):PUT X e (dQ ta):=
 c62 (pt_val h he) dO5
theorem aG0 {g:D->D->(B->Prop)->Prop}(ho:OpU X (compareOp op) g)(ha:PU X a ta)(hb:PU X b tb)(hm:behindInMarks op b=false):PUT X (.Compare a [op] [b] pos) (dQ<|uOp g ta tb):=
 c62 (dN5 d76 ha hb hm) λσ H Q h=>lOp ho σ H _ (dO5 σ H Q h)
def bX5 (t u:UT):UT:=λρ Q=>t ρ λc ρ1=>if c=true then u ρ1 Q else Q false ρ1
def uOr (t u:UT):UT:=λρ Q=>t ρ λc ρ1=>if c=true then Q true ρ1 else u ρ1 Q
def aY4 (t:UT):UT:=λρ Q=>t ρ λc ρ1=>Q (!c) ρ1
variable {tA tB:UT}
theorem uI (ha:PUT X a tA):PUW X (.BoolOp .And [a] pos) tA:=dM6 ha
theorem bX6 (ha:PUT X a tA):PUW X (.BoolOp .Or [a] pos) tA:=pw_or1 ha
theorem a22 (ha:PUT X a tA)(hb:PUW X (.BoolOp .And (b::wK) pos) tB):PUW X (.BoolOp .And (a::b::wK) pos) (bX5 tA tB):=
 dY4 (pw_and ha hb) λσ H Q ⟨C,ρ,Q0,I,h,k⟩=>⟨C,ρ,_,I,h,λc ρ1 H1 q f s=>by
  cases c with
  | true=>
   rw[a7 rfl]at q⊢;exact⟨C,ρ1,Q0,(I.frz f).same s,q,λb ρ2 H2 q2 f2 s2=>k b ρ2 H2 q2 (f.trans f2) (s.trans s2)⟩
  | false=>
   rw[a6 bI]at q⊢;exact k _ _ _ q f s⟩
theorem bB4 (ha:PUT X a tA)(hb:PUW X (.BoolOp .Or (b::wK) pos) tB):PUW X (.BoolOp .Or (a::b::wK) pos) (uOr tA tB):=
 dY4 (pw_or ha hb) λσ H Q ⟨C,ρ,Q0,I,h,k⟩=>⟨C,ρ,_,I,h,λc ρ1 H1 q f s=>by
  cases c with
  | true=>
   rw[a7 rfl]at q⊢;exact k _ _ _ q f s
  | false=>
   rw[a6 bI]at q⊢;exact⟨C,ρ1,Q0,(I.frz f).same s,q,λb ρ2 H2 q2 f2 s2=>k b ρ2 H2 q2 (f.trans f2) (s.trans s2)⟩⟩
theorem PUW.pt (h:PUW X e tA):PUT X e tA:=PW.pt h
theorem rC (ha:PUT X a tA):PUT X (.UnaryOp .Not a pos) (aY4 tA):=
 c62 (pt_not ha) λσ H Q ⟨C,ρ,Q0,I,h,k⟩=>⟨C,ρ,_,I,h,λc ρ1 H1 q f s=>k _ ρ1 H1 q f s⟩
def d78 (t u:UE):UE:=λρ Q=>t ρ λx ρ1=>isB (λc ρ1=>if c=true then u ρ1 Q else Q (.pu<|.bl false) ρ1) x ρ1
def d79 (t:UE):UE:=λρ Q=>t ρ λx ρ1=>isB (λc ρ1=>Q (.pu<|.bl<|!c) ρ1) x ρ1
theorem cQ2 {Q:Bool->Ev->Prop}{b:B}{ρ:Ev}{A:AS}{H H':Hp}{v:V}(h:isB Q b ρ)(r:qJ K A H H' b v): ∃k,v= .bl k/\Q k ρ:=by
 unfold isB at h;split at h
 .rename_i k'
  have r':Rep K A H' (.bl k') v:=r;exact⟨k',by simpa only[Rep]using r',h⟩
 .exact h.elim
theorem kP {A:AS}{H H':Hp}{k:Bool}:qJ K A H H' (.pu<|.bl k) (.bl k):=by
 show Rep K A H' (.bl k) (.bl k)
 simp only[Rep]
theorem pu_one {op}(h:PU X a ta):PU X (.BoolOp op [a] pos) ta:=pe_one h
theorem pu_and (ha:PU X a ta)(hb:PU X (.BoolOp .And (b::wK) pos) tb):PU X (.BoolOp .And (a::b::wK) pos) (d78 ta tb):=
 iT (pe_and ha hb) λσ H Q ⟨C,ρ,Q0,I,h,k⟩=>⟨C,ρ,_,I,h,λx ρ1 v H1 q f s r=>by
  obtain⟨c,rfl,q⟩:=cQ2 q r;refine⟨c,rfl,?_⟩;cases c with
  | true=>
   rw[a7 rfl]at q⊢;exact⟨C,ρ1,Q0,(I.frz f).same s,q,λb ρ2 v H2 q2 f2 s2 r2=>k b ρ2 v H2 q2 (f.trans f2) (s.trans s2) (r2.from s)⟩
  | false=>
   rw[a6 bI]at q⊢;exact k _ _ _ _ q f s kP⟩
theorem pu_not (ha:PU X a ta):PU X (.UnaryOp .Not a pos) (d79 ta):=
 iT (pe_not ha) λσ H Q ⟨C,ρ,Q0,I,h,k⟩=>⟨C,ρ,_,I,h,λx ρ1 v H1 q f s r=>by
  obtain⟨c,rfl,q⟩:=cQ2 q r;exact⟨c,rfl,k _ _ _ _ q f s kP⟩⟩
def uIf (t:UT)(ta tb:UE):UE:=λρ Q=>t ρ λc ρ1=>if c=true then ta ρ1 Q else tb ρ1 Q
theorem aS8 (hc:PUT X c tA)(ha:PU X a ta)(hb:PU X b tb):PU X (.IfExp c a b pos) (uIf tA ta tb):=
 iT (d54 hc ha hb) λσ H Q ⟨C,ρ,Q0,I,h,k⟩=>⟨C,ρ,_,I,h,λc ρ1 H1 q f s=>by
  have I1:=(I.frz f).same s;cases c with
  | true=>
   dsimp only at q⊢;rw[a7 rfl]at q⊢;exact⟨C,ρ1,Q0,I1,q,λb ρ2 v H2 q2 f2 s2 r2=>k b ρ2 v H2 q2 (f.trans f2) (s.trans s2) (r2.from s)⟩
  | false=>
   dsimp only at q⊢;rw[a6 bI]at q⊢;exact⟨C,ρ1,Q0,I1,q,λb ρ2 v H2 q2 f2 s2 r2=>k b ρ2 v H2 q2 (f.trans f2) (s.trans s2) (r2.from s)⟩⟩
def aM:UA:=λρ Q=>Q [] ρ
def a8 (t:UE)(u:UA):UA:=λρ Q=>t ρ λx ρ1=>u ρ1 λxs ρ2=>Q (x.d::xs) ρ2
theorem aA:PUA X [] aM:=dY3 cH3 λσ H Q ⟨C,ρ,Q0,I,h,k⟩=>k [] ρ [] H h (.refl _) (.refl _) .nil
theorem aB {t:UA}(ha:PU X e ta)(hr:PUA X es t)(hs:↥(starEach (e::es) X.env=(false,eval e X.env)::starEach es X.env)):PUA X (e::es) (a8 ta t):=
 dY3 (bW7 ha hr hs) λσ H Q ⟨C,ρ,Q0,I,h,k⟩=>⟨C,ρ,_,I,h,λx ρ1 v H1 q1 f1 s1 r1=>by
  have I1:=(I.frz f1).same s1;refine⟨C,ρ1,_,I1,q1,λxs ρ2 vs H2 q2 f2 s2 r2=> ?_⟩
  exact k _ ρ2 _ H2 q2 (f1.trans f2) (s1.trans s2) (.cons ((r1.rep λa z=>I.avF f1 z).mono<|.sub s2 λa=>f2.av) r2)⟩
def i5 (t:UA):UE:=λρ Q=>t ρ λl ρ1=>l.length<=sizeLine/\Q (.pu<|.tup l) ρ1
def gT (t:UA):UE:=λρ Q=>t ρ λl ρ1=>l.length<=sizeLine/\Q (.ow l) ρ1
theorem eI {H:Hp}{p:Addr}(h:H p=none)(o:HO):iE H (upd H p o):=λb u q=>by rw[cL<|dD q h];exact q
theorem j0 {A:AS}{H:Hp}{p:Addr}{l:List D}{vs:List V}(hA: ∀a,A a->H a≠none)(n:H p=none)(r:bS K A H l vs):Rep K A (upd H p<|.tup vs) (.tup l) (.ref p):=by
 simp only[Rep];exact⟨p,vs,rfl,.inl ⟨λz=>hA p z n,.inl iZ⟩,r.mono<|.same<|eI n _⟩
theorem gN {A:AS}{H H0:Hp}{p:Addr}{l:List D}{vs:List V}(s:iE H0 H)(n:H p=none)(r:bS K A H l vs):qJ K A H0 (upd H p<|.lst vs) (.ow l) (.ref p):=
 ⟨p,vs,rfl,s.free n,iZ,r.mono<|.fresh (eI n _) n⟩
theorem dI {t:UA}{x1}(h:PUA X es t):PU X (.Tuple es x1 pos) (i5 t):=
 iT (pe_tup h) λσ H Q ⟨C,ρ,Q0,I,h,k⟩=>⟨C,ρ,_,I,h,λl ρ1 vs H1 q f s r=>by
  obtain⟨hz,q⟩:=q;refine⟨by rw[<-r.length];exact hz,λp n=> ?_⟩
  have I1:=(I.frz f).same s;exact k _ ρ1 _ _ q f (s.trans<|eI n _) (j0 (λa z=>I1.avSome z) n r)⟩
theorem cO {t:UA}(h:PUA X es t):PU X (.List es pos) (gT t):=
 iT (pe_lst h) λσ H Q ⟨C,ρ,Q0,I,h,k⟩=>⟨C,ρ,_,I,h,λl ρ1 vs H1 q f s r=>by
  obtain⟨hz,q⟩:=q;refine⟨by rw[<-r.length];exact hz,λp n=> ?_⟩
  exact k _ ρ1 _ _ q f (s.trans<|eI n _) (gN s n r)⟩
abbrev Φ:=List D->(B->Prop)->Prop
def spP (K:PySem.W.Frag)(φ:Φ):Sp:=λvs H Q _=> ∃A ds Q0,(∀a,A a->H a≠none)/\bS K A H ds vs/\φ ds Q0/\ ∀b v H',Q0 b->iE H H'->qJ K A H H' b v->Q v H'
def aR (φ:Φ)(t:UA):UE:=λρ Q=>t ρ λds ρ1=>φ ds λb=>Q b ρ1
theorem lCall {t:UA}{E:XK}(σ:L2.St)(H:Hp)(Q:VK)(h:lE X.K (aR φ t) σ H Q):cP5 (spP X.K φ) [] E (lA X.K t) σ H Q:=by
 obtain⟨C,ρ,Q0,I,h,k⟩:=h;refine⟨C,ρ,_,I,h,λds ρ1 vs H1 q f s r=> ?_⟩
 have I1:=(I.frz f).same s;show spP X.K φ (vs++[]) H1 Q E;rw[jA];exact⟨Av C ρ1 σ,ds,_,λa z=>I1.avSome z,r,q,λb v H' q' s' r'=>k b ρ1 v H' q' f (s.trans s') (r'.from s)⟩
theorem dO6 {CX:CXT}{ps:List Str}{E:XK}{t:UA}(F:rW X.prog X.w X.K X.mg X.base CX k f fd ps (spP X.K φ))(hr:gS k X.A)(hg:Gl X x)(hm:X.mg x=some (.ref f))
  (hk:keepIn X.K (.ref f)=true) (hb:Binds X.K fd ps []) (hx:wL CX X E) (ha:PUA X (e::es) t) (hdb:⇑((x==("__debug__":Str))=false)) (he:↥(starEach (e::es) X.env=(false,eval e X.env)::starEach es X.env))
  (hpl:↥((backTo pos<|starEach es X.env).any (·.1)=false)):PU X (.Call (.Name x p) (e::es) [] pos) (aR φ t):=
 iT (cP7 F hr hg hm hk hb .nil hx ha hdb he hpl) lCall
theorem d80 {CX:CXT}{ps:List Str}{E:XK}(F:rW X.prog X.w X.K X.mg X.base CX k f fd ps (spP X.K φ))(hr:gS k X.A)(hg:Gl X x)(hm:X.mg x=some (.ref f))
  (hk:keepIn X.K (.ref f)=true) (hb:Binds X.K fd ps []) (hx:wL CX X E) (hdb:⇑((x==("__debug__":Str))=false)):PU X (.Call (.Name x p) [] [] pos) (aR φ aM):=
 iT (d67 F hr hg hm hk hb .nil hx hdb) λσ H Q ⟨C,ρ,Q0,I,h,k⟩=>⟨Av C ρ σ,[],_,λa z=>I.avSome z,.nil,h,λb v H' q' s' r'=>k b ρ v H' q' (.refl _) s' r'⟩
def sP (X:Cx)(f:Value)(g:List D->(B->Prop)->Prop):Prop:=
 ∀(A:AS) (H:Hp) (ds:List D) (vs:List V) (Q0:B->Prop) (Q:VK),(∀a,A a->H a≠none)->bS X.K A H ds vs->g ds Q0->
  (∀b v' H',Q0 b->iE H H'->qJ X.K A H H' b v'->Q v' H')-> ∃r,pI X f r/\r vs H Q
theorem callAny {f:Value}:pI X f (λxs H Q=> ∃r,pI X f r/\r xs H Q):=λpins s σ H xs us Q I rx ⟨r,hr,q⟩=>hr pins s σ H xs us Q I rx q
theorem lCB {f:Value}{g:List D->(B->Prop)->Prop}{t:UA}(hc:sP X f g)(σ:L2.St)(H:Hp)(Q:VK)(h:lE X.K (aR g t) σ H Q):tCB (λxs H Q=> ∃r,pI X f r/\r xs H Q) (lA X.K t) σ H Q:=by
 obtain⟨C,ρ,Q0,I,h,k⟩:=h;refine⟨C,ρ,_,I,h,λds ρ1 vs H1 q f s r=> ?_⟩
 have I1:=(I.frz f).same s;exact hc (Av C ρ1 σ) H1 ds vs _ Q (λa z=>I1.avSome z) r q λb v H' q' s' r'=>k b ρ1 v H' q' f (s.trans s') (r'.from s)
theorem eJ {id:String}{g:List D->(B->Prop)->Prop}{t:UA}(hc:sP X (.builtin id) g)(hg:Gl X x)(hm:X.mg x=none)(hv:bootBuiltins x=some (.builtin id))(ha:PUA X (e::es) t)(hn:⇑(x≠"__name__"))(hdb:⇑((x==("__debug__":Str))=false))
  (he:↥(starEach (e::es) X.env=(false,eval e X.env)::starEach es X.env)) (hpl:↥((backTo pos<|starEach es X.env).any (·.1)=false)):PU X (.Call (.Name x p) (e::es) [] pos) (aR g t):=
 iT (c58 callAny hg hm hv ha hn hdb he hpl) (lCB hc)
theorem bW {T:String}{g:List D->(B->Prop)->Prop}{t:UA}(hc:sP X (.type T) g)(hg:Gl X x)(hm:X.mg x=none)(hv:bootBuiltins x=some (.type T))(ha:PUA X (e::es) t)(hn:⇑(x≠"__name__"))(hdb:⇑((x==("__debug__":Str))=false))
  (he:↥(starEach (e::es) X.env=(false,eval e X.env)::starEach es X.env)) (hpl:↥((backTo pos<|starEach es X.env).any (·.1)=false)):PU X (.Call (.Name x p) (e::es) [] pos) (aR g t):=
 iT (cX9 callAny hg hm hv ha hn hdb he hpl) (lCB hc)
end
structure UD where
 nx:Ev->Prop
 rt:B->Prop
 bk:Ev->Prop:=λ_=>False
 ct:Ev->Prop:=λ_=>False
abbrev US:=UD->Ev->Prop
structure DOk (K:PySem.W.Frag)(C:C0)(D0:UD)(D:aS5):Prop where
 nx: ∀ρ σ H,D0.nx ρ->EOk K C ρ σ H->D.nx σ H
 rt: ∀b v H,D0.rt b->iE C.H0 H->qJ K C.A0 C.H0 H b v->D.rt v H
 bk: ∀ρ σ H,D0.bk ρ->EOk K C ρ σ H->D.bk σ H
 ct: ∀ρ σ H,D0.ct ρ->EOk K C ρ σ H->D.ct σ H
def lS (K:PySem.W.Frag)(t:US):TS:=λD σ H=> ∃C ρ D0,EOk K C ρ σ H/\t D0 ρ/\DOk K C D0 D
def PUS (X:Cx)(st:Stmt)(t:US):Prop:=PS X st (lS X.K t)
def pF (X:Cx)(sts:List Stmt)(t:US):Prop:=PSs X sts (lS X.K t)
theorem sQ {X:Cx}{t t':TS}(h:PS X st t)(i: ∀D σ H,t' D σ H->t D σ H):PS X st t':=λpins s σ H D I q=>h pins s σ H D I (i D σ H q)
theorem bB5 {X:Cx}{st:List Stmt}{t t':TS}(h:PSs X st t)(i: ∀D σ H,t' D σ H->t D σ H):PSs X st t':=λpins s σ H D I q=>h pins s σ H D I (i D σ H q)
section
variable {X:Cx}{st:Stmt}{sts:List Stmt}{e:Expr}{pos:Pos}{t u:US}{te:UE}{tc:UT}{K:PySem.W.Frag}
def dN:US:=λD ρ=>D.nx ρ
def aT (t u:US):US:=λD ρ=>t {D with nx:=u D} ρ
theorem bX7:pF X [] dN:=bB5 dM7 λD σ H ⟨C,ρ,D0,I,h,k⟩=>k.nx ρ σ H h I
theorem bM (h1:PUS X st t)(h2:pF X sts u):pF X (st::sts) (aT t u):=
 bB5 (yD h1 h2) λD σ H ⟨C,ρ,D0,I,h,k⟩=>⟨C,ρ,{D0 with nx:=u D0},I,h,⟨λρ' σ' H' q I'=>⟨C,ρ',D0,I',q,k⟩,k.rt,k.bk,k.ct⟩⟩
theorem bD (h1:PUS X st t):pF X [st] t:=bW4 h1
def cV (t:UE):US:=λD ρ=>t ρ λb _=>D.rt b
theorem qJ.back {A A':AS}{H0 H H':Hp}(s:iE H0 H)(h: ∀a,A' a->A a): ∀{b:B} {v:V},qJ K A H H' b v->qJ K A' H0 H' b v
 | .pu _,_,r=>Rep.mono (.sub (.refl _) h) r
 | .ow _,_,⟨a,vs,e,n,h1,r⟩=>⟨a,vs,e,s.free n,h1,r.mono λb o nb q=>⟨λz=>nb (z.imp (h b) id),q⟩⟩
 | .bo _,_,r=>r.elim
theorem bX8 (he:PU X e te):PUS X (.Return (some e) pos) (cV te):=
 sQ (d55 he) λD σ H ⟨C,ρ,D0,I,h,k⟩=>⟨C,ρ,_,I,h,λb ρ' v H' q f s r=>k.rt b v H' q (I.ext.trans s) (r.back I.ext λa z=> .inl z)⟩
def rJ (i:Nat):US:=λD ρ=>match ρ[i]? with
 | some (some<|.pu d)=>D.rt (.pu d)
 | some (some<|.ow l)=>D.rt (.ow l)
 | _=>False
theorem lX (i:Nat)(h:PE X (.Name x p) (a82 i)):PUS X (.Return (some<|.Name x p) pos) (rJ i):=
 sQ (d55 h) λD σ H ⟨C,ρ,D0,I,h,k⟩=>by
  unfold rJ at h;split at h
  .rename_i d e
   obtain⟨v,h1,h2⟩:=I.pu i d e;exact⟨v,h1,k.rt _ v H h I.ext<|Rep.mono (.sub (.refl _) λa z=> .inl z) h2⟩
  .rename_i l e
   obtain⟨a,vs,h1,h2,h3,h4⟩:=I.ow i l e;refine⟨_,h1,k.rt _ _ H h I.ext ⟨a,vs,rfl,h3,h2,h4.mono λb o nb q=>⟨λz=>nb (z.elim .inl λz=> .inr ?_),q⟩⟩⟩
   subst z;exact⟨i,l,e,h1⟩
  .exact h.elim
def fX (c:UT)(t u:US):US:=λD ρ=>c ρ λb ρ1=>if b=true then t D ρ1 else u D ρ1
theorem cQ3 {a b:List Stmt}(hc:PUT X c tc)(ha:pF X a t)(hb:pF X b u):PUS X (.If c a b pos) (fX tc t u):=
 sQ (dY2 hc ha hb) λD σ H ⟨C,ρ,D0,I,h,k⟩=>⟨C,ρ,_,I,h,λc ρ1 H1 q f s=>by
  have I1:=(I.frz f).same s;cases c with
  | true=>
   dsimp only at q⊢;rw[a7 rfl]at q⊢;exact⟨C,ρ1,D0,I1,q,k⟩
  | false=>
   dsimp only at q⊢;rw[a6 bI]at q⊢;exact⟨C,ρ1,D0,I1,q,k⟩⟩
theorem c63:PUS X st (λ_ _=>False):=sQ d56 λD σ H ⟨C,ρ,D0,I,h,k⟩=>h
abbrev UG:=B->Ev->(Ev->Prop)->Prop
def lG (K:PySem.W.Frag)(T:List Nat)(g:UG):TG:=λv σ H Q=> ∃C ρ b H00 Q0,EOk K C ρ σ H00/\iE H00 H/\qJ K (Av C ρ σ) H00 H b v/\g b ρ Q0/\ ∀ρ' σ' H',Q0 ρ'->EOk K C ρ' σ' H'->(∀j:Nat,j ∉ T->σ'[j]? =σ[j]?)->Q σ' H'
def PUG (X:Cx)(e:Expr)(T:List Nat)(g:UG):Prop:=PG X e (lG X.K T g)
theorem dY5 {t t':TG}(h:PG X e t)(i: ∀v σ H Q,t' v σ H Q->t v σ H Q):PG X e t':=λpins s σ H v u Q I r q=>h pins s σ H v u Q I r (i v σ H Q q)
def bU (i:Nat):UG:=λb ρ Q=>i<ρ.length/\Q (ρ.set i<|some b)
theorem sZ (i:Nat)(h:PG X e (aS6 i)):PUG X e [i] (bU i):=dY5 h λv σ H Q z=>by
 obtain⟨C,ρ,b,H00,Q0,I,s,r,⟨hi,q⟩,k⟩:=z;exact k _ _ _ q (I.store s r (by rw[<-I.len];exact hi)) λj hj=>get_set_ne λz=>hj (by simp[z])
abbrev UGs:=List D->Ev->(Ev->Prop)->Prop
def lGs (K:PySem.W.Frag)(T:List Nat)(g:UGs):TGs:=λvs σ H Q=> ∃C ρ ds Q0,EOk K C ρ σ H/\bS K (Av C ρ σ) H ds vs/\g ds ρ Q0/\ ∀ρ' σ' H',Q0 ρ'->EOk K C ρ' σ' H'->(∀j:Nat,j ∉ T->σ'[j]? =σ[j]?)->Q σ' H'
def dO7 (X:Cx)(es:List Expr)(T:List Nat)(g:UGs):Prop:=PGs X es (lGs X.K T g)
def sR:UGs:=λds ρ Q=>ds=[]/\Q ρ
theorem Av.store_pu {C:C0}{ρ:Ev}{σ:L2.St}{d:D}{v:V}(h:Av C (ρ.set i<|some<|.pu d) (σ.set i<|some v) a):Av C ρ σ a:=by
 rcases h with z| ⟨j,l,h1,h2⟩
 .exact .inl z
 .rcases bE h1 with⟨rfl,h3,_⟩| ⟨ne,h3⟩
  .cases h3
  .rw[get_set_ne ne]at h2;exact .inr ⟨j,l,h3,h2⟩
theorem d81 {t t':TGs}(h:PGs X es t)(i: ∀v σ H Q,t' v σ H Q->t v σ H Q):PGs X es t':=λpins s σ H v u Q I r q=>h pins s σ H v u Q I r (i v σ H Q q)
theorem rD:dO7 X [] [] sR:=d81 dM8 λvs σ H Q z=>by
 obtain⟨C,ρ,ds,Q0,I,r,⟨e,q⟩,k⟩:=z;subst e;exact⟨r.unnil,k ρ σ H q I λ_ _=>rfl⟩
def fJ (i:Nat)(u:UGs):UGs:=λds ρ Q=>match ds with
 | d::r=>i<ρ.length/\u r (ρ.set i<|some<|.pu d) Q
 | []=>False
theorem eV {u:UGs}{T:List Nat}(i:Nat)(h1:PG X e (aS6 i))(h2:dO7 X es T u)
  (hs:↥((assignEach (e::es) X.env).map (·.2)=assign e X.env::(assignEach es X.env).map (·.2))):dO7 X (e::es) (i::T) (fJ i u):=
 d81 (d58 h1 h2 hs) λvs σ H Q z=>by
  obtain⟨C,ρ,ds,Q0,I,r,g,k⟩:=z;cases ds with
  | nil=>exact(show False from g).elim
  | cons d dr=>
   obtain⟨hi,g⟩:i<ρ.length/\u dr (ρ.set i<|some<|.pu d) Q0:=g;obtain⟨v,vr,rfl,rv,rr⟩:=r.uncons;have I1:EOk X.K C (ρ.set i<|some<|.pu d) (σ.set i<|some v) H:=I.store (b:= .pu d) (.refl _) rv (by rw[<-I.len];exact hi)
   exact⟨v,vr,rfl,C,_,dr,Q0,I1,rr.mono<|.sub (.refl _) λa z=>Av.store_pu z,g,λρ' σ' H' q I' hT=>k ρ' σ' H' q I' λj hj=>(hT j λz=>hj (eM _ z)).trans (get_set_ne λz=>hj (by simp[z]))⟩
def sS (u:UGs):UG:=λb ρ Q=>match b.d with
 | .tup ds=>u ds ρ Q
 | _=>False
theorem wN {u:UGs}{T:List Nat}(hc:X.calm=true)(h:dO7 X es T u)(hu: ∀ds ρ Q,u ds ρ Q->ds.length=n)
  (hn:↥((assignEach es X.env).length=n)) (hst:↥((assignEach es X.env).findIdx? (·.1)=none)):PUG X (.Tuple es k pos) T (sS u):=
 dY5 (pg_tup hc h hn hst) λv σ H Q z=>by
  obtain⟨C,ρ,b,H00,Q0,I,s,r,g,k⟩:=z;have R:=r.rep λa z=>I.avSome z
  unfold sS at g;split at g
  .rename_i ds e
   rw[e]at R;simp only[Rep]at R;obtain⟨a,vs,rfl,c,rs⟩:=R;exact⟨a,vs,rfl,c.imp cT id,by rw[<-rs.length];exact hu _ _ _ g,C,ρ,ds,Q0,I.same s,rs,g,k⟩
  .exact g.elim
def d82 (t:UE)(g:UG):US:=λD ρ=>t ρ λb ρ1=>g b ρ1 D.nx
theorem cH9 {g:UG}{T:List Nat}(he:PU X e te)(hg:PUG X tg T g)(hs:↥(swapsWithSole [tg] e pos.line X.env=pure false))(hw:↥(swappedStores [tg] e X.env=pure none))
  (h1:↥((assignEach [tg] X.env).map (·.2)=[assign tg X.env])):PUS X (.Assign [tg] e pos) (d82 te g):=
 sQ (d59 he hg hs hw h1) λD σ H ⟨C,ρ,D0,I,h,k⟩=>⟨C,ρ,_,I,h,λb ρ1 v H1 q f s r=>⟨C,ρ1,b,H,D0.nx,I.frz f,s,r,q,λρ' σ' H' q I' _=>k.nx ρ' σ' H' q I'⟩⟩
def bG (i:Nat)(t:UE):US:=λD ρ=>t ρ λb ρ1=>D.nx (ρ1.set i<|some b)
theorem rX (i:Nat)(hN:X.N.Nodup)(hi:X.N[i]? =some x)(hx:Loc X.env.scope x)(he:PU X e te)(hs:↥(swapsWith e (some<|.Name x pos') pos.line X.env=pure false))(hf:X.fn x=true\/X.env.scope.names.lookup x=some .local:=by walk_at "z")
  (hl: ∀pins σ H s,Inv X pins σ H s->i<σ.length:=by intro pins σ H s I;rw[I.len];decide):PUS X (.Assign [.Name x pos'] e pos) (bG i te):=by
 intro pins s σ H D I q;refine ps_set hN hi hx he hs hf pins s σ H D I ?_;obtain⟨C,ρ,D0,J,h,k⟩:=q;exact⟨C,ρ,_,J,h,λb ρ1 v H1 q f s1 r=>k.nx _ _ _ q ((J.frz f).store s1 r<|hl pins σ H s I)⟩
def IpU (X:Cx)(op:Operator)(g:D->D->(B->Prop)->Prop):Prop:=
 ∀(A:AS) (H:Hp) (d e:D) (v w:V) (Q0:B->Prop) (Q:VK),(∀a,A a->H a≠none)->Rep X.K A H d v->Rep X.K A H e w->g d e Q0->
  (∀b v' H',Q0 b->iE H H'->qJ X.K A H H' b v'->Q v' H')-> ∃r,PIp X op r/\r v w H Q
theorem ipAny {op:Operator}:PIp X op (λx y H Q=> ∃r,PIp X op r/\r x y H Q):=λpins s σ H x y v u Q I rx ry ⟨r,hr,q⟩=>hr pins s σ H x y v u Q I rx ry q
def c64 (i:Nat)(g:D->D->(B->Prop)->Prop)(te:UE):US:=λD ρ=>a85 ρ i λx ρ0=>te ρ0 λy ρ1=>g x.d y.d λb=>D.nx (ρ1.set i<|some b)
theorem d83 {op:Operator}{g:D->D->(B->Prop)->Prop}(i:Nat)(hN:X.N.Nodup)(hi:X.N[i]? =some x)(hx:Loc X.env.scope x)(he:PU X e te)(ho:IpU X op g)(hf:X.fn x=true\/X.env.scope.names.lookup x=some .local:=by walk_at "z")
  (hl: ∀pins σ H s,Inv X pins σ H s->i<σ.length:=by intro pins σ H s I;rw[I.len];decide):PUS X (.AugAssign (.Name x pos') op e pos) (c64 i g te):=by
 intro pins s σ H D I q;refine ps_aug hN hi hx he ipAny hf pins s σ H D I ?_;obtain⟨C,ρ,D0,J,h,k⟩:=q;have go: ∀(d:M.D) (ρ0:Ev) (v:V),Frz ρ ρ0->σ[i]? =some (some v)->Rep X.K (Av C ρ0 σ) H d v->(te ρ0 λy ρ1=>g d y.d λb=>D0.nx (ρ1.set i<|some b))->
   tAug i (lE X.K te) (λx y H Q=> ∃r,PIp X op r/\r x y H Q) D σ H:=λd ρ0 v f0 h1 r0 h=>by
  have J0:=J.frz f0;refine⟨v,h1,C,ρ0,_,J0,h,λy ρ1 w H1 q1 f1 s1 r1=> ?_⟩
  have J1:=(J0.frz f1).same s1;refine ho (Av C ρ1 σ) H1 d y.d v w _ _ (λa z=>J1.avSome z) (r0.mono<|.sub s1 λa=>f1.av) (r1.rep λa z=>J0.avF f1 z) q1 λb v' H' q s r=> ?_
  exact k.nx _ _ _ q (J1.store s r<|hl pins σ _ _ I)
 unfold c64 a85 at h;split at h
 .rename_i d e
  obtain⟨v,h1,h2⟩:=J.pu i d e;exact go d ρ v (.refl _) h1 h2 h
 .rename_i l e
  obtain⟨_,_,v,h1,h2⟩:=J.freeze e;exact go (.lst l) _ v (.set e) h1 h2 h
 .exact h.elim
def bX9 (c:UT)(tb:US):US:=λD ρ=> ∃W:Nat->Ev->Prop,(∃m,W m ρ)/\ ∀m ρ,W m ρ->
 c ρ λb ρ1=>if b=true then tb {D with nx:=λρ'=> ∃m',m'<m/\W m' ρ',ct:=λρ'=> ∃m',m'<m/\W m' ρ',bk:=D.nx} ρ1 else D.nx ρ1
theorem bB6 {tb:US}(hp:PassesOwn (model X.prog X.w) X.A X.env X.xe)(hc:PUT X c tc)(hb:pF X body tb):PUS X (.While c body [] pos) (bX9 tc tb):=
 sQ (d61 hp hc hb) λD σ H ⟨C,ρ,D0,I,⟨W,⟨m0,w0⟩,turn⟩,k⟩=>by
  refine⟨λm σ H=> ∃ρ,EOk X.K C ρ σ H/\W m ρ,⟨m0,ρ,I,w0⟩,?_⟩
  rintro m σ H ⟨ρ,I,w⟩;refine⟨C,ρ,_,I,turn m ρ w,λb ρ1 H1 q f s=> ?_⟩
  have I1:=(I.frz f).same s;cases b with
  | true=>
   dsimp only at q⊢;rw[a7 rfl]at q⊢;refine⟨λσ' H'=> ∃m',m'<m/\ ∃ρ',EOk X.K C ρ' σ' H'/\W m' ρ',λσ' H' z=>z,C,ρ1,_,I1,q,⟨?_,k.rt,k.nx,?_⟩⟩
   .rintro ρ' σ' H' ⟨m',hm,w'⟩ I';exact⟨m',hm,ρ',I',w'⟩
   .rintro ρ' σ' H' ⟨m',hm,w'⟩ I';exact⟨m',hm,ρ',I',w'⟩
  | false=>
   dsimp only at q⊢;rw[a6 bI]at q⊢;exact k.nx _ _ _ q I1
end
abbrev UI:=Ev->(Nat->(Nat->D)->Ev->Prop)->Prop
structure c65 (K:PySem.W.Frag)(A:AS)(H:Hp)(J:It)(n:Nat)(it:Nat->D):Prop where
 go: ∀A' H' i,mK A H A' H'->i<n->J.go i H'
 yld: ∀A' H' i x H'',mK A H A' H'->(∀a,A' a->H' a≠none)->i<n->J.yld i H' x H''->iE H' H''/\Rep K A' H'' (it i) x
 stop: ∀A' H',mK A H A' H'->J.stop n H'
def lI (K:PySem.W.Frag)(t:UI):TI:=λσ H R=> ∃C ρ Q0,EOk K C ρ σ H/\t ρ Q0/\
 ∀n it ρ' J H',Q0 n it ρ'->Frz ρ ρ'->iE H H'->c65 K (Av C ρ' σ) H' J n it->R J H'
def PUI (X:Cx)(tg iter:Expr)(t:UI):Prop:=PI X tg iter (lI X.K t)
def jJ (ui:UI)(g:UG)(tb:US):US:=λD ρ=>ui ρ λn it ρ1=> ∃Pv:Nat->Ev->Prop,Pv 0 ρ1/\
 (∀i ρ,i<n->Pv i ρ->g (.pu<|it i) ρ λρ2=>tb {D with nx:=Pv (i+1),ct:=Pv (i+1),bk:=D.nx} ρ2)/\ ∀ρ,Pv n ρ->D.nx ρ
noncomputable def C0.rz (C:C0) (ρ:Ev) (σ:L2.St) (H:Hp):C0:=C.raise ρ σ H λ_=>Classical.propDecidable _
section
variable {X:Cx}{e:Expr}{pos:Pos}{te:UE}{K:PySem.W.Frag}{C:C0}{ρ ρ':Ev}{σ σ':L2.St}{H H':Hp}
theorem EOk.rz (I:EOk K C ρ σ H):EOk K (C.rz ρ σ H) ρ σ H/\iE C.H0 (C.rz ρ σ H).H0:=I.raise
theorem dO8 (I':EOk K (C.rz ρ σ H) ρ' σ' H'):mK (Av C ρ σ) H (Av (C.rz ρ σ H) ρ' σ') H':=λb o nb e=>by
 have e0:(C.rz ρ σ H).H0 b=some o:=by
  show @ite _ (Own ρ σ b) (Classical.propDecidable _) none (H b)=some o
  rw[a6 λz=>nb (.inr z)]
  exact e
 refine⟨?_,I'.ext b o e0⟩
 rintro(z| ⟨i,l,h1,h2⟩)
 .exact nb (.inl z)
 .obtain⟨a,vs,h3,h4,h5,_⟩:=I'.ow i l h1;rw[h2]at h3;cases h3;rw[e0]at h5;cases h5
theorem aP3 {ui:UI}{g:UG}{T:List Nat}{tb:US}(hp:PassesOwn (model X.prog X.w) X.A X.env X.xe)(hc:X.calm=true)(hi:PUI X tg iter ui)(hg:PUG X tg T g)(hb:pF X body tb)
  (hs: ∀x,foldedSetIterable iter X.env x=pure x:=by intro _;rfl):PUS X (.For tg iter body [] pos) (jJ ui g tb):=
 sQ (ps_for hp hc hi hg hb hs) λD σ H ⟨C,ρ,D0,I,h,k⟩=>⟨C,ρ,_,I,h,λn it ρ1 J H1 q f s ok=>by
  obtain⟨Pv,p0,turn,fin⟩:=q;have I1:=(I.frz f).same s;obtain⟨Ir,sub⟩:=I1.rz;refine⟨λi m σ' H'=>m=n-i/\i<=n/\ ∃ρ',EOk X.K (C.rz ρ1 σ H1) ρ' σ' H'/\Pv i ρ',⟨n,rfl,cG _,ρ1,Ir,p0⟩,?_⟩
  rintro i m σ' H' ⟨rfl,hi,ρ',I',p'⟩;have P:=dO8 I';have lo: ∀ρ2 σ2 H2,EOk X.K (C.rz ρ1 σ H1) ρ2 σ2 H2->EOk X.K C ρ2 σ2 H2:=λρ2 σ2 H2 J2=>J2.lower sub rfl I.a0
  by_cases hlt:i<n
  .refine .inr ⟨ok.go _ _ i P hlt,λσ2 H2=> ∃ρ2,EOk X.K (C.rz ρ1 σ H1) ρ2 σ2 H2/\Pv (i+1) ρ2,λσ2 H2 z=>⟨n-(i+1),aa,rfl,hlt,z⟩,λx H2 y=> ?_⟩
   obtain⟨s2,r2⟩:=ok.yld _ _ i x H2 P (λa z=>I'.avSome z) hlt y
   refine⟨C.rz ρ1 σ H1,ρ',.pu<|it i,H',_,I',s2,r2,turn i ρ' hlt p',λρ2 σ2 H3 q I3 _=>⟨C.rz ρ1 σ H1,ρ2,_,I3,q,⟨?_,?_,?_,?_⟩⟩⟩
   .exact λρ3 σ3 H4 q I4=>⟨ρ3,I4,q⟩
   .exact λb v H4 q s4 r4=>k.rt b v H4 q (sub.trans s4) (r4.from sub)
   .exact λρ3 σ3 H4 q I4=>k.nx ρ3 σ3 H4 q (lo _ _ _ I4)
   .exact λρ3 σ3 H4 q I4=>⟨ρ3,I4,q⟩
  .have e:i=n:=aa
   subst e;exact .inl ⟨ok.stop _ _ P,k.nx _ _ _ (fin ρ' p')<|lo _ _ _ I'⟩⟩
noncomputable def oO:D->Option (List D)
 | .tup l=>some l
 | .lst l=>some l
 | .rol l=>some l
 | _=>none
def fG (t:UE):UI:=λρ Q=>t ρ λb ρ1=>match oO b.d with
 | some l=>Q l.length (λi=>l.getD i .non) ρ1
 | none=>False
theorem pi_any {l:Expr}{tl:TE}(hl:PE X l tl):PI X tg l (λσ H R=>tl σ H λx H1=> ∃a,x= .ref a/\((∃xs,SqL X.K H1 a xs/\R (Itl X.K a) H1)\/ ∃xs,SqT X.K H1 a xs/\R (Itt X.K a) H1)):=by
 intro pins s σ H R I h;refine thn (hl pins s σ H _ I h) λv s1 ⟨x,H1,I1,r1,q1⟩=> ?_
 obtain⟨a,e,q⟩:=q1;subst e;cases r1;rcases q with⟨xs,hq,q⟩| ⟨xs,hq,q⟩
 .obtain⟨its,rv,p,hz⟩:=I1.list hq;refine zV p.isList ?_;refine⟨s1.heap.objs.size,[s1.heap.objs.size],_,_,H1,rfl,I1.kept (t':=s1.toks) λb o e=>aV _ e,cX0 a _,⟨_,bV _ rfl,rfl,rfl⟩,λb hb=> ?_,q⟩
  have e:b=s1.heap.objs.size:=by simpa using hb
  subst e;exact I1.fpOk (aG _) (I1.hok.fresh<|aG _)
 .obtain⟨its,rv,p,hz⟩:=I1.tuple hq;refine wpAny_pyIter_tuple (show s1.heap.IsTuple a its.toArray from p) ?_
  refine⟨s1.heap.objs.size,[s1.heap.objs.size],_,_,H1,rfl,I1.kept (t':=s1.toks) λb o e=>aV _ e,cG5 a _,⟨_,bV _ rfl,rfl,rfl⟩,λb hb=> ?_,q⟩
  have e:b=s1.heap.objs.size:=by simpa using hb
  subst e;exact I1.fpOk (aG _) (I1.hok.fresh<|aG _)
theorem b38 {t t':TI}(h:PI X tg iter t)(i: ∀σ H R,t' σ H R->t σ H R):PI X tg iter t':=λpins s σ H R I q=>h pins s σ H R I (i σ H R q)
theorem bQ4 {A:AS}{vs:List V}{l:List D}(c:(¬A a/\Rd H a (.lst vs))\/KL K a vs)(r:bS K A H l vs):c65 K A H (Itl K a) l.length (λi=>l.getD i .non):=by
 have sq: ∀A' H',mK A H A' H'->SqL K H' a vs:=λA' H' P=>by
  rcases c with⟨n,c⟩|c
  .exact .inl (Rd.pres P n c).2
  .exact .inr c
 have get: ∀i,i<l.length-> ∃x,vs[i]? =some x/\Rep K A H (l.getD i .non) x:=λi hi=>r.get (by rw[aQ,aS hi];rfl)
 refine⟨λA' H' i P hi=> ?_,λA' H' i x H'' P hA hi y=> ?_,λA' H' P=>⟨vs,sq _ _ P,by rw[r.length];exact aG _⟩⟩
 .obtain⟨x,e,_⟩:=get i hi;exact⟨vs,x,sq _ _ P,e⟩
 .obtain⟨x',e,r'⟩:=get i hi;obtain⟨rfl,y⟩:=y;have:=y vs (sq _ _ P);rw[e]at this;cases this;exact⟨.refl _,r'.mono P⟩
theorem d84 {A:AS}{vs:List V}{l:List D}(c:(¬A a/\Rd H a (.tup vs))\/KT K a vs)(r:bS K A H l vs):c65 K A H (Itt K a) l.length (λi=>l.getD i .non):=by
 have sq: ∀A' H',mK A H A' H'->SqT K H' a vs:=λA' H' P=>by
  rcases c with⟨n,c⟩|c
  .exact .inl (Rd.pres P n c).2
  .exact .inr c
 have get: ∀i,i<l.length-> ∃x,vs[i]? =some x/\Rep K A H (l.getD i .non) x:=λi hi=>r.get (by rw[aQ,aS hi];rfl)
 refine⟨λA' H' i P hi=> ?_,λA' H' i x H'' P hA hi y=> ?_,λA' H' P=>⟨vs,sq _ _ P,by rw[r.length];exact aG _⟩⟩
 .obtain⟨x,e,_⟩:=get i hi;exact⟨vs,x,sq _ _ P,e⟩
 .obtain⟨x',e,r'⟩:=get i hi;obtain⟨rfl,y⟩:=y;have:=y vs (sq _ _ P);rw[e]at this;cases this;exact⟨.refl _,r'.mono P⟩
theorem gG (h:PU X e te):PUI X tg e (fG te):=b38 (pi_any h) λσ H R ⟨C,ρ,Q0,I,h,k⟩=>⟨C,ρ,_,I,h,λb ρ1 v H1 q f s r=>by
 have rr:=r.rep λa z=>I.avF f z
 generalize b.d=d at q rr;cases d with
 | tup l=>
  simp only[Rep]at rr;obtain⟨a,vs,rfl,c,rs⟩:=rr;exact⟨a,rfl,.inr ⟨vs,c.imp cT id,k _ _ ρ1 _ H1 q f s<|d84 c rs⟩⟩
 | lst l=>
  simp only[Rep]at rr;obtain⟨a,vs,rfl,n,c,rs⟩:=rr;exact⟨a,rfl,.inl ⟨vs,.inl<|.inl c,k _ _ ρ1 _ H1 q f s<|bQ4 (.inl ⟨n,.inl c⟩) rs⟩⟩
 | rol l=>
  simp only[Rep]at rr;obtain⟨a,vs,rfl,c,rs⟩:=rr;exact⟨a,rfl,.inl ⟨vs,c.imp cT id,k _ _ ρ1 _ H1 q f s<|bQ4 c rs⟩⟩
 | _=>exact(show False from q).elim⟩
theorem bB7 {A:AS}:c65 K A H (Itr lo n) n (λi=> .int (lo+i)):=
 ⟨λ_ _ _ _ h=>h,λ_ _ i x H'' _ _ _ ⟨e,y⟩=>by subst e;subst y;exact⟨.refl _,by simp only[Rep]⟩,λ_ _ _=>aG n⟩
def fP (ta:UA):UI:=λρ Q=>ta ρ λds ρ1=>match ds with
 | [.int j]=>(-(2^62)<=j/\j<2^62)/\Q j.toNat (λi=> .int (0+i)) ρ1
 | _=>False
def b39 (ta:UA):UI:=λρ Q=>ta ρ λds ρ1=>match ds with
 | [.int i,.int j]=>(-(2^62)<=i/\i<2^62/\ -(2^62)<=j/\j<2^62)/\Q (j-i).toNat (λk=> .int (i+k)) ρ1
 | _=>False
theorem bN {A:AS}{i:Int}{v:V}(h:Rep K A H (.int i) v):v= .int i:=by simpa only[Rep]using h
theorem cW {a:Expr}{ta:UA}(hg:Gl X "range")(hm:X.mg "range"=none)(ha:PUA X [a] ta)(hs:↥(starEach [a] X.env=[(false,eval a X.env)])):PUI X tg (.Call (.Name "range" p) [a] [] pos) (fP ta):=
 b38 (cX1 hg hm ha hs) λσ H R ⟨C,ρ,Q0,I,h,k⟩=>⟨C,ρ,_,I,h,λds ρ1 vs H1 q f s r=>by
  split at q
  .rename_i j
   obtain⟨v,vr,rfl,rv,rr⟩:=r.uncons;have:=rr.unnil;subst this;have:=bN rv;subst this;obtain⟨⟨h1,h2⟩,q⟩:=q;exact⟨j,rfl,h1,h2,k _ _ ρ1 _ H1 q f s bB7⟩
  .exact q.elim⟩
theorem aG1 {a b:Expr}{ta:UA}(hg:Gl X "range")(hm:X.mg "range"=none)(ha:PUA X [a,b] ta)(hs:↥(starEach [a,b] X.env=[(false,eval a X.env),(false,eval b X.env)]))(hs2:↥(starEach [b] X.env=[(false,eval b X.env)])) :
  PUI X tg (.Call (.Name "range" p) [a,b] [] pos) (b39 ta):=
 b38 (cX2 hg hm ha hs hs2) λσ H R ⟨C,ρ,Q0,I,h,k⟩=>⟨C,ρ,_,I,h,λds ρ1 vs H1 q f s r=>by
  split at q
  .rename_i i j
   obtain⟨v,vr,rfl,rv,rr⟩:=r.uncons;obtain⟨w,wr,rfl,rw',rr'⟩:=rr.uncons;have:=rr'.unnil;subst this;have:=bN rv;subst this;have:=bN rw';subst this;obtain⟨hb,q⟩:=q;exact⟨i,j,rfl,hb,k _ _ ρ1 _ H1 q f s bB7⟩
  .exact q.elim⟩
end
section
variable {X:Cx}{a b e o:Expr}{es:List Expr}{pos:Pos}{ta tb te ti:UE}{K:PySem.W.Frag}{C:C0}{ρ ρ':Ev}{σ σ':L2.St}{H H':Hp}{A:AS}
theorem Frz.ow {l:List D}(f:Frz ρ ρ')(h:ρ'[i]? =some (some<|.ow l)):ρ[i]? =some (some<|.ow l):=by
 rcases f.2 i with q| ⟨l',_,q⟩
 .exact q▸h
 .rw[q]at h;cases h
def uJ (ρ:Ev)(i:Nat)(Q:List D->Prop):Prop:=match ρ[i]? with
 | some (some<|.ow l)=>Q l
 | _=>False
theorem lY {Q:List D->Prop}(h:uJ ρ i Q): ∃l,ρ[i]? =some (some<|.ow l)/\Q l:=by
 unfold uJ at h;split at h
 .rename_i l e
  exact⟨l,e,h⟩
 .exact h.elim
def aP4 (i:Nat)(t:UE):US:=λD ρ=>uJ ρ i λ_=>t ρ λb ρ1=>uJ ρ1 i λl=>l.length<sizeLine/\D.nx (ρ1.set i<|some<|.ow<|l++[b.d])
theorem jM {apos:Pos}(i:Nat)(hx:PE X (.Name x p) (a82 i))(he:PU X e te)
  (hbase:↥(attributeBase (.Name x p) "append" X.env (eval (.Name x p) X.env)=eval (.Name x p) X.env))
  (hfew:↥(((backTo cpos<|starEach [e] X.env).all (λx=> !x.1)&&(backToKw cpos<|keywordEach [] X.env).all (λx=>x.1.isSome)
   &&decide ([e].length+([]:List Keyword).length+(if([]:List Keyword).isEmpty then 0 else 1)<30))=true))
  (hline:↥((apos.endLine==cpos.line)=true)) (hs:↥(starEach [e] X.env=(false,eval e X.env)::starEach [] X.env)) (hplain:↥((backTo cpos<|starEach [] X.env).any (·.1)=false))
  (hw:↥(swapsWith (.Call (.Attribute (.Name x p) "append" apos) [e] [] cpos) none pos.line X.env=pure false)) :
  PUS X (.Expr (.Call (.Attribute (.Name x p) "append" apos) [e] [] cpos) pos) (aP4 i te):=
 sQ (bW5 (pe_bm PySem.F.plainAttrs_list PySem.F.slot_list_append PySem.F.type_list_append bQ0 hx (bW7 he cH3 hs) hbase hfew hline hs hplain) hw) λD σ H ⟨C,ρ,D0,I,h,k⟩=>by
  obtain⟨l,hl,h⟩:=lY h;obtain⟨a,vs,h1,h2,h3,h4⟩:=I.ow i l hl;refine⟨.ref a,h1,.inl ⟨rfl,vs,SqL.of h2⟩,C,ρ,_,I,h,λb ρ1 v H1 q f s r=> ?_⟩
  obtain⟨l',hl',hz,q⟩:=lY q;have e:=f.ow hl';rw[hl]at e;cases e;have I1:=(I.frz f).same s;obtain⟨a',vs',g1,g2,g3,g4⟩:=I1.ow i l hl';rw[h1]at g1;cases g1;refine⟨a,vs',v,rfl,rfl,g2,by rw[<-g4.length];exact hz,k.nx _ _ _ q ?_⟩
  exact I1.write hl' h1 (g4.append<|.cons (r.rep λa z=>I.avF f z) .nil)
def bQ5 (i:Nat)(t ti:UE):US:=λD ρ=>t ρ λb ρ1=>uJ ρ1 i λ_=>ti ρ1 λj ρ2=>uJ ρ2 i λl=>match j.d with
 | .int k=>(match ixN l.length k with
  | some n=>D.nx (ρ2.set i<|some<|.ow<|l.set n b.d)
  | none=>False)
 | _=>False
theorem a23 {ix:Expr}(i:Nat)(hx:PE X (.Name x p) (a82 i))(he:PU X e te)(hi:PU X ix ti)
  (ha: ∀v,assign (.Subscript (.Name x p) ix tpos) X.env v=(do
   let ov<-holding [v] (eval (.Name x p) X.env)
   let iv<-holding [v,ov] (eval ix X.env)
   standAt tpos
   holding [v,ov,iv] (setItem ov iv v)
   release [v,ov,iv] []):=by intro _;rfl)
  (hs:↥(swapsWithSole [.Subscript (.Name x p) ix tpos] e pos.line X.env=pure false)) (hw:↥(swappedStores [.Subscript (.Name x p) ix tpos] e X.env=pure none))
  (h1:↥((assignEach [.Subscript (.Name x p) ix tpos] X.env).map (·.2)=[assign (.Subscript (.Name x p) ix tpos) X.env])):PUS X (.Assign [.Subscript (.Name x p) ix tpos] e pos) (bQ5 i te ti):=
 sQ (d59 he (pg_sub hx hi c61 ha) hs hw h1) λD σ H ⟨C,ρ,D0,I,h,k⟩=>⟨C,ρ,_,I,h,λb ρ1 v H1 q f s r=>by
  obtain⟨l,hl,q⟩:=lY q;have I1:=(I.frz f).same s;obtain⟨a,vs,h1,h2,h3,h4⟩:=I1.ow i l hl;refine⟨.ref a,h1,C,ρ1,_,I1,q,λj ρ2 w H2 q2 f2 s2 r2=> ?_⟩
  obtain⟨l',hl',q2⟩:=lY q2;have e:=f2.ow hl';rw[hl]at e;cases e;have I2:=(I1.frz f2).same s2;obtain⟨a',vs',g1,g2,g3,g4⟩:=I2.ow i l hl';rw[h1]at g1;cases g1;have rj:=r2.rep λa z=>I1.avF f2 z
  generalize j.d=dj at q2 rj;split at q2
  .rename_i kk
   have:=bN rj;subst this;split at q2
   .rename_i n hn
    refine⟨a,vs',kk,n,rfl,rfl,g2,by rw[<-g4.length];exact hn,k.nx _ _ _ q2 ?_⟩
    exact I2.write hl' h1 (g4.set n<|(r.rep λa z=>I.avF f z).mono<|.sub s2 λa=>f2.av)
   .exact q2.elim
  .exact q2.elim⟩
def gIx (d i:D)(Q:D->Prop):Prop:=match oO d,i with
 | some l,.int k=>(match atI l k with
  | some x=>Q x
  | none=>False)
 | _,_=>False
def uIx (t:UV)(ti:UE):UE:=λρ Q=>t ρ λd ρ1=>ti ρ1 λi ρ2=>gIx d i.d λx=>Q (.pu x) ρ2
theorem bS.atI {l:List D}{vs:List V}{k:Int}{x:D}(r:bS K A H l vs)(h:atI l k=some x): ∃v,L2.atI vs k=some v/\Rep K A H x v:=by
 unfold L2.atI at h⊢;cases e:ixN l.length k with
 | none=>rw[e]at h;cases h
 | some j=>
  rw[e]at h;rw[<-r.length,e];exact r.get h
theorem cH8.mono {A':AS}(s:iE H H')(h: ∀a,A' a->A a): ∀{d:D} {v:V},cH8 K A H d v->cH8 K A' H' d v
 | .non,_,r=>Rep.mono (.sub s h) r
 | .bl _,_,r=>Rep.mono (.sub s h) r
 | .int _,_,r=>Rep.mono (.sub s h) r
 | .str _,_,r=>Rep.mono (.sub s h) r
 | .ty _,_,r=>Rep.mono (.sub s h) r
 | .tup _,_,⟨a,vs,e,c,r⟩=>⟨a,vs,e,c.imp (λc=>c.imp (s _ _) λ⟨o,z⟩=>⟨o,s _ _ z⟩) id,r.mono<|.sub s h⟩
 | .lst _,_,⟨a,vs,e,c,r⟩=>⟨a,vs,e,s _ _ c,r.mono<|.sub s h⟩
 | .rol _,_,⟨a,vs,e,c,r⟩=>⟨a,vs,e,s.seq c,r.mono<|.sub s h⟩
 | .obj _ _ _,_,r=>Rep.mono (.sub s h) r
 | .adr _,_,r=>Rep.mono (.sub s h) r
 | .xob _ _ _ _,_,r=>Rep.mono (.sub s h) r
theorem cH8.seq {d:D}{v:V}{l:List D}(r:cH8 K A H d v)(h:oO d=some l): ∃a vs,v= .ref a/\(SqL K H a vs\/SqT K H a vs)/\bS K A H l vs:=by
 cases d with
 | tup l'=>cases h;obtain⟨a,vs,e,c,r⟩:=r;exact⟨a,vs,e,.inr c,r⟩
 | lst l'=>cases h;obtain⟨a,vs,e,c,r⟩:=r;exact⟨a,vs,e,.inl<|SqL.of c,r⟩
 | rol l'=>cases h;obtain⟨a,vs,e,c,r⟩:=r;exact⟨a,vs,e,.inl c,r⟩
 | _=>cases h
theorem dO9 {d i:D}{Q:D->Prop}(h:gIx d i Q): ∃l k x,oO d=some l/\i= .int k/\atI l k=some x/\Q x:=by
 unfold gIx at h;split at h
 .rename_i l k e
  split at h
  .rename_i x ex
   exact⟨l,k,x,e,rfl,ex,h⟩
  .exact h.elim
 .exact h.elim
theorem a86 {t:UV}(ha:PUV X a t)(hb:PU X b ti)(hs:bW8 b):PU X (.Subscript a b pos) (uIx t ti):=
 iT (pe_ix ix_seq ha hb hs) λσ H Q ⟨C,ρ,Q0,I,h,k⟩=>⟨C,ρ,_,I,h,λd ρ1 v H1 q f s r=>by
  have I1:=(I.frz f).same s;refine⟨C,ρ1,_,I1,q,λi ρ2 w H2 q2 f2 s2 r2=> ?_⟩
  obtain⟨l,kk,x,e1,e2,e3,q2⟩:=dO9 q2;have ri:=r2.rep λa z=>I1.avF f2 z
  rw[e2]at ri;have:=bN ri;subst this;obtain⟨a,vs,rfl,c,rs⟩:=(r.mono (A':=Av C ρ2 σ) s2 λa=>f2.av).seq e1
  obtain⟨u,e4,r4⟩:=rs.atI e3;have fin:=k (.pu x) ρ2 u H2 q2 (f.trans f2) (s.trans s2) r4;rcases c with c|c
  .exact .inl ⟨a,vs,kk,u,rfl,rfl,c,e4,fin⟩
  .exact .inr (.inl ⟨a,vs,kk,u,rfl,rfl,c,e4,fin⟩)⟩
abbrev UO:=Ev->(Option Int->Ev->Prop)->Prop
def lO (K:PySem.W.Frag)(t:UO):TO:=λσ H Q=> ∃C ρ Q0,EOk K C ρ σ H/\t ρ Q0/\ ∀i ρ' H',Q0 i ρ'->Frz ρ ρ'->iE H H'->Q i H'
def PUO (X:Cx)(e:Option Expr)(t:UO):Prop:=PO X e (lO X.K t)
theorem dY6 {e:Option Expr}{t t':TO}(h:PO X e t)(i: ∀σ H Q,t' σ H Q->t σ H Q):PO X e t':=λpins s σ H Q I q=>h pins s σ H Q I (i σ H Q q)
def gU:UO:=λρ Q=>Q none ρ
def jI (t:UE):UO:=λρ Q=>t ρ λb ρ1=>match b.d with
 | .int i=>Q (some i) ρ1
 | _=>False
theorem iN:PUO X none gU:=dY6 dO1 λσ H Q ⟨C,ρ,Q0,I,h,k⟩=>k _ _ _ h (.refl _) (.refl _)
theorem eW (h:PU X e te):PUO X (some e) (jI te):=dY6 (cP9 h) λσ H Q ⟨C,ρ,Q0,I,h,k⟩=>⟨C,ρ,_,I,h,λb ρ1 v H1 q f s r=>by
 have r':=r.rep λa z=>I.avF f z
 generalize b.d=d at q r';split at q
 .exact⟨_,bN r',k _ _ _ q f s⟩
 .exact q.elim⟩
noncomputable def cutD (l:List D)(lo hi:Option Int):List D:=(l.drop<|HT.sIx l.length 0 lo).take (HT.sIx l.length l.length hi-HT.sIx l.length 0 lo)
theorem bS.cut {l:List D}{vs:List V}(r:bS K A H l vs)(lo hi:Option Int):bS K A H (cutD l lo hi) (c60 vs lo hi):=by
 unfold cutD c60;rw[r.length];exact(r.drop _).take _
def gSl (d:D)(lo hi:Option Int)(Q:B->Prop):Prop:=match d with
 | .tup l=> ¬(HT.sIx l.length 0 lo=0/\HT.sIx l.length l.length hi=l.length)/\Q (.pu<|.tup<|cutD l lo hi)
 | .lst l=>Q (.ow<|cutD l lo hi)
 | .rol l=>Q (.ow<|cutD l lo hi)
 | _=>False
def uSl (t:UV)(tl th:UO):UE:=λρ Q=>t ρ λd ρ1=>tl ρ1 λlo ρ2=>th ρ2 λhi ρ3=>gSl d lo hi λb=>Q b ρ3
theorem gO {t:UV}{tl th:UO}{lo hi:Option Expr}(he:PUV X e t)(hl:PUO X lo tl)(hu:PUO X hi th):PU X (.Subscript e (.Slice lo hi none p2) pos) (uSl t tl th):=
 iT (c59 (cQ1.or d71) he hl hu) λσ H Q ⟨C,ρ,Q0,I,h,k⟩=>⟨C,ρ,_,I,h,λd ρ1 v H1 q f s r=>by
  have I1:=(I.frz f).same s;refine⟨C,ρ1,_,I1,q,λl2 ρ2 H2 q2 f2 s2=> ?_⟩
  have I2:=(I1.frz f2).same s2;refine⟨C,ρ2,_,I2,q2,λh3 ρ3 H3 q3 f3 s3=> ?_⟩
  have I3:=(I2.frz f3).same s3;have s13:=s2.trans s3;have sAll:=s.trans s13;have fAll:=f.trans (f2.trans f3);have r':=r.mono (A':=Av C ρ3 σ) s13 λa z=>f2.av (f3.av z)
  cases d with
  | tup l=>
   obtain⟨hw,q3⟩:=q3;obtain⟨a,vs,rfl,c,rs⟩:=r';exact .inr ⟨a,vs,rfl,c,by rw[<-rs.length];exact hw,λp n=>k _ ρ3 _ _ q3 fAll (sAll.trans<|eI n _) (j0 (λa z=>I3.avSome z) n<|rs.cut l2 h3)⟩
  | lst l=>
   obtain⟨a,vs,rfl,c,rs⟩:=r';exact .inl ⟨a,vs,rfl,SqL.of c,λp n=>k _ ρ3 _ _ q3 fAll (sAll.trans<|eI n _) (gN sAll n<|rs.cut l2 h3)⟩
  | rol l=>
   obtain⟨a,vs,rfl,c,rs⟩:=r';exact .inl ⟨a,vs,rfl,c,λp n=>k _ ρ3 _ _ q3 fAll (sAll.trans<|eI n _) (gN sAll n<|rs.cut l2 h3)⟩
  | _=>exact(show False from q3).elim⟩
def Sm (i:Int):Prop:=i.natAbs<2^9000
theorem Sm.log {i:Int}(h:Sm i):i.natAbs.log2<9000:=by
 by_cases z:i.natAbs=0
 .rw[z];decide
 .exact(Nat.log2_lt z).mpr h
def fY (d e:D)(Q:B->Prop):Prop:=match d,e with
 | .int i,.int j=>Q (.pu<|.int<|i+j)
 | .lst l,.lst m=>l.length+m.length<=sizeLine/\Q (.ow<|l++m)
 | .tup l,.tup m=>l.length+m.length<=sizeLine/\Q (.pu<|.tup<|l++m)
 | _,_=>False
theorem d85:OpR X (binaryOp .Add) (λx y H Q=> ∃a b ys,x= .ref a/\y= .ref b/\SqT X.K H a []/\SqT X.K H b ys/\Q (.ref b) H):=by
 intro pins s σ H x y v u Q I rx ry h;obtain⟨a,b,ys,rfl,rfl,ha,hb,q⟩:=h;cases rx;cases ry;obtain⟨its,r1,p1,_⟩:=I.tuple ha;obtain⟨its2,r2,p2,_⟩:=I.tuple hb;have e:its=[]:=by
  have:=r1.length;exact tT.mp this.symm
 subst e;obtain⟨⟨cls,dd,data,sl⟩,ho,hc,n,hd⟩:=id p1;obtain⟨⟨cls2,dd2,data2,sl2⟩,ho2,hc2,n2,hd2⟩:=id p2;simp only at hc hd hc2 hd2;subst hc hd hc2 hd2;exact concat_meets ⟨_,ho,rfl⟩ ⟨_,ho2,rfl⟩ aO7 seq_tuple_add aM6 aM1 (aL7 _ _) (tuple_addW0 a b _ its2.toArray n n2 dd dd2 sl sl2 rfl) ⟨ho,ho2,⟨.ref b,H,I,rfl,q⟩⟩
theorem aI1 {i:Int}:qJ K A H H' (.pu<|.int i) (.int i):=by
 show Rep K A H' (.int i) (.int i)
 simp only[Rep]
theorem cK:OpU X (binaryOp .Add) fY:=by
 intro A H d e v w Q0 Q hA r1 r2 g k;unfold fY at g;split at g
 .rename_i i j
  exact⟨_,op_add,i,j,bN r1,bN r2,k _ _ H g (.refl _) aI1⟩
 .rename_i l m
  simp only[Rep]at r1 r2;obtain⟨a,vs,rfl,n1,c1,rs1⟩:=r1;obtain⟨b,ws,rfl,n2,c2,rs2⟩:=r2;exact⟨_,op_cat,a,b,vs,ws,rfl,rfl,c1,c2,by rw[<-rs1.length,<-rs2.length];exact g.1,λp n=>k _ _ _ g.2 (eI n _) (gN (.refl _) n<|rs1.append rs2)⟩
 .rename_i l m
  simp only[Rep]at r1 r2;obtain⟨a,vs,rfl,c1,rs1⟩:=r1;obtain⟨b,ws,rfl,c2,rs2⟩:=r2;obtain⟨hz,g⟩:=g
  by_cases hn:l=[]
  .subst hn;have e1:vs=[]:=rs1.unnil;subst e1;refine⟨_,d85,a,b,ws,rfl,rfl,c1.imp cT id,c2.imp cT id,k _ _ H g (.refl _) ?_⟩;show Rep X.K A H (.tup m) (.ref b);simp only[Rep];exact⟨b,ws,rfl,c2,rs2⟩
  refine⟨_,dO2,a,b,vs,ws,rfl,rfl,c1.imp cT id,c2.imp cT id,λz=>hn ?_,by rw[<-rs1.length,<-rs2.length];exact hz,λz=> ?_,λz p n=> ?_⟩
  .have:=rs1.length;rw[z]at this;exact tT.mp this
  .have e2:=rs2.length;rw[z]at e2;have e3:m=[]:=tT.mp e2;subst e3;rw[jA]at g;refine k _ _ H g (.refl _) ?_;show Rep X.K A H (.tup l) (.ref a);simp only[Rep];exact⟨a,vs,rfl,c1,rs1⟩
  .exact k _ _ _ g (eI n _) (j0 hA n<|rs1.append rs2)
 .exact g.elim
def gI2 (f:Int->Int->(B->Prop)->Prop)(d e:D)(Q:B->Prop):Prop:=match d,e with
 | .int i,.int j=>f i j Q
 | _,_=>False
theorem t6 {f:Int->Int->(B->Prop)->Prop}{d e:D}{Q:B->Prop}(h:gI2 f d e Q): ∃i j,d= .int i/\e= .int j/\f i j Q:=by
 unfold gI2 at h;split at h
 .exact⟨_,_,rfl,rfl,h⟩
 .exact h.elim
def gSub:D->D->(B->Prop)->Prop:=gI2 λi j Q=>Q (.pu<|.int<|i-j)
theorem bL:OpU X (binaryOp .Sub) gSub:=by
 intro A H d e v w Q0 Q hA r1 r2 g k;obtain⟨i,j,rfl,rfl,g⟩:=t6 g;exact⟨_,op_sub,i,j,bN r1,bN r2,k _ _ H g (.refl _) aI1⟩
theorem cQ4 {i:Int}(h:Sm i):Builtin.Int.intBits i<=2^20:=aI (PyProof.Rows.intBits_le h) ac
def fL (d e:D)(Q:B->Prop):Prop:=match d,e with
 | .int i,.int j=>(cG7 i j\/(Sm i/\Sm j))/\Q (.pu<|.int<|i*j)
 | .lst l,.int k=>(-(2^63)<=k/\k<2^63/\l.length*k.toNat<=sizeLine)/\Q (.ow (replicate k.toNat l).flatten)
 | _,_=>False
theorem dP0:OpR X (binaryOp .Mult) (rI (λi j=>cG7 i j\/(Sm i/\Sm j)) λi j=> .int (i*j)):=opI λ_ _ _ _ _ _ _ hc q=>mul_int q (hc.elim cG7.ok λh=> .of_bits (cQ4 h.1) (cQ4 h.2))
theorem bT:OpU X (binaryOp .Mult) fL:=by
 intro A H d e v w Q0 Q hA r1 r2 g k;unfold fL at g;split at g
 .rename_i i j
  exact⟨_,dP0,i,j,bN r1,bN r2,g.1,k _ _ H g.2 (.refl _) aI1⟩
 .rename_i l kk
  have:=bN r2;subst this;simp only[Rep]at r1;obtain⟨a,vs,rfl,n1,c1,rs1⟩:=r1;obtain⟨⟨h1,h2,h3⟩,g⟩:=g;exact⟨_,op_rep,a,kk,vs,rfl,rfl,c1,h1,h2,by rw[<-rs1.length];exact h3,λp n=>k _ _ _ g (eI n _) (gN (.refl _) n<|rs1.rep _)⟩
 .exact g.elim
def aS9:D->D->(B->Prop)->Prop:=gI2 λi j Q=>(j≠0/\Sm j)/\Q (.pu<|.int<|i.fdiv j)
def kW:D->D->(B->Prop)->Prop:=gI2 λi j Q=>j≠0/\Q (.pu<|.int<|i.fmod j)
theorem dP1:OpR X (binaryOp .FloorDiv) (rI (λ_ j=>j≠0/\Sm j) λi j=> .int (i.fdiv j)):=opI λ_ _ _ _ _ _ _ hc q=>floordiv_int hc.1 q (.inl<|PyProof.noPylong_of_log2 hc.2.log)
theorem wO:OpU X (binaryOp .FloorDiv) aS9:=by
 intro A H d e v w Q0 Q hA r1 r2 g k;obtain⟨i,j,rfl,rfl,g⟩:=t6 g;exact⟨_,dP1,i,j,bN r1,bN r2,g.1,k _ _ H g.2 (.refl _) aI1⟩
theorem fK:OpU X (binaryOp .Mod) kW:=by
 intro A H d e v w Q0 Q hA r1 r2 g k;obtain⟨i,j,rfl,rfl,g⟩:=t6 g;exact⟨_,dN3,i,j,bN r1,bN r2,g.1,k _ _ H g.2 (.refl _) aI1⟩
def aT0:D->D->(B->Prop)->Prop:=gI2 λi j Q=>dN2 i j/\Q (.pu<|.int<|i^j.toNat)
theorem rY:OpU X (binaryOp .Pow) aT0:=by
 intro A H d e v w Q0 Q hA r1 r2 g k;obtain⟨i,j,rfl,rfl,g⟩:=t6 g;exact⟨_,op_pow,i,j,bN r1,bN r2,g.1,k _ _ H g.2 (.refl _) aI1⟩
def wP (p:Int->Int->Bool):D->D->(B->Prop)->Prop:=gI2 λi j Q=>Q (.pu<|.bl<|p i j)
theorem bY0 {p:Int->Int->Bool}(ho:OpR X (compareOp op) (rI0 λi j=> .bl (p i j))):OpU X (compareOp op) (wP p):=by
 intro A H d e v w Q0 Q hA r1 r2 g k;obtain⟨i,j,rfl,rfl,g⟩:=t6 g;exact⟨_,ho,i,j,bN r1,bN r2,k _ _ H g (.refl _) kP⟩
theorem c66:OpU X (compareOp .Lt) (wP λi j=>decide (i<j)):=bY0 op_lt
theorem dY7:OpU X (compareOp .LtE) (wP λi j=>decide (i<=j)):=bY0 op_le
theorem c67:OpU X (compareOp .Gt) (wP λi j=>decide (j<i)):=bY0 op_gt
theorem dY8:OpU X (compareOp .GtE) (wP λi j=>decide (j<=i)):=bY0 op_ge
def iV (neg:Bool)(d e:D)(Q:B->Prop):Prop:=match d,e with
 | .int i,.int j=>Q (.pu<|.bl<|neg ^^ decide (i=j))
 | .bl i,.bl j=>Q (.pu<|.bl<|neg ^^ decide (i=j))
 | .str i,.str j=>Q (.pu<|.bl<|neg ^^ decide (i=j))
 | _,_=>False
theorem vV {b:Bool}{v:V}(h:Rep K A H (.bl b) v):v= .bl b:=by simpa only[Rep]using h
theorem aT1 {b:Str}{v:V}(h:Rep K A H (.str b) v):v= .str b:=by simpa only[Rep]using h
theorem iU:OpU X (compareOp .Eq) (iV false):=by
 intro A H d e v w Q0 Q hA r1 r2 g k;unfold iV at g;split at g
 .rw[bN r1,bN r2];exact⟨_,d62,rfl,k _ _ H g (.refl _) (by rw[b88,nS,pO];exact kP)⟩
 .rw[vV r1,vV r2];exact⟨_,d62,rfl,k _ _ H g (.refl _) (by rw[bW6,nS,pO];exact kP)⟩
 .rw[aT1 r1,aT1 r2];exact⟨_,d62,rfl,k _ _ H g (.refl _) (by rw[b89,nS,pO];exact kP)⟩
 .exact g.elim
theorem bQ6:OpU X (compareOp .NotEq) (iV true):=by
 intro A H d e v w Q0 Q hA r1 r2 g k;unfold iV at g;split at g
 .rw[bN r1,bN r2];exact⟨_,d63,rfl,k _ _ H g (.refl _) (by rw[b88,nT,pO];exact kP)⟩
 .rw[vV r1,vV r2];exact⟨_,d63,rfl,k _ _ H g (.refl _) (by rw[bW6,nT,pO];exact kP)⟩
 .rw[aT1 r1,aT1 r2];exact⟨_,d63,rfl,k _ _ H g (.refl _) (by rw[b89,nT,pO];exact kP)⟩
 .exact g.elim
end
section
variable {X:Cx}{a b e o:Expr}{es:List Expr}{pos:Pos}{ta tb te ti:UE}{K:PySem.W.Frag}{C:C0}{ρ ρ':Ev}{σ σ':L2.St}{H H':Hp}{A:AS}
def pG (t:UE):UE:=λρ Q=>t ρ λb ρ1=>match b.d with
 | .int i=>Q (.pu<|.int<|-i) ρ1
 | _=>False
theorem jN (h:PU X a ta):PU X (.UnaryOp .USub a pos) (pG ta):=
 iT (pe_un un_neg h) λσ H Q ⟨C,ρ,Q0,I,h,k⟩=>⟨C,ρ,_,I,h,λb ρ1 v H1 q f s r=>by
  have r':=r.rep λa z=>I.avF f z
  generalize b.d=d at q r';split at q
  .exact⟨_,bN r',k _ _ _ _ q f s aI1⟩
  .exact q.elim⟩
theorem cI0:IpU X .Add (gI2 λi j Q=>Q (.pu<|.int<|i+j)):=by
 intro A H d e v w Q0 Q hA r1 r2 g k;obtain⟨i,j,rfl,rfl,g⟩:=t6 g;exact⟨_,ip_add,i,j,bN r1,bN r2,k _ _ H g (.refl _) aI1⟩
theorem iu_sub:IpU X .Sub (gI2 λi j Q=>Q (.pu<|.int<|i-j)):=by
 intro A H d e v w Q0 Q hA r1 r2 g k;obtain⟨i,j,rfl,rfl,g⟩:=t6 g;exact⟨_,d60,i,j,bN r1,bN r2,k _ _ H g (.refl _) aI1⟩
def g1 (f:D->(B->Prop)->Prop)(ds:List D)(Q:B->Prop):Prop:=match ds with
 | [d]=>f d Q
 | _=>False
def g2 (f:D->D->(B->Prop)->Prop)(ds:List D)(Q:B->Prop):Prop:=match ds with
 | [d,e]=>f d e Q
 | _=>False
theorem a87 {f:D->(B->Prop)->Prop}{ds:List D}{Q:B->Prop}{vs:List V}(h:g1 f ds Q)(r:bS K A H ds vs): ∃d v,ds=[d]/\vs=[v]/\Rep K A H d v/\f d Q:=by
 unfold g1 at h;split at h
 .obtain⟨v,vr,rfl,rv,rr⟩:=r.uncons;have:=rr.unnil;subst this;exact⟨_,v,rfl,rfl,rv,h⟩
 .exact h.elim
theorem cI1 {f:D->D->(B->Prop)->Prop}{ds:List D}{Q:B->Prop}{vs:List V}(h:g2 f ds Q)(r:bS K A H ds vs): ∃d e v w,ds=[d,e]/\vs=[v,w]/\Rep K A H d v/\Rep K A H e w/\f d e Q:=by
 unfold g2 at h;split at h
 .obtain⟨v,vr,rfl,rv,rr⟩:=r.uncons;obtain⟨w,wr,rfl,rw',rr'⟩:=rr.uncons;have:=rr'.unnil;subst this;exact⟨_,_,v,w,rfl,rfl,rv,rw',h⟩
 .exact h.elim
def dP2 (f:Int->(B->Prop)->Prop)(d:D)(Q:B->Prop):Prop:=match d with
 | .int i=>f i Q
 | _=>False
theorem d86 {f:Int->(B->Prop)->Prop}{d:D}{Q:B->Prop}(h:dP2 f d Q): ∃i,d= .int i/\f i Q:=by
 unfold dP2 at h;split at h
 .exact⟨_,rfl,h⟩
 .exact h.elim
def cY2:List D->(B->Prop)->Prop:=g1 (dP2 λi Q=>Q (.pu<|.int<|if i<0 then -i else i))
theorem bY1:sP X (.builtin "abs") cY2:=by
 intro A H ds vs Q0 Q hA r g k;obtain⟨d,v,rfl,rfl,rv,g⟩:=a87 g r;obtain⟨i,rfl,g⟩:=d86 g;exact⟨_,d64,i,by rw[bN rv],k _ _ H g (.refl _) aI1⟩
def gMax:List D->(B->Prop)->Prop:=g2 (gI2 λi j Q=>Q (.pu<|.int<|if j>i then j else i))
theorem cu_max (hc:X.calm=true):sP X (.builtin "max") gMax:=by
 intro A H ds vs Q0 Q hA r g k;obtain⟨d,e,v,w,rfl,rfl,rv,rw',g⟩:=cI1 g r;obtain⟨i,j,rfl,rfl,g⟩:=t6 g;exact⟨_,cX4 hc,i,j,by rw[bN rv,bN rw'],k _ _ H g (.refl _) aI1⟩
def gMin:List D->(B->Prop)->Prop:=g2 (gI2 λi j Q=>Q (.pu<|.int<|if j<i then j else i))
theorem cu_min (hc:X.calm=true):sP X (.builtin "min") gMin:=by
 intro A H ds vs Q0 Q hA r g k;obtain⟨d,e,v,w,rfl,rfl,rv,rw',g⟩:=cI1 g r;obtain⟨i,j,rfl,rfl,g⟩:=t6 g;exact⟨_,cX5 hc,i,j,by rw[bN rv,bN rw'],k _ _ H g (.refl _) aI1⟩
def bY2:List D->(B->Prop)->Prop:=g1 λd Q=>match d with
 | .int i=>Q (.pu<|.int i)
 | .bl k=>Q (.pu<|.int<|if k then 1 else 0)
 | _=>False
theorem cu_int:sP X (.type "int") bY2:=by
 intro A H ds vs Q0 Q hA r g k;obtain⟨d,v,rfl,rfl,rv,g⟩:=a87 g r;cases d with
 | int i=>exact⟨_,bP4,.inl ⟨i,by rw[bN rv],k _ _ H g (.refl _) aI1⟩⟩
 | bl c=>exact⟨_,bP4,.inr ⟨c,by rw[vV rv],k _ _ H g (.refl _) aI1⟩⟩
 | _=>exact(show False from g).elim
noncomputable def cA:List D->(B->Prop)->Prop:=g1 λd Q=>match oO d with
 | some l=>Q (.pu<|.tup l)
 | none=>False
theorem dE:sP X (.type "tuple") cA:=by
 intro A H ds vs Q0 Q hA r g k;obtain⟨d,v,rfl,rfl,rv,g⟩:=a87 g r;cases d with
 | tup l=>
  have rv':=rv;simp only[Rep]at rv;obtain⟨a,vs,rfl,c,rs⟩:=rv;exact⟨_,wM,a,vs,rfl,.inr ⟨c.imp cT id,k _ _ H g (.refl _) rv'⟩⟩
 | lst l=>
  simp only[Rep]at rv;obtain⟨a,vs,rfl,n,c,rs⟩:=rv;exact⟨_,wM,a,vs,rfl,.inl ⟨SqL.of c,λp n=>k _ _ _ g (eI n _) (j0 hA n rs)⟩⟩
 | rol l=>
  simp only[Rep]at rv;obtain⟨a,vs,rfl,c,rs⟩:=rv;exact⟨_,wM,a,vs,rfl,.inl ⟨c.imp cT id,λp n=>k _ _ _ g (eI n _) (j0 hA n rs)⟩⟩
 | _=>exact(show False from g).elim
noncomputable def aT2:List D->(B->Prop)->Prop:=g1 λd Q=>match oO d with
 | some l=>Q (.ow l)
 | none=>False
theorem bY3:sP X (.type "list") aT2:=by
 intro A H ds vs Q0 Q hA r g k;obtain⟨d,v,rfl,rfl,rv,g⟩:=a87 g r;cases e:oO d with
 | none=>simp only[e]at g
 | some l=>
  simp only[e]at g;obtain⟨a,vs,rfl,c,rs⟩:=rv.one.seq e;exact⟨_,bX3,a,vs,rfl,c,λp n=>k _ _ _ g (eI n _) (gN (.refl _) n rs)⟩
def lZ (t:UV):UE:=λρ Q=>t ρ λd ρ1=>match oO d with
 | some l=>Q (.pu<|.int l.length) ρ1
 | none=>False
theorem fQ {t:UV}(ha:PUV X e t)(hg:Gl X "len")(hm:X.mg "len"=none)(hs:↥(starEach [e] X.env=(false,eval e X.env)::starEach [] X.env))
  (hpl:↥((backTo pos<|starEach [] X.env).any (·.1)=false)):PU X (.Call (.Name "len" p) [e] [] pos) (lZ t):=
 iT (c58 bX2 hg hm PySem.boot_len (bW7 ha cH3 hs) ac ac hs hpl) λσ H Q ⟨C,ρ,Q0,I,h,k⟩=>⟨C,ρ,_,I,h,λd ρ1 v H1 q f s r=>by
  cases e:oO d with
  | none=>simp only[e]at q
  | some l=>
   simp only[e]at q;obtain⟨a,vs,rfl,c,rs⟩:=r.seq e;exact⟨a,vs,rfl,c,k _ _ _ _ q f s (by rw[rs.length];exact aI1)⟩⟩
theorem aP5 {x:Value}{T:String}{A:Around}
  {P:(Result->Shared->Prop)->Shared->Prop} (hm:Meets (Builtin.«isinstance» ⟨[x,.type T],[]⟩) (λ_ R s=>P R s)) (h:P (λr s'=>match r with| .ok (.ret v)=>Q v s'| .ok _=>False| .error e=>E e s') s) :
  wpAny (model prog w) A (call (.builtin "isinstance") [x,.type T]) Q E s:=
 call_function_any kind_isinstance plain_isinstance entry_isinstance (args_isinstance _ _) (hm _ _ _ _ _ h)
theorem rep_ty {T:String}{v:V}(h:Rep K A H (.ty T) v):v= .ty T:=by simpa only[Rep]using h
def rIsi (K:PySem.W.Frag):List V->Hp->VK->Prop:=λxs H Q=> ∃x T k,xs=[x,.ty T]/\Q (.bl k) H/\
 ((∃i,x= .int i/\((T="int"/\k=true)\/((T="bool"\/T="tuple"\/T="list")/\k=false)))\/(∃c,x= .bl c/\(T="int"\/T="bool")/\k=true)\/
  (∃a ys,x= .ref a/\SqT K H a ys/\((T="tuple"/\k=true)\/((T="int"\/T="list")/\k=false)))\/(∃a ys,x= .ref a/\SqL K H a ys/\((T="list"/\k=true)\/((T="int"\/T="tuple")/\k=false))))
theorem tyT (T:String)(h:T="int"\/T="bool"\/T="tuple"\/T="list"):typeOf (.type T)=pure (.type "type"):=by
 rcases h with rfl|rfl|rfl|rfl<;>first|rfl|decide
theorem uK:pI X (.builtin "isinstance") (rIsi X.K):=by
 intro pins s σ H xs us Q I r h;obtain⟨x,T,k,rfl,q,h⟩:=h;obtain⟨u,w',rfl,rx,ry⟩:=vals2 r;have e:w'=Value.type T:=ry;subst e;rcases h with⟨i,rfl,h⟩| ⟨c,rfl,h,rfl⟩| ⟨a,ys,rfl,hs,h⟩| ⟨a,ys,rfl,hs,h⟩
 .obtain⟨t,rfl⟩:=rx;rcases h with⟨rfl,rfl⟩| ⟨h,rfl⟩
  .exact tV (qH s i t) (tyT _ ae) PyProof.Rows.sub_int_int ⟨.bl true,H,I,rfl,q⟩
  .rcases h with rfl|rfl|rfl
   .exact aP5 (aN2 ac (tyT _ ae) PyProof.Rows.sub_int_bool) ⟨.bl false,H,I.tok _,rfl,q⟩
   .exact aP5 (aN2 ac (tyT _ ae) PyProof.Rows.sub_int_tuple) ⟨.bl false,H,I.tok _,rfl,q⟩
   .exact aP5 (aN2 ac (tyT _ ae) PyProof.Rows.sub_int_list) ⟨.bl false,H,I.tok _,rfl,q⟩
 .cases rx;rcases h with rfl|rfl
  .exact tV (PySem.typeIs_bool s c) (tyT _ ae) PyProof.Rows.sub_bool_int ⟨.bl true,H,I,rfl,q⟩
  .exact tV (PySem.typeIs_bool s c) (tyT _ ae) PyProof.Rows.sub_bool_bool ⟨.bl true,H,I,rfl,q⟩
 .cases rx;obtain⟨its,rv,p,hz⟩:=I.tuple hs;obtain⟨o,ho,hc,_⟩:=id p;rcases h with⟨rfl,rfl⟩| ⟨h,rfl⟩
  .exact tV p.typeIs (tyT _ ae) PyProof.Rows.sub_tuple_tuple ⟨.bl true,H,I,rfl,q⟩
  .rcases h with rfl|rfl
   .exact aP5 (isinstance_false_tuple ac (tyT _ ae) PyProof.Rows.sub_tuple_int) ⟨⟨o,ho,hc⟩,.bl false,H,I.tok _,rfl,q⟩
   .exact aP5 (isinstance_false_tuple ac (tyT _ ae) PyProof.Rows.sub_tuple_list) ⟨⟨o,ho,hc⟩,.bl false,H,I.tok _,rfl,q⟩
 .cases rx;obtain⟨its,rv,p,hz⟩:=I.list hs;obtain⟨o,n,ho,hc,_⟩:=id p;rcases h with⟨rfl,rfl⟩| ⟨h,rfl⟩
  .exact tV p.isList.typeIs (tyT _ ae) PyProof.Rows.sub_list_list ⟨.bl true,H,I,rfl,q⟩
  .rcases h with rfl|rfl
   .exact aP5 (isinstance_false_list ac (tyT _ ae) PyProof.Rows.sub_list_int) ⟨⟨o,ho,hc⟩,.bl false,H,I.tok _,rfl,q⟩
   .exact aP5 (isinstance_false_list ac (tyT _ ae) PyProof.Rows.sub_list_tuple) ⟨⟨o,ho,hc⟩,.bl false,H,I.tok _,rfl,q⟩
def d87:List D->(B->Prop)->Prop:=g2 λd e Q=>match e with
 | .ty T=>(match d with
  | .int _=>if T="int" then Q (.pu<|.bl true)else if T="bool"\/T="tuple"\/T="list" then Q (.pu<|.bl false)else False
  | .bl _=>if T="int"\/T="bool" then Q (.pu<|.bl true)else False
  | .tup _=>if T="tuple" then Q (.pu<|.bl true)else if T="int"\/T="list" then Q (.pu<|.bl false)else False
  | .lst _=>if T="list" then Q (.pu<|.bl true)else if T="int"\/T="tuple" then Q (.pu<|.bl false)else False
  | _=>False)
 | _=>False
theorem cI2:sP X (.builtin "isinstance") d87:=by
 intro A H ds vs Q0 Q hA r g k;obtain⟨d,e,v,w,rfl,rfl,rv,rw',g⟩:=cI1 g r;have no: ∀{c:Bool},Q0 (.pu<|.bl c)->Q (.bl c) H:=λz=>k _ _ H z (.refl _) kP
 cases e with
 | ty T=>
  rw[rep_ty rw'];cases d with
  | int i=>
   rw[bN rv]
   by_cases h1:T="int"
   .simp only[h1,cU]at g;exact⟨_,uK,_,T,true,rfl,no g,.inl ⟨i,rfl,.inl ⟨h1,rfl⟩⟩⟩
   .by_cases h2:T="bool"\/T="tuple"\/T="list"
    .simp only[h1,h2,cU,dC]at g;exact⟨_,uK,_,T,false,rfl,no g,.inl ⟨i,rfl,.inr ⟨h2,rfl⟩⟩⟩
    .simp only[h1,h2,dC]at g
  | bl c=>
   rw[vV rv]
   by_cases h1:T="int"\/T="bool"
   .simp only[h1,cU]at g;exact⟨_,uK,_,T,true,rfl,no g,.inr<|.inl ⟨c,rfl,h1,rfl⟩⟩
   .simp only[h1,dC]at g
  | tup l=>
   obtain⟨a,vs,rfl,c,rs⟩:=rv.one
   by_cases h1:T="tuple"
   .simp only[h1,cU]at g;exact⟨_,uK,_,T,true,rfl,no g,.inr<|.inr<|.inl ⟨a,vs,rfl,c,.inl ⟨h1,rfl⟩⟩⟩
   .by_cases h2:T="int"\/T="list"
    .simp only[h1,h2,cU,dC]at g;exact⟨_,uK,_,T,false,rfl,no g,.inr<|.inr<|.inl ⟨a,vs,rfl,c,.inr ⟨h2,rfl⟩⟩⟩
    .simp only[h1,h2,dC]at g
  | lst l=>
   obtain⟨a,vs,rfl,c,rs⟩:=rv.one
   by_cases h1:T="list"
   .simp only[h1,cU]at g;exact⟨_,uK,_,T,true,rfl,no g,.inr<|.inr<|.inr ⟨a,vs,rfl,SqL.of c,.inl ⟨h1,rfl⟩⟩⟩
   .by_cases h2:T="int"\/T="tuple"
    .simp only[h1,h2,cU,dC]at g;exact⟨_,uK,_,T,false,rfl,no g,.inr<|.inr<|.inr ⟨a,vs,rfl,SqL.of c,.inr ⟨h2,rfl⟩⟩⟩
    .simp only[h1,h2,dC]at g
  | _=>exact(show False from g).elim
 | _=>exact(show False from g).elim
theorem c68 {T:String}(hg:Gl X x)(hm:X.mg x=none)(hv:bootBuiltins x=some (.type T))(hn:⇑(x≠"__name__"))(hd:⇑((x==("__debug__":Str))=false)):PU X (.Name x p) (uC<|.ty T):=
 b91 (dM4 (v:= .ty T) hg hm hv rfl hn hd) λA H=>by simp only[Rep]
noncomputable def init (N:List Str)(ds:List D):Ev:=ds.map (λd=>some (.pu d))++replicate (N.length-ds.length) none
theorem a88 {ds:List D}{z:B}(h:(init N ds)[i]? =some (some z)): ∃d,z= .pu d/\ds[i]? =some d:=by
 unfold init at h
 by_cases hi:i<ds.length
 .rw[zD<|by simpa using hi,bO]at h
  cases e:ds[i]? with
  | none=>rw[e]at h;cases h
  | some d=>rw[e]at h;cases h;exact⟨d,rfl,rfl⟩
 .rw[tP<|by simpa using hi,List.getElem?_replicate]at h
  split at h<;>cases h
theorem bY4 {ds:List D}{vs:List V}(hA: ∀a,A a->H a≠none)(r:bS K A H ds vs):EOk K ⟨H,A⟩ (init N ds) (L2.start N vs) H:=by
 have own: ∀a,¬Own (init N ds) (L2.start N vs) a:=λa ⟨i,l,h1,_⟩=>by
  obtain⟨d,e,_⟩:=a88 h1;cases e
 refine⟨?_,λi d h=> ?_,λi l h=> ?_,λi j l l' a h=> ?_,λi l h=> ?_,.refl _,hA⟩
 .unfold init L2.start;simp[r.length]
 .obtain⟨d',e,e2⟩:=a88 h;cases e;obtain⟨v,h1,h2⟩:=r.get e2;refine⟨v,?_,h2.mono<|.sub (.refl _) λa z=>z.elim id λz=>absurd z (own a)⟩
  unfold L2.start;have hv:i<vs.length:=(jY.mp h1).1;rw[zD<|by simpa using hv,bO,h1]
  rfl
 .obtain⟨d',e,_⟩:=a88 h;cases e
 .obtain⟨d',e,_⟩:=a88 h;cases e
 .obtain⟨d',e,_⟩:=a88 h;cases e
theorem bY5 {K:PySem.W.Frag}{ps:List Str}(F:Fun K x qual st f fd)(S:aY N ps (aF st))
  (len: ∀ds Q,φ ds Q->ds.length=ps.length)
  (body: ∀(cdv:Value) (A:Around) (outer:List Env) (s:Shared) (H:Hp) (E:XK),gS k (A.deeper<|envOfC qual (aF st) s.heap.objs.size f cdv)->
   ∃t,pF (sY CX0 P w K mg base N qual (aF st) f cdv A outer s H E).nox (dY st) t/\ ∀ds Q,φ ds Q->t {nx:=λ_=>Q (.pu .non),rt:=Q} (init N ds)) :
  rW P w K mg base CX0 (k+1) f fd ps (spP K φ):=by
 refine F.ok S (λvs H Q E h=> ?_) (λcdv A outer s H vs Q E hr h=> ?_)
 .obtain⟨A,ds,Q0,_,r,h,_⟩:=h;rw[<-r.length];exact len ds Q0 h
 .obtain⟨A',ds,Q0,hA,r,h,q⟩:=h;obtain⟨t,ht,hq⟩:=body cdv A outer s H E hr;refine⟨_,ht,⟨H,A'⟩,init N ds,_,bY4 hA r,hq ds Q0 h,⟨λρ σ H' z I=> ?_,λb v H' z s r=>q b v H' z s r,λ_ _ _ z=>z.elim,λ_ _ _ z=>z.elim⟩⟩
  exact q _ _ H' z I.ext (show Rep _ _ _ _ _ by simp only[Rep])
end
structure Fn (P:Program)(w:World)(K:PySem.W.Frag)(mg:Str->Option Value)(base:Heap)(x:Str)(ps:List Str)(k:Nat)(φ:Φ):Prop where
 ex: ∃f fd,rW P w K mg base CX0 k f fd ps (spP K φ)/\Binds K fd ps []/\keepIn K (.ref f)=true/\mg x=some (.ref f)
section
variable {X:Cx}{e:Expr}{es:List Expr}{pos:Pos}
theorem vW {ps:List Str}{t:UA}(F:Fn X.prog X.w X.K X.mg X.base x ps k φ)(hr:gS k' X.A)(hk:k<=k')(hg:Gl X x)(ha:PUA X (e::es) t)(hdb:⇑((x==("__debug__":Str))=false))
  (he:↥(starEach (e::es) X.env=(false,eval e X.env)::starEach es X.env)) (hpl:↥((backTo pos<|starEach es X.env).any (·.1)=false)):PU X (.Call (.Name x p) (e::es) [] pos) (aR φ t):=by
 obtain⟨f,fd,G,b,kp,m⟩:=F.ex;exact dO6 (E:=E0) G (hr.mono hk) hg m kp b (λ_ _ _ _ _ _ _ h=>h.elim) ha hdb he hpl
theorem d88 {ps:List Str}(F:Fn X.prog X.w X.K X.mg X.base x ps k φ)(hr:gS k' X.A)(hk:k<=k')(hg:Gl X x)(hdb:⇑((x==("__debug__":Str))=false)):PU X (.Call (.Name x p) [] [] pos) (aR φ aM):=by
 obtain⟨f,fd,G,b,kp,m⟩:=F.ex;exact d80 (E:=E0) G (hr.mono hk) hg m kp b (λ_ _ _ _ _ _ _ h=>h.elim) hdb
theorem il (hn:X.N.length=n)(h:i<n): ∀pins σ H s,Inv X pins σ H s->i<σ.length:=λ_ _ _ _ I=>by rw[I.len,hn];exact h
end
theorem Fn.mk' {ps:List Str}(F:Fun K x qual st f fd)(m:mg x=some (.ref f))(b:Binds K fd ps [])(S:aY N ps (aF st))
  (len: ∀ds Q,φ ds Q->ds.length=ps.length) {t:US}
  (der: ∀(cdv:Value) (A:Around) (outer:List Env) (s:Shared) (H:Hp) (E:XK),gS k (A.deeper<|envOfC qual (aF st) s.heap.objs.size f cdv)->pF (sY CX0 P w K mg base N qual (aF st) f cdv A outer s H E).nox (dY st) t)
  (rd: ∀ds Q,φ ds Q->t {nx:=λ_=>Q (.pu .non),rt:=Q} (init N ds)):Fn P w K mg base x ps (k+1) φ:=
 ⟨f,fd,bY5 F S len λcdv A outer s H E hr=>⟨t,der cdv A outer s H E hr,rd⟩,b,F.kp,m⟩
def bQ7:Φ:=λds Q=> ∃ns:List Int,ds=[.rol<|ns.map .int]/\ns.length<=63/\Q (.pu<|.bl true)
theorem bQ8 {K:PySem.W.Frag}{A:AS}{H:Hp}: ∀ns:List Int,bS K A H (ns.map .int) (ns.map V.int)
 | []=> .nil
 | n::ns=> .cons (by simp only[Rep]) (bQ8 ns)
theorem law_sp {H:Hp}{ns:List Int}(hl:ns.length<=63)(hS:SqL K H a (ns.map V.int)):spP K bQ7 [.ref a] H (λv _=>v= .bl true) (λ_ _ _=>False):=by
 refine⟨λ_=>False,[.rol<|ns.map .int],λb=>b= .pu (.bl true),λ_ z=>z.elim,.cons ?_ .nil,⟨ns,rfl,hl,rfl⟩,λb v H' q s r=> ?_⟩
 .simp only[Rep];exact⟨a,_,rfl,hS.imp (λz=>⟨λz=>z,z⟩) id,bQ8 ns⟩
 .subst q;have r':Rep K (λ_=>False) H' (.bl true) v:=r
  exact vV r'
theorem walkM {l:PySem.W.OpenLaw}{XP:(Str->Option Value)->Heap->Prop}{d:DefRec}{K:Params->PySem.W.Frag}(hn:l.most=some 63)(hdf:d.params.defaults=[])(hr:gS k callerA)
  (hY: ∀(w:World) (h:Heap),YP w h->(K w.params).In h)
  (F: ∀(w:World) (mg:Str->Option Value) (fa:Addr) (h:Heap),(K w.params).In h->h.Ns mainGlobals mg->mg d.name=some (.ref fa)->
   ∃fd:FuncData,(∀(s:Shared) (u:Value),BindsTo s fd ⟨[u],[]⟩ [(x,u)])/\ ∀base:Heap,(K w.params).In base->base.Ns mainGlobals mg->rW l.prog w (K w.params) mg base CX0 k fa fd [x] (spP (K w.params) bQ7)) :
  PySem.W.WalkO q loose XP YP l.row.toRowW d [] (λf vs=>PySem.call f vs):=
 L2.walk_of (n:=63) (k:=k) (x:=x) (CX:=λ_=>CX0) (sp:=λw=>spP (K w.params) bQ7) hn ac hdf hr hY F (λ_ _ a ns hl _ hS=>law_sp hl hS) λ_ _ _ _ _ z=>z
end M
section
namespace L2
noncomputable def cH (X:Cx)(N:List Str)(scope:Scope)(cl:List (Str×Addr))(C:Addr)(s:Shared)(H:Hp)(fp:List Addr)(pins:List (Addr×Obj)):Cx where
 prog:=X.prog
 w:=X.w
 K:=X.K
 mg:=X.mg
 base:=X.base
 A:=X.A
 N:=N
 s₀:=s
 H₀:=H
 env:=compEnvC scope cl C X.env
 outer:=X.stack
 stack:=X.stack
 ex:=fp
 fn:=λx=>scope.names.lookup x==some .cell
 calm:=X.calm
 pn:=X.pn++pins
 xe:=λ_ _=>False
theorem a24 {env:Env}: ∀(names:List (Str×NameKind)),(∀y∈names,y.2= .free-> ∃c,env.cells.lookup y.1=some c)-> ∀cs:List (Str×Addr),(∀x c,cs.lookup x=some c->env.cells.lookup x=some c)->
  ∃cl,(forIn names cs fun(x:Str×NameKind) r=>(do if(x.2==NameKind.free)=true then do let c<-cellOf env x.1;pure (ForInStep.yield ((x.1,c)::r))else pure (ForInStep.yield r)):Sem (List<|Str×Addr))=pure cl/\
   (∀x c,cl.lookup x=some c->env.cells.lookup x=some c)/\(∀x c,cs.lookup x=some c-> ∃c',cl.lookup x=some c')/\ ∀y∈names,y.2= .free-> ∃c,cl.lookup y.1=some c
 | [],_,cs,hcs=>⟨cs,rfl,hcs,λx c h=>⟨c,h⟩,λy hy=>by simp at hy⟩
 | (n,k)::r,h,cs,hcs=>by
  have hr: ∀y∈r,y.2= .free-> ∃c,env.cells.lookup y.1=some c:=λy hy=>h y (eM _ hy)
  by_cases hk:k= .free
  .subst hk;obtain⟨c,hc⟩:=h (n,.free) hG rfl;have e1:cellOf env n=pure c:=by unfold cellOf;rw[hc]
   have hcs': ∀x c',List.lookup x ((n,c)::cs)=some c'->env.cells.lookup x=some c':=λx c' q=>by
    rw[dA]at q;split at q
    .rename_i e
     have:x=n:=by simpa using e
     subst this;cases q;exact hc
    .exact hcs x c' q
   obtain⟨cl,h1,h2,h3,h4⟩:=a24 r hr ((n,c)::cs) hcs';have hn: ∃c',cl.lookup n=some c':=h3 n c (by rw[dA];simp)
   refine⟨cl,?_,h2,λx c' q=> ?_,λy hy hf=> ?_⟩
   .rw[a02];show(do let c<-cellOf env n;pure (ForInStep.yield ((n,c)::cs))) >>= _=_;rw[e1];exact h1
   .by_cases z:x=n
    .subst z;exact hn
    .refine h3 x c' ?_
     rw[dA];have:(x==n)=false:=by simpa using z
     rw[this];exact q
   .rcases aZ.mp hy with rfl|hy
    .exact hn
    .exact h4 y hy hf
  .obtain⟨cl,h1,h2,h3,h4⟩:=a24 r hr cs hcs;refine⟨cl,?_,h2,h3,λy hy hf=> ?_⟩
   .rw[a02];have:(k==NameKind.free)=false:=by simpa using hk
    show(if(k==NameKind.free)=true then _ else _) >>= _=_
    rw[this];exact h1
   .rcases aZ.mp hy with rfl|hy
    .exact absurd hf hk
    .exact h4 y hy hf
structure gH (env:Env)(XN N:List Str)(cap:List (Option Nat))(scope:Scope):Prop where
 kind:scope.kind= .function
 owns: ∀y∈scope.names,y.2= .cell->scope.names.lookup y.1=some .cell
 freeK: ∀y∈scope.names,y.2= .free->scope.names.lookup y.1=some .free
 names: ∀y∈scope.names,y.2= .local->scope.names.lookup y.1=some .local
 frees: ∀y∈scope.names,y.2= .free->env.kindOf y.1=some .cell\/env.kindOf y.1=some .free
 caps: ∀(i j:Nat) (x:Str),N[i]? =some x->cap[i]? =some (some j)->XN[j]? =some x/\(x,NameKind.free)∈scope.names/\scope.names.lookup x=some .free
 len:cap.length=N.length
noncomputable def vX (σ:L2.St)(cap:List (Option Nat))(last:Nat)(D:Addr):L2.St:=(cap.map λc=>c.bind λj=>(σ[j]?).join).set last (some<|.ref D)
theorem a89 {env:Env}{x:Str}{k:NameKind}: ∀{names:List (Str×NameKind)},names.lookup x=some k->
  (names.map fun(n,k)=>if(k==NameKind.free&&env.scope.kind== .function&&env.kindOf n==some .cell)then(n,NameKind.cell)else(n,k)).lookup x=
   some (if(k==NameKind.free&&env.scope.kind== .function&&env.kindOf x==some .cell)then NameKind.cell else k)
 | [],h=>by simp at h
 | (n,k')::r,h=>by
  rw[cF];rw[dA]at h;dsimp only
  by_cases e:(x==n)=true
  .have e':x=n:=by simpa using e
   subst e';rw[e]at h;cases h;split<;>simp
  .have e2:(x==n)=false:=by simpa using e
   rw[e2]at h;have ih:=a89 (env:=env) h;split
   .rw[dA,e2];exact ih
   .rw[dA,e2];exact ih
theorem oP {env:Env}{x:Str}{k:NameKind}: ∀{names:List (Str×NameKind)},(names.map fun(n,k)=>if(k==NameKind.free&&env.scope.kind== .function&&env.kindOf n==some .cell)then(n,NameKind.cell)else(n,k)).lookup x=some k->
  ∃k',names.lookup x=some k'/\(x,k')∈names/\(k=k'\/k'= .free)
 | [],h=>by simp at h
 | (n,k')::r,h=>by
  rw[cF]at h;dsimp only at h
  by_cases e:(x==n)=true
  .have e':x=n:=by simpa using e
   subst e';refine⟨k',by rw[dA,e],hG,?_⟩
   split at h
   .rename_i c
    right
    simp only[dZ,fO]at c;exact c.1.1
   .rw[dA,e]at h;cases h;exact .inl rfl
  .have e2:(x==n)=false:=by simpa using e
   have h':(r.map fun(n,k)=>if(k==NameKind.free&&env.scope.kind== .function&&env.kindOf n==some .cell)then(n,NameKind.cell)else(n,k)).lookup x=some k:=by
    split at h
    .rw[dA,e2]at h;exact h
    .rw[dA,e2]at h;exact h
   obtain⟨k2,h1,h2,h3⟩:=oP h';exact⟨k2,by rw[dA,e2];exact h1,eM _ h2,h3⟩
theorem aY5 {x:Str}{c:Addr}: ∀(names:List (Str×NameKind)) (h:Heap) (acc:List (Str×Addr)),(cellsFrom h.objs.size names acc).lookup x=some c->
  acc.lookup x=some c\/(h.objs.size<=c/\(x,NameKind.cell)∈names/\(pushCells h names).IsCell c none)
 | [],_,_,e=> .inl e
 | (y,k)::r,h,acc,e=>by
  unfold cellsFrom at e;unfold pushCells
  by_cases hk:(k==NameKind.cell)=true
  .rw[a7 hk]at e⊢;have hk':k= .cell:=by simpa using hk
   have sz:(h.push {cls:= .type "cell",data:= .cell none}).objs.size=h.objs.size+1:=jC ..;rw[<-sz]at e;rcases aY5 r _ _ e with q| ⟨q1,q2,q3⟩
   .rw[dA]at q;split at q
    .rename_i e1
     have:x=y:=by simpa using e1
     subst this;cases q;exact .inr ⟨aG _,by rw[hk'];exact hG,⟨_,aP0 _ _ _ _<|bV _ rfl,rfl⟩⟩
    .exact .inl q
   .exact .inr ⟨ad,eM _ q2,q3⟩
  .rw[a6 hk]at e⊢;rcases aY5 r h acc e with q| ⟨q1,q2,q3⟩
   .exact .inl q
   .exact .inr ⟨q1,eM _ q2,q3⟩
theorem aY6: ∀(names:List (Str×NameKind)) (n:Nat) (acc:List (Str×Addr)),(∀x c,acc.lookup x=some c->c<n)->(∀x y c,acc.lookup x=some c->acc.lookup y=some c->x=y)->
  ∀x y c,(cellsFrom n names acc).lookup x=some c->(cellsFrom n names acc).lookup y=some c->x=y
 | [],_,_,_,hi=>hi
 | (z,k)::r,n,acc,hl,hi=>by
  unfold cellsFrom
  by_cases hk:(k==NameKind.cell)=true
  .rw[a7 hk];refine aY6 r (n+1) _ (λx c e=> ?_) (λx y c e1 e2=> ?_)
   .rw[dA]at e;split at e
    .cases e;exact pZ n
    .exact kZ (hl x c e)
   .rw[dA]at e1 e2;split at e1
    .rename_i q1
     cases e1;split at e2
     .rename_i q2
      exact(by simpa using q1:x=z).trans (by simpa using q2:y=z).symm
     .exact absurd (hl y _ e2) (d3 _)
    .split at e2
     .cases e2;exact absurd (hl x _ e1) (d3 _)
     .exact hi x y c e1 e2
  .rw[a6 hk];exact aY6 r n acc hl hi
theorem tI {x:Str}{c:Addr}: ∀(names:List (Str×NameKind)) (n:Nat) (acc:List (Str×Addr)),((x,NameKind.cell)∈names\/ ∀c,acc.lookup x=some c->n<=c)->(cellsFrom n names acc).lookup x=some c->n<=c
 | [],_,_,h,e=>by
  rcases h with h|h
  .simp at h
  .exact h c e
 | (z,k)::r,n,acc,h,e=>by
  unfold cellsFrom at e
  by_cases hk:(k==NameKind.cell)=true
  .rw[a7 hk]at e;have hk':k= .cell:=by simpa using hk
   rcases h with h|h
   .rcases aZ.mp h with h|h
    .cases h;have:n<=c:=by
      by_cases q: ∃c',(cellsFrom (n+1) r ((x,n)::acc)).lookup x=some c'/\(x,NameKind.cell)∈r
      .obtain⟨c',e',m⟩:=q;have:=tI (c:=c) r (n+1) _ (.inl m) e
       lia
      .have nm:(x,NameKind.cell) ∉ r:=λm=>q ⟨c,e,m⟩
       have:=cells_keep r (n+1) ((x,n)::acc) nm;rw[this,dA]at e;simp at e;exact le_of_eq e
     exact this
    .have:=tI (c:=c) r (n+1) _ (.inl h) e
     lia
   .by_cases q:(x,NameKind.cell)∈r
    .have:=tI (c:=c) r (n+1) _ (.inl q) e
     lia
    .have:=cells_keep r (n+1) ((z,n)::acc) q;rw[this,dA]at e;split at e
     .cases e;exact aG _
     .exact h c e
  .rw[a6 hk]at e;refine tI (c:=c) r n acc (h.imp (λm=> ?_) id) e
   rcases aZ.mp m with m|m
   .cases m;exact absurd ac hk
   .exact m
where
 cells_keep {x:Str}: ∀(names:List (Str×NameKind)) (n:Nat) (acc:List (Str×Addr)),(x,NameKind.cell) ∉ names->(cellsFrom n names acc).lookup x=acc.lookup x
 | [],_,_,_=>rfl
 | (z,k)::r,n,acc,h=>by
  unfold cellsFrom
  by_cases hk:(k==NameKind.cell)=true
  .rw[a7 hk];have hk':k= .cell:=by simpa using hk
   rw[cells_keep r (n+1) _ λm=>h (eM _ m),dA]
   split
   .rename_i e
    have:x=z:=by simpa using e
    subst this;exact absurd (by rw[hk'];exact hG) h
   .rfl
  .rw[a6 hk];exact cells_keep r n acc λm=>h (eM _ m)
theorem cells_keep (names:List (Str×NameKind))(n:Nat)(acc:List (Str×Addr))(h:(x,NameKind.cell) ∉ names):(cellsFrom n names acc).lookup x=acc.lookup x:=tI.cells_keep names n acc h
theorem bY6 {M:Model}{globals:Addr}{env0:Env}{Q:Env->Shared->Prop}
  (hQ:Q {scope:=scope,locals:=s.heap.objs.size,globals:=globals,cells:=cellsFrom (s.heap.objs.size+1) scope.names cl,qual:=qual,func:=none,code:=env0.code,frame:=env0.frame,builtins:=env0.builtins} {s with heap:=pushCells (s.heap.push {cls:= .type "dict",data:= .dict #[]}) scope.names}) :
  wpAny M A (newFunctionEnv scope globals cl [] qual none .none<|some env0) Q E s:=by
 simp only[newFunctionEnv,Option.isSome_some,cU];refine a9 (wpAny_alloc ?_);refine a9 (wpAny_layCells _ (λname kind cells=>by cases hkc:kind==NameKind.cell<;>simp[hkc]) _ _ _ _ ?_)
 rw[show({s with heap:=s.heap.push {cls:= .type "dict",data:= .dict #[]}}:Shared).heap.objs.size=s.heap.objs.size+1 from jC ..]
 rw[forIn_nil];exact a9 (aK<|aK hQ)
section
variable {X:Cx}{pins:List (Addr×Obj)}{σ:L2.St}{H:Hp}{s:Shared}{N:List Str}{cap:List (Option Nat)}{scope:Scope}
theorem c69 {D:Addr}{cl0:List (Str×Addr)}{h1:Heap}{m0:Str->Option Value}(S:gH X.env X.N N cap scope)(I:Inv X pins σ H s)(hf: ∀b∈fp,aY0 X pins H b)(hfs: ∀b∈fp,b<s.heap.objs.size)
  (hcl: ∀x c,cl0.lookup x=some c->X.env.cells.lookup x=some c) (hcl2: ∀y∈scope.names,y.2= .free-> ∃c,cl0.lookup y.1=some c) (hN: ∀x,N[last]? =some x->scope.names.lookup x=none)
  (hns:h1.Ns s.heap.objs.size m0) (hk: ∀b o,s.heap.get? b=some o->h1.get? b=some o)
  (c1: ∀x c,cl.lookup x=some c->cl0.lookup x=some c\/(s.heap.objs.size<c/\h1.IsCell c none)) (c2: ∀x y c,cl.lookup x=some c->cl.lookup y=some c->x=y)
  (c3: ∀x,(x,NameKind.free)∈scope.names->cl.lookup x=cl0.lookup x) (c4: ∀x,scope.names.lookup x=some .cell-> ∃c,cl.lookup x=some c) (c5: ∀x c,scope.names.lookup x=some .cell->cl.lookup x=some c->s.heap.objs.size<=c) :
  Inv (cH X N scope cl s.heap.objs.size s H fp pins) [] (vX σ cap last D) H {s with heap:=h1,toks:=tk}:=by
 have sz:X.base.objs.size<=s.heap.objs.size:=aI I.ok.bsz I.sz;have kindF: ∀x,(cH X N scope cl s.heap.objs.size s H fp pins).env.kindOf x=some .cell\/(cH X N scope cl s.heap.objs.size s H fp pins).env.kindOf x=some .free->(x,NameKind.free)∈scope.names\/scope.names.lookup x=some .cell:=λx h=>by
  have: ∃k,(k= .cell\/k= .free)/\(relabel scope X.env).names.lookup x=some k:=by
   rcases h with h|h
   .exact⟨_,.inl rfl,h⟩
   .exact⟨_,.inr rfl,h⟩
  obtain⟨k,hk,h⟩:=this;obtain⟨k',h1,h2,h3⟩:=oP h;rcases h3 with rfl|rfl
  .rcases hk with rfl|rfl
   .exact .inr (S.owns _ h2 rfl)
   .exact .inl h2
  .exact .inl h2
 have cne: ∀x c,cl.lookup x=some c-> ∀b∈fp,c≠b:=λx c h b hb=>by
  rcases c1 x c h with q| ⟨q,_⟩
  .exact(hf b hb).2.2.2.2.1 x c (hcl x c q)
  .exact λz=>by subst z;exact absurd (Nat.lt_trans q<|hfs c hb) (d3 _)
 refine⟨⟨I.ok.mod,S.kind,I.ok.glob,I.ok.blt,aG _,c2,λx h=> ?_,λx c h e=> ?_,I.ok.hd,I.ok.frames,.inl rfl,λb hb=> ?_,I.bs,sz,λb o e hb=> ?_,λb hb=> ?_,I.stack,I.stkFree⟩,
  rfl,I.bare,Un.kept hk,⟨m0,hns,λi x v e1 e2 e3=> ?_⟩,λx c h=> ?_,I.hok.fresh<|aG _,λx c h=> ?_,λp hp=> ?_,I.hok.kept hk,?_⟩
 .rcases kindF x h with q|q
  .obtain⟨c,e⟩:=hcl2 _ q rfl;exact⟨c,(c3 x q).trans e⟩
  .exact c4 x q
 .exact c5 x c (by simpa using(show(scope.names.lookup x==some NameKind.cell)=true from h)) e
 .exact⟨bF<|hfs b hb,λx c h=>cne x c h b hb⟩
 .rcases(hf b hb).2.2.2.1 with z|z
  .exact I.ok.noex b o e z
  .have:=aW e;exact absurd (b9 this<|aI I.ok.bsz z) (d3 _)
 .intro z;rcases aZ.mp (I.stkSub b z)with z|z
  .exact(hf b hb).2.1 z
  .exact(hf b hb).2.2.1 z
 .have e1':N[i]? =some x:=e1;unfold vX at e2
  by_cases hl:last=i
  .subst hl;have z:=hN x e1';rcases e3 with e3|e3|e3
   .obtain⟨k',h1,_⟩:=oP (show(relabel scope X.env).names.lookup x=_ from e3)
    rw[z]at h1;cases h1
   .obtain⟨k',h1,_⟩:=oP (show(relabel scope X.env).names.lookup x=_ from e3)
    rw[z]at h1;cases h1
   .obtain⟨k',h1,_⟩:=oP (show(relabel scope X.env).names.lookup x=_ from e3)
    rw[z]at h1;cases h1
  .rw[M.get_set_ne hl,bO]at e2;cases e4:cap[i]? with
   | none=>rw[e4]at e2;cases e2
   | some c=>
    rw[e4]at e2;cases c with
    | none=>cases e2
    | some j=>
     have e2':(σ[j]?).join=some v:=by simpa using e2
     have e5:σ[j]? =some (some v):=by
      cases q:σ[j]? with
      | none=>rw[q]at e2';cases e2'
      | some w=>rw[q]at e2';cases w with
       | none=>cases e2'
       | some w'=>cases e2';rfl
     obtain⟨a1,a2,a3⟩:=S.caps i j x e1' e4;have kx:=S.frees _ a2 rfl;obtain⟨m,hn,hl'⟩:=I.loc;have vis:Vis X.env.scope x:=by
      rcases kx with kx|kx
      .exact .inr (.inl kx)
      .exact .inr (.inr kx)
     obtain⟨u,r,l⟩:=hl' j x v a1 e5 vis;refine⟨u,r,.inr ⟨?_,?_⟩⟩
     .have q:=a89 (env:=X.env) a3;show(relabel scope X.env).names.lookup x=_\/(relabel scope X.env).names.lookup x=_;unfold relabel;dsimp only;rw[q];split
      .exact .inl rfl
      .exact .inr rfl
     .rcases l with⟨l,_⟩| ⟨_,c,hc,hcell⟩
      .rcases kx with kx|kx<;>·rw[kx]at l;cases l
      .obtain⟨c',hc'⟩:=hcl2 _ a2 rfl;have:=hcl x c' hc';rw[hc]at this;cases this;obtain⟨o,ho,hd⟩:=hcell;exact⟨c,(c3 x a2).trans hc',o,hk _ _ ho,hd⟩
 .rcases c1 x c h with q| ⟨_,q⟩
  .obtain⟨v,o,ho,hd⟩:=I.cell x c (hcl x c q);exact⟨v,o,hk _ _ ho,hd⟩
  .exact⟨_,q⟩
 .rcases c1 x c h with q| ⟨q,_⟩
  .exact I.freeC x c (hcl x c q)
  .exact I.hok.fresh (nW q)
 .have hp':p∈X.pn++pins:=by
   have:p∈(X.pn++pins)++[]:=hp
   simpa using this
  obtain⟨a1,a2,a3,a4,a5⟩:=I.pin p hp';refine⟨hk _ _ a1,a2,bF<|aW a1,λz=> ?_,a5⟩
  rcases aZ.mp (I.stkSub p.1 z)with z|z
  .exact a3 z
  .exact a4 z
 .unfold vX;rw[fB,aP];exact S.len
theorem bQ9 {σ':L2.St}{H':Hp}{h2:Heap}{pins':List (Addr×Obj)}(I:Inv X pins σ H s)(hf: ∀b∈fp,aY0 X pins H b)(hC:s.heap.objs.size<=C)
  (I':Inv (cH X N scope cl C s H fp pins) pins' σ' H' s') (hs:SameBut C s'.heap h2):Inv X pins σ H' {s' with heap:=h2}:=by
 have nC: ∀b o,s.heap.get? b=some o->b≠C:=λb o e z=>by
  subst z;exact absurd (b9 (aW e) hC) (d3 _)
 have get: ∀b,b≠C->h2.get? b=s'.heap.get? b:=λb hb=>hs.2 b hb
 have U:=I'.base;have u:Un (frs X.stack) fp H H' s.heap h2:=by
  refine⟨λb o e n h1 hx=> ?_,λb o e n h1 hx=> ?_,U.free,λb o e hx=> ?_,U.tups,U.frzs,U.tbls⟩
  .rw[get b<|nC b o e];exact U.keep b o e n h1 hx
  .rw[get b<|nC b o e];exact U.slot b o e n h1 hx
  .rw[get b<|nC b o e];exact U.there b o e hx
 have fC:H' C=none:=I'.free;have hok:HOk X.prog X.w H' h2:=λa o e=>by
  have na:a≠C:=λz=>by subst z;rw[fC]at e;cases e
  refine(I'.hok a o e).stay (λb u hb q=> ?_) (λ_ q=>q) λ_ _ q=>q
  have nb:b≠C:=by
   rcases hb with rfl|hb
   .exact na
   .exact λz=>by subst z;rw[fC]at hb;cases hb
  rw[get b nb];exact q
 obtain⟨hh,gg,dd,tt,oo⟩:=s';have eo:oo=s.os:=I'.os;subst eo;have fin:=I.call (h':=h2) (g':=gg) (d':=dd) (t':=tt) (ch:=fp) u hok I'.bare λb hb=>⟨(hf b hb).2.2.2.1,(hf b hb).2.1,(hf b hb).2.2.2.2.1,(hf b hb).2.2.2.2.2⟩
 exact fin
end
theorem a90 {prog:Program}{w:World}{A:Around}{R:Result->Shared->Prop}{s:Shared}{elt target iter:Expr}{ifs:List Expr}{scope:Scope}{pos:Pos}{it acc:Value}{env:Env}(I:Nat->Shared->Prop)
  (turn: ∀n s,I n s->wpAny (model prog w) A (pyNext it) (λr s₁=>match r with
   | none=>R (.ok .next) s₁
   | some v=>wpAny (model prog w) A (letOwnedTupleGo target it v) (λ_ s₂=>wpAny (model prog w) A (assign target env v) (λ_ s₂=>
     wpAny (model prog w) A (forIn ifs true λc r=>if r=true then do let ok<-isTrue c env (eval c env);pure (ForInStep.yield ok)else pure (ForInStep.yield r)) (λok s₃=>
      if ok=true then wpAny (model prog w) A (eval elt env) (λx s₄=>
       wpAny (model prog w) A (call (.builtin "list.append") [acc,x]) (λ_ s₅=> ∃m,m<n/\I m s₅) (notedBy (model prog w) A env λe s'=>R (.error e) s') s₄) (notedBy (model prog w) A env λe s'=>R (.error e) s') s₃
      else ∃m,m<n/\I m s₃) (notedBy (model prog w) A env λe s'=>R (.error e) s') s₂) (notedBy (model prog w) A env λe s'=>R (.error e) s') s₂) (notedBy (model prog w) A env λe s'=>R (.error e) s') s₁) (notedBy (model prog w) A env λe s'=>R (.error e) s') s)
  (n:Nat) (h:I n s):codeAny (model prog w) A (.compLoop (.ListComp elt [⟨target,iter,ifs,0⟩] scope pos) 0 it acc env) R s:=by
 refine codeAny_loop rfl I (λn s hI=> ?_) n h
 show wpAny _ A ((compTurn (.ListComp elt [⟨target,iter,ifs,0⟩] scope pos) 0 it acc env).onRaise (λx=>do noteFrame x env;theTreesLotGoes x)) _ _ s
 refine wpAny_noted ?_
 rw[compTurn_list];refine a9 (qB<|a9<|bJ (turn n s hI) (λr s₁ h₁=> ?_) λ_ _ h'=>h')
 cases r with
 | none=>exact aK h₁
 | some v=>
  refine a9 (bJ h₁ (λ_ s₂ h₂=>a9 (bJ h₂ (λ_ s₂ h₂=>a9 (bJ h₂ (λok s₃ h₃=> ?_) λ_ _ h'=>h')) λ_ _ h'=>h')) λ_ _ h'=>h')
  cases ok with
  | false=>exact aK ⟨rfl,h₃⟩
  | true=>
   exact a9 (a9<|bJ h₃ (λx s₄ h₄=>a9 (bJ h₄ (λ_ s₅ h₅=>aK (aK ⟨rfl,h₅⟩)) λ_ _ h'=>h')) λ_ _ h'=>h')
def PTs (X:Cx)(ifs:List Expr)(t:TT):Prop:=
 ∀(pins:List (Addr×Obj)) (s:Shared) (σ:L2.St) (H:Hp) (Q:Bool->Hp->Prop),Inv X pins σ H s->t σ H Q->
  wpAny (model X.prog X.w) X.A (forIn ifs true λc r=>if r=true then do let ok<-isTrue c X.env (eval c X.env);pure (ForInStep.yield ok)else pure (ForInStep.yield r)) (TP X pins σ Q) X.xe s
theorem dP3 {X:Cx}:PTs X [] (λ_ H Q=>Q true H):=λpins s σ H Q I h=>wpAny_tests_nil ⟨H,I,h⟩
theorem dP4 {X:Cx}{t:TT}(h:PT X c t):PTs X [c] t:=λpins s σ H Q I q=>wpAny_tests_one (h pins s σ H Q I q)
def cQ5 (cap:List (Option Nat))(last:Nat)(wi:TI)(g:TG)(tt:TT)(te:TE):TE:=λσ H Q=>wi σ H λJ H1=> ∀D,H1 D=none-> ∃W:Nat->Nat->L2.St->Hp->Prop,(∃m,W 0 m (vX σ cap last D)<|upd H1 D<|.lst [])/\ ∀i m σ' H',W i m σ' H'->
 (J.stop i H'/\Q (.ref D) H')\/(J.go i H'/\ ∃Nx:L2.St->Hp->Prop,(∀σ2 H2,Nx σ2 H2-> ∃m',m'<m/\W (i+1) m' σ2 H2)/\ ∀x H2,J.yld i H' x H2->g x σ' H2 λσ3 H3=>tt σ3 H3 λc H4=>
  if c=true then te σ3 H4 λy H5=> ∃ys,H5 D=some (.lst ys)/\ys.length<sizeLine/\Nx σ3 (upd H5 D<|.lst<|ys++[y])else Nx σ3 H4)
theorem bR0 {X:Cx}{RR:Value->Addr->Result->Shared->Prop}{wi:TI}{g:TG}{tt:TT}{te:TE}(hc:X.calm=true)(hi:PI X tg iter wi)(S:gH X.env X.N N cap scope)
  (hN: ∀x,N[last]? =some x->scope.names.lookup x=none)
  (hg: ∀cl C s H fp pins,PG (cH X N scope cl C s H fp pins) tg g) (ht: ∀cl C s H fp pins,PTs (cH X N scope cl C s H fp pins) ifs tt) (he: ∀cl C s H fp pins,PE (cH X N scope cl C s H fp pins) elt te)
  {pins:List (Addr×Obj)} {s:Shared} {σ:L2.St} {H:Hp} {Q:VK} {cl:List (Str×Addr)} (I:Inv X pins σ H s) (h:cQ5 cap last wi g tt te σ H Q) (hcl: ∀x c,cl.lookup x=some c->X.env.cells.lookup x=some c) (hcl2: ∀y∈scope.names,y.2= .free-> ∃c,cl.lookup y.1=some c)
  (fin: ∀(D:Addr) (fp:List Addr) (H3:Hp) (s3:Shared) (σ':L2.St) (H':Hp) (s':Shared),Inv X pins σ H3 s3->(∀b∈fp,aY0 X pins H3 b)->Inv (cH X N scope (cellsFrom (s3.heap.objs.size+1) scope.names cl) s3.heap.objs.size s3 H3 fp pins) [] σ' H' s'->Q (.ref D) H'->RR (.ref D) s3.heap.objs.size (.ok .next) s') :
  wpAny (model X.prog X.w) X.A (eval iter X.env) (λx s₁=>wpAny (model X.prog X.w) X.A (pyIter x) (λit s₂=>wpAny (model X.prog X.w) X.A (newList []) (λacc s₃=>
   wpAny (model X.prog X.w) X.A (newFunctionEnv scope X.env.globals cl [] X.env.qual none .none<|some X.env) (λcenv s₄=>
    codeAny (model X.prog X.w) X.A (.compStart (.ListComp elt [⟨tg,iter,ifs,0⟩] scope pos) 0 it acc {cenv with scope:=relabel scope X.env}) (RR acc cenv.locals) s₄) X.xe s₃) X.xe s₂) X.xe s₁) X.xe s:=by
 refine thn (hi pins s σ H _ I h) λxv s1 h1=>thn h1 λit s2 h2=> ?_
 obtain⟨ita,fp,tn,J,H2,rfl,I2,T,st2,f2,q⟩:=h2;refine k8 ?_ (by show 0<=sizeLine;decide)
 have fD:H2 s2.heap.objs.size=none:=I2.hok.fresh (aG _);obtain⟨W,⟨m0,w0⟩,turn⟩:=q s2.heap.objs.size fD;have I3:Inv X pins σ (upd H2 s2.heap.objs.size<|.lst []) {s2 with heap:=s2.heap.push {cls:= .type "list",data:= .seq ([]:List Value).toArray}}:=I2.lnew (t':=s2.toks) .nil (cG _);have fpne: ∀b∈fp,b≠s2.heap.objs.size:=λb hb=>by
  obtain⟨o,ho,_⟩:=T.obj 0 _ st2 b hb;exact bF (aW ho)
 have f3: ∀b∈fp,aY0 X pins (upd H2 s2.heap.objs.size<|.lst []) b:=λb hb=>⟨by rw[cL<|fpne b hb];exact(f2 b hb).1,(f2 b hb).2⟩
 have k23: ∀b o,s2.heap.get? b=some o->(s2.heap.push {cls:= .type "list",data:= .seq ([]:List Value).toArray}).get? b=some o:=λb o e=>aV _ e
 have st3:tn 0 (s2.heap.push {cls:= .type "list",data:= .seq ([]:List Value).toArray}):=T.keep 0 _ _ st2 λb hb o e=>k23 b o e
 have fps: ∀b∈fp,b< (s2.heap.push {cls:= .type "list",data:= .seq ([]:List Value).toArray}).objs.size:=λb hb=>by
  obtain⟨o,ho,_⟩:=T.obj 0 _ st3 b hb;exact aW ho
 generalize hS3:({s2 with heap:=s2.heap.push {cls:= .type "list",data:= .seq ([]:List Value).toArray}}:Shared)=s3 at I3;have hh3:s3.heap=s2.heap.push {cls:= .type "list",data:= .seq ([]:List Value).toArray}:=by rw[<-hS3]
 rw[<-hh3]at st3 fps;refine bY6 ?_;have sz3:(s3.heap.push {cls:= .type "dict",data:= .dict #[]}).objs.size=s3.heap.objs.size+1:=jC ..;have hns₁:(pushCells (s3.heap.push {cls:= .type "dict",data:= .dict #[]}) scope.names).Ns s3.heap.objs.size (λ_=>none):=(Heap.Ns.new s3.heap<|.type "dict").keeps (aP0 _ _)
 have k34: ∀b o,s3.heap.get? b=some o->(pushCells (s3.heap.push {cls:= .type "dict",data:= .dict #[]}) scope.names).get? b=some o:=λb o e=>aP0 _ _ _ _ (aV _ e)
 have I4:=c69 (tk:=s3.toks) (last:=last) (D:=s2.heap.objs.size) (cl:=cellsFrom (s3.heap.objs.size+1) scope.names cl) S I3 f3 fps hcl hcl2 hN hns₁ k34
  (λx c e=>by
   rw[<-sz3]at e;rcases aY5 _ _ _ e with q| ⟨q1,_,q3⟩
   .exact .inl q
   .exact .inr ⟨ad,q3⟩)
  (aY6 _ _ _ (λx c e=>by
   obtain⟨v,q⟩:=I3.cell x c (hcl x c e);exact kZ q.lt) λx y c e1 e2=>I3.ok.inj x y c (hcl x c e1) (hcl y c e2))
  (λx m=>cells_keep _ _ _ λm'=>by
   have h1:=S.owns _ m' rfl;have h2:=S.freeK _ m rfl;rw[h1]at h2;cases h2)
  (λx e=>zF.mp (aM5 _ _ _<|.inl e))
  (λx c e1 e2=>by
   have:=tI scope.names (s3.heap.objs.size+1) cl (.inl<|pS e1) e2
   lia)
 have st4:tn 0 (pushCells (s3.heap.push {cls:= .type "dict",data:= .dict #[]}) scope.names):=T.keep 0 _ _ st3 λb hb o e=>k34 b o e
 generalize hcl':cellsFrom (s3.heap.objs.size+1) scope.names cl=cl' at I4;have loop:codeAny (model X.prog X.w) X.A (.compLoop (.ListComp elt [⟨tg,iter,ifs,0⟩] scope pos) 0 (.ref ita) (.ref s2.heap.objs.size)<|compEnvC scope cl' s3.heap.objs.size X.env)
   (RR (.ref s2.heap.objs.size) s3.heap.objs.size) {s3 with heap:=pushCells (s3.heap.push {cls:= .type "dict",data:= .dict #[]}) scope.names,toks:=s3.toks}:=by
  have stat: ∀{H':Hp},(∀b∈fp,H' b=none)-> ∀b∈fp,aY0 (cH X N scope cl' s3.heap.objs.size s3 (upd H2 s2.heap.objs.size<|.lst []) fp pins) [] H' b:=λ{H'} hn b hb=>by
   refine⟨hn b hb,bF<|fps b hb,λz=> ?_,.inl hb,λx c e=>(I4.ok.exf b hb).2 x c e,λp hp=> ?_⟩
   .rcases aZ.mp (I3.stkSub b z)with z|z
    .exact(f3 b hb).2.1 z
    .exact(f3 b hb).2.2.1 z
   .have:p∈(X.pn++pins)++[]:=hp;exact(f3 b hb).2.2.2.2.2 p (by simpa using this)
  have hcb:(cH X N scope cl' s3.heap.objs.size s3 (upd H2 s2.heap.objs.size<|.lst []) fp pins).calm=true:=hc;refine a90 (λn s'=> ∃i σ' H',Inv (cH X N scope cl' s3.heap.objs.size s3 (upd H2 s2.heap.objs.size<|.lst []) fp pins) [] σ' H' s'/\tn i s'.heap/\(∀b∈fp,H' b=none)/\W i n σ' H') ?_ m0 ⟨0,_,_,I4,st4,λb hb=>(f3 b hb).1,w0⟩
  rintro n s5 ⟨i,σ5,H5,I5,st5,fr5,w5⟩;rcases turn i n σ5 H5 w5 with⟨stop,qn⟩| ⟨go,Nx,hNx,step⟩
  .refine bJ (T.done (cH X N scope cl' s3.heap.objs.size s3 (upd H2 s2.heap.objs.size<|.lst []) fp pins) rfl rfl rfl hcb i [] s5 σ5 H5 (λ_ _=>False) I5 (stat fr5) st5 stop) (λr s6 hr=> ?_) (λ_ _ z=>z.elim)
   obtain⟨rfl,I6⟩:=hr;exact fin _ fp _ s3 σ5 H5 s6 I3 f3 (hcl'▸I6) qn
  .refine bJ (T.item (cH X N scope cl' s3.heap.objs.size s3 (upd H2 s2.heap.objs.size<|.lst []) fp pins) rfl rfl rfl hcb i [] s5 σ5 H5 (λ_ _=>False) I5 (stat fr5) st5 go) (λr s6 hr=> ?_) (λ_ _ z=>z.elim)
   obtain⟨u,rfl,h6⟩:=hr;refine bJ h6 (λ_ s7 h7=> ?_) (λ_ _ z=>z.elim)
   obtain⟨x,H7,I7,r7,y7,st7,fr7⟩:=h7;have I7':=I7.pinned (stat fr7) (T.obj _ _ st7);refine bJ (hg _ _ _ _ _ _ _ s7 σ5 H7 x u _ I7' r7<|step x H7 y7) (λ_ s8 h8=> ?_) (λ_ _ z=>False.elim z)
   obtain⟨σ8,H8,I8,q8⟩:=h8;have again: ∀{σ9:L2.St} {H9:Hp} {s9:Shared},Inv (cH X N scope cl' s3.heap.objs.size s3 (upd H2 s2.heap.objs.size<|.lst []) fp pins) ([]++bB1 fp s7.heap) σ9 H9 s9->Nx σ9 H9-> ∃m,m<n/\ ∃i σ' H',Inv (cH X N scope cl' s3.heap.objs.size s3 (upd H2 s2.heap.objs.size<|.lst []) fp pins) [] σ' H' s9/\tn i s9.heap/\(∀b∈fp,H' b=none)/\W i m σ' H':=λ{σ9 H9 s9} I9 n9=>by
    obtain⟨m',hm,w9⟩:=hNx σ9 H9 n9;refine⟨m',hm,i+1,σ9,H9,I9.unpinned,T.keep _ _ _ st7 λb hb o e=>(I9.pin (b,o)<|fM _<|fM _<|a21 hb e).1,λb hb=> ?_,w9⟩
    obtain⟨o,e,d⟩:=T.obj _ _ st7 b hb;exact(I9.pin (b,o)<|fM _<|fM _<|a21 hb e).2.1
   refine bJ (ht _ _ _ _ _ _ _ s8 σ8 H8 _ I8 q8) (λc s9 h9=> ?_) (λ_ _ z=>False.elim z)
   obtain⟨H9,I9,q9⟩:=h9;cases c with
   | false=>exact again I9 q9
   | true=>
    rw[a7 rfl]at q9⊢;refine bJ (he _ _ _ _ _ _ _ s9 σ8 H9 _ I9 q9) (λv s10 h10=> ?_) (λ_ _ z=>False.elim z)
    obtain⟨y,H10,I10,r10,ys,e10,z10,q10⟩:=h10;refine bJ (bQ0 (X:=(cH X N scope cl' s3.heap.objs.size s3 (upd H2 s2.heap.objs.size<|.lst []) fp pins)) _ s10 σ8 H10 (.ref s2.heap.objs.size) [y] (.ref s2.heap.objs.size) [v] (λv H=>v= .non/\Nx σ8 H) I10 rfl (.cons r10 .nil) ⟨_,ys,y,rfl,rfl,e10,z10,rfl,q10⟩) (λ_ s11 h11=> ?_) (λ_ _ z=>False.elim z)
    obtain⟨_,H11,I11,_,_,q11⟩:=h11;exact again I11 q11
 exact codeAny_compStart_list loop (T.self _ 0 _ _ _ st4 loop)
theorem aI9 {X:Cx}{σ:L2.St}{H:Hp}(S:gH X.env X.N N cap scope)(I:Inv X pins σ H s) :
  ∃cl,closureFor scope X.env=pure cl/\(∀x c,cl.lookup x=some c->X.env.cells.lookup x=some c)/\ ∀y∈scope.names,y.2= .free-> ∃c,cl.lookup y.1=some c:=by
 obtain⟨cl,h1,h2,_,h4⟩:=a24 (env:=X.env) scope.names (λy hy hf=>I.ok.has y.1 (S.frees y hy hf)) [] (λx c q=>by simp at q)
 refine⟨cl,?_,h2,h4⟩
 have e:closureFor scope X.env=(forIn scope.names [] fun(x:Str×NameKind) r=>(do if(x.2==NameKind.free)=true then do let c<-cellOf X.env x.1;pure (ForInStep.yield ((x.1,c)::r))else pure (ForInStep.yield r)):Sem (List<|Str×Addr)) >>= λr=>pure r:=by
  rfl
 rw[e,h1];rfl
theorem dP5 {X:Cx}{wi:TI}{g:TG}{tt:TT}{te:TE}(hc:X.calm=true)(hi:PI X tg iter wi)(S:gH X.env X.N N cap scope)
  (hN: ∀x,N[last]? =some x->scope.names.lookup x=none)
  (hg: ∀cl C s H fp pins,PG (cH X N scope cl C s H fp pins) tg g) (ht: ∀cl C s H fp pins,PTs (cH X N scope cl C s H fp pins) ifs tt) (he: ∀cl C s H fp pins,PE (cH X N scope cl C s H fp pins) elt te)
  (hs: ∀x,foldedSetIterable iter X.env x=pure x:=by intro _;rfl):PE X (.ListComp elt [⟨tg,iter,ifs,0⟩] scope pos) (cQ5 cap last wi g tt te):=by
 intro pins s σ H Q I h;rw[eval_ListComp];obtain⟨cl,hcl0,hcl,hcl2⟩:=aI9 S I;refine wpAny_comprehension_free (use:=none) rfl hs hcl0 S.kind S.names ?_;refine bR0 (RR:=λacc C=>compPost (model X.prog X.w) X.A X.xe none (EP X pins σ Q) acc C) hc hi S hN hg ht he I h hcl hcl2 λD fp H3 s3 σ' H' s' I3 f3 I' q=> ?_
 obtain⟨m6,hn6,_⟩:=I'.loc;exact⟨m6,hn6,λh' hs'=>⟨.ref D,H',bQ9 I3 f3 (aG _) I' hs',rfl,q⟩⟩
theorem cI3 {X:Cx}{wi:TI}{g:TG}{tt:TT}{te:TE}(hc:X.calm=true)(hi:PI X tg iter wi)(S:gH X.env X.N N cap scope)
  (hN: ∀x,N[last]? =some x->scope.names.lookup x=none)
  (hg: ∀cl C s H fp pins,PG (cH X N scope cl C s H fp pins) tg g) (ht: ∀cl C s H fp pins,PTs (cH X N scope cl C s H fp pins) ifs tt) (he: ∀cl C s H fp pins,PE (cH X N scope cl C s H fp pins) elt te)
  (hy:PG X (.Name y py) (aS6 i)) (hsw:↥(swapsWith (.ListComp elt [⟨tg,iter,ifs,0⟩] scope pos) (some<|.Name y py) spos.line X.env=pure true))
  (hs: ∀x,foldedSetIterable iter X.env x=pure x:=by intro _;rfl):PS X (.Assign [.Name y py] (.ListComp elt [⟨tg,iter,ifs,0⟩] scope pos) spos) (dM9 (cQ5 cap last wi g tt te)<|aS6 i):=by
 intro pins s σ H D I h;rw[exec_Assign_Name_used _ _ _ _ hsw];refine a9 (qB<|a9 ?_);obtain⟨cl,hcl0,hcl,hcl2⟩:=aI9 S I;show wpAny _ X.A (do let _<-comprehension (.ListComp elt [⟨tg,iter,ifs,0⟩] scope pos) scope X.env _ (newList []) false (eval iter X.env) (some<|assign (.Name y py) X.env)) _ _ s
 refine a9 (bJ (wpAny_comprehension_free (use:=some (assign (.Name y py) X.env)) (Q:=λ_ s'=>SP X pins D .next s') rfl hs hcl0 S.kind S.names ?_) (λ_ s' hq=>aK (aK hq)) λ_ _ e=>e)
 refine bR0 (RR:=λacc C=>compPost (model X.prog X.w) X.A X.xe (some<|assign (.Name y py) X.env) (λ_ s'=>SP X pins D .next s') acc C) hc hi S hN hg ht he I h hcl hcl2 λD' fp H3 s3 σ' H' s' I3 f3 I' q=> ?_
 obtain⟨m6,hn6,_⟩:=I'.loc;obtain⟨o6,es6,ep6,ho6,rest6⟩:=id hn6;have J:Inv X pins σ H' s':=bQ9 (h2:=s'.heap) I3 f3 (aG _) I' (.refl ..);have fC:H' s3.heap.objs.size=none:=I'.free;have neL:s3.heap.objs.size≠X.env.locals:=qD I3.lt;have neF:s3.heap.objs.size ∉ X.fs:=I3.nofs (aG _);have neC: ∀x c,X.env.cells.lookup x=some c->c≠s3.heap.objs.size:=λx c e z=>by
  obtain⟨v,qq⟩:=I3.cell x c e;exact absurd (b9 qq.lt (by rw[z];exact aG _)) (d3 _)
 have neP: ∀p∈X.pn++pins,p.1≠s3.heap.objs.size:=λp hp z=>by
  have:=aW (I3.pin p hp).1;rw[z]at this;exact d3 _ this
 have nd: ∀v,o6.data≠ .cell v:=λv z=>by
  have:o6.data= .dict es6 ep6:=rest6.1;rw[this]at z;cases z
 have J':Inv X (pins++[(s3.heap.objs.size,o6)]) σ H' s':=J.pins_of λp hp=>(eE.mp hp).elim (λz=>J.pin p (fM _ z)) λz=>by
  have e:p=(s3.heap.objs.size,o6):=by simpa using z
  subst e;exact⟨ho6,fC,neL,neF,nd⟩
 show wpAny _ X.A (assign (.Name y py) X.env<|.ref D') _ _ _
 refine thn (hy _ s' σ H' (.ref D') (.ref D') D.nx J' rfl q) λ_ s7 ⟨σ7,H7,I7,q7⟩=> ?_
 obtain⟨e7,n7,_⟩:=I7.pin (s3.heap.objs.size,o6) (fM _<|fM _ ae)
 refine⟨m6,⟨o6,es6,ep6,e7,rest6⟩,λh' hs'=> ?_⟩
 have I8:=I7.unpinned;exact⟨σ7,H7,I8.turned (t':=s7.toks) (λb o hb e=>(hs'.2 b hb).trans e) n7 neL (.inr<|aI I3.sz<|aG _) neC neP,q7⟩
end L2
namespace M
noncomputable def dP6:B->B
 | .pu d=> .pu d
 | .ow l=> .bo l
 | .bo l=> .bo l
noncomputable def rK (ρ:Ev)(cap:List (Option Nat))(last:Nat):Ev:=(cap.map λc=>c.bind λj=>((ρ[j]?).join).map dP6).set last (some<|.ow [])
noncomputable def dP7 (ρ:Ev)(j:Nat):Ev:=match ρ[j]? with
 | some (some<|.ow l)=>ρ.set j (some<|.pu<|.lst l)
 | _=>ρ
noncomputable def a75:Ev->List Nat->Ev
 | ρ,[]=>ρ
 | ρ,j::js=>a75 (dP7 ρ j) js
theorem d89 (ρ:Ev)(j:Nat):Frz ρ (dP7 ρ j):=by
 unfold dP7;split
 .rename_i l e
  exact .set e
 .exact .refl _
theorem c70: ∀(js:List Nat) (ρ:Ev),Frz ρ (a75 ρ js)
 | [],ρ=> .refl _
 | j::js,ρ=>(d89 ρ j).trans (c70 js _)
def dO (js:List Nat)(cap:List (Option Nat))(last:Nat)(ui:UI)(g:UG)(tt:UT)(te:UE):UE:=λρ Q=>ui ρ λn it ρ1=> ∃Pv:Nat->Ev->Prop,Pv 0 (rK (a75 ρ1 js) cap last)/\
 (∀i ρ',i<n->Pv i ρ'->g (.pu<|it i) ρ' λρ2=>tt ρ2 λc ρ3=>if c=true then te ρ3 λb ρ4=>uJ ρ4 last λl=>l.length<sizeLine/\Pv (i+1) (ρ4.set last<|some<|.ow<|l++[b.d])else Pv (i+1) ρ3)/\
 ∀ρ',Pv n ρ'->uJ ρ' last λl=>Q (.ow l) (a75 ρ1 js)
section
variable {X:Cx}{K:PySem.W.Frag}{C:C0}{ρ ρ':Ev}{σ σ':L2.St}{H H':Hp}
theorem cap_ok {Dn:Addr}(I:EOk K C ρ σ H)(hl:last<cap.length)(n:H Dn=none) :
  EOk K ⟨H,Av C ρ σ⟩ (rK ρ cap last) (vX σ cap last Dn) (upd H Dn<|.lst []):=by
 have pu: ∀(i:Nat) (z:B),last≠i->(rK ρ cap last)[i]? =some (some z)-> ∃(j:Nat) (z':B),cap[i]? =some (some j)/\z=dP6 z'/\ρ[j]? =some (some z'):=λi z ne h=>by
  unfold rK at h;rw[get_set_ne ne,bO]at h;cases e4:cap[i]? with
  | none=>rw[e4]at h;cases h
  | some c=>
   rw[e4]at h;cases c with
   | none=>cases h
   | some j=>
    have h':((ρ[j]?).join).map dP6=some z:=by simpa using h
    cases q:ρ[j]? with
    | none=>rw[q]at h';cases h'
    | some w=>
     rw[q]at h';cases w with
     | none=>cases h'
     | some w'=>cases h';exact⟨j,w',rfl,rfl,q⟩
 have sgm: ∀(i j:Nat) (v:V),last≠i->cap[i]? =some (some j)->σ[j]? =some (some v)->(vX σ cap last Dn)[i]? =some (some v):=λi j v e e1 h1=>by
  unfold vX;rw[get_set_ne e,bO,e1];show some ((σ[j]?).join)=_;rw[h1];rfl
 have atl:(rK ρ cap last)[last]? =some (some<|.ow []):=by
  unfold rK;exact jE (by rw[aP];exact hl)
 have sal:(vX σ cap last Dn)[last]? =some (some<|.ref Dn):=by
  unfold vX;exact jE (by rw[aP];exact hl)
 have noOw: ∀(i:Nat) (l:List D),last≠i->(rK ρ cap last)[i]? ≠some (some<|.ow l):=λi l e h=>by
  obtain⟨j,z',_,z,_⟩:=pu i _ e h;cases z'<;>cases z
 have own: ∀a,Own (rK ρ cap last) (vX σ cap last Dn) a->a=Dn:=λa ⟨i,l,h1,h2⟩=>by
  by_cases e:last=i
  .subst e;rw[sal]at h2;cases h2;rfl
  .exact absurd h1 (noOw i l e)
 have P:mK (Av C ρ σ) H (Av ⟨H,Av C ρ σ⟩ (rK ρ cap last)<|vX σ cap last Dn) (upd H Dn<|.lst []):=λb o nb e=>by
  have ne:b≠Dn:=λz=>by subst z;rw[n]at e;cases e
  refine⟨?_,by rw[cL ne];exact e⟩
  rintro(z|z)
  .exact nb z
  .exact ne (own b z)
 refine⟨by unfold rK vX;rw[fB,fB,aP,aP],λi d h=> ?_,λi l h=> ?_,λi j l l' a h1 h2 h3 h4=> ?_,λi l h=> ?_,eI n _,λa z=>I.avSome z⟩
 .by_cases e:last=i
  .subst e;rw[atl]at h;cases h
  .obtain⟨j,z',e1,z,e2⟩:=pu i _ e h;cases z' with
   | pu d'=>
    cases z;obtain⟨v,h1,h2⟩:=I.pu j d e2;exact⟨v,sgm i j v e e1 h1,h2.mono P⟩
   | ow l=>cases z
   | bo l=>cases z
 .by_cases e:last=i
  .subst e;rw[atl]at h;cases h;exact⟨Dn,[],sal,iZ,n,.nil⟩
  .exact absurd h (noOw i l e)
 .have e1:last=i:=zE λe=>absurd h1 (noOw i l e)
  have e2:last=j:=zE λe=>absurd h2 (noOw j l' e)
  exact e1.symm.trans e2
 .by_cases e:last=i
  .subst e;rw[atl]at h;cases h
  .obtain⟨j,z',e1,z,e2⟩:=pu i _ e h;cases z' with
   | pu d'=>cases z
   | ow l'=>
    cases z;obtain⟨a,vs,h1,h2,h3,h4⟩:=I.ow j l e2;exact⟨a,vs,sgm i j _ e e1 h1,.inr ⟨j,l,e2,h1⟩,h2,h4.mono P⟩
   | bo l'=>
    cases z;obtain⟨a,vs,h1,h2,h3,h4⟩:=I.bo j l e2;exact⟨a,vs,sgm i j _ e e1 h1,.inl h2,I.ext _ _ h3,h4.mono P⟩
theorem dY9 {ui:UI}{g:UG}{T:List Nat}{tt:UT}{te:UE}(hl:last<cap.length)(hT:last ∉ T)(σ:L2.St)(H:Hp)(Q:VK)(h:lE K (dO js cap last ui g tt te) σ H Q) :
  cQ5 cap last (lI K ui) (lG K T g) (lT K tt) (lE K te) σ H Q:=by
 obtain⟨C,ρ,Q0,I,h,k⟩:=h;refine⟨C,ρ,_,I,h,λn it ρ1 J H1 q f s ok Dn nD=> ?_⟩
 obtain⟨Pv,p0,turn,fin⟩:=q;have fz:=c70 js ρ1;have I1:EOk K C (a75 ρ1 js) σ H1:=((I.frz f).same s).frz fz;generalize a75 ρ1 js=ρ2 at fz I1 p0 fin;have P12: ∀{A':AS} {H':Hp},mK (Av C ρ2 σ) H1 A' H'->mK (Av C ρ1 σ) H1 A' H':=λp b o nb e=>p b o (λz=>nb (fz.av z)) e
 have I2:=cap_ok I1 hl nD;have own0: ∀{ρ':Ev} {σ':L2.St} {H':Hp},EOk K ⟨H1,Av C ρ2 σ⟩ ρ' σ' H'->mK (Av C ρ2 σ) H1 (Av ⟨H1,Av C ρ2 σ⟩ ρ' σ') H':=λ{ρ' σ' H'} J' b o nb e=>by
  refine⟨?_,J'.ext b o e⟩
  rintro(z| ⟨i,l,h1,h2⟩)
  .exact nb z
  .obtain⟨a,vs,h3,h4,h5,_⟩:=J'.ow i l h1;rw[h2]at h3;cases h3;have e':(⟨H1,Av C ρ2 σ⟩:C0).H0 b=some o:=e;rw[h5]at e';cases e'
 have sal:(vX σ cap last Dn)[last]? =some (some<|.ref Dn):=by
  unfold vX;exact jE (by rw[aP];exact hl)
 refine⟨λi m σ' H'=>m=n-i/\i<=n/\σ'[last]? =some (some<|.ref Dn)/\ ∃ρ',EOk K ⟨H1,Av C ρ2 σ⟩ ρ' σ' H'/\Pv i ρ',⟨n,rfl,cG _,sal,_,I2,p0⟩,?_⟩
 rintro i m σ' H' ⟨rfl,hi,hlast,ρ',J',p'⟩;have P:=P12 (own0 J')
 by_cases hlt:i<n
 .refine .inr ⟨ok.go _ _ i P hlt,λσ2 H2=>σ2[last]? =some (some<|.ref Dn)/\ ∃ρ3,EOk K ⟨H1,Av C ρ2 σ⟩ ρ3 σ2 H2/\Pv (i+1) ρ3,λσ2 H2 z=>⟨n-(i+1),aa,rfl,hlt,z⟩,λx H2 y=> ?_⟩
  obtain⟨s2,r2⟩:=ok.yld _ _ i x H2 P (λa z=>J'.avSome z) hlt y
  refine⟨_,ρ',.pu<|it i,H',_,J',s2,r2,turn i ρ' hlt p',λρ3 σ3 H3 q3 J3 same3=> ?_⟩
  have l3:σ3[last]? =some (some<|.ref Dn):=(same3 last hT).trans hlast;refine⟨_,ρ3,_,J3,q3,λc ρ4 H4 q4 f4 s4=> ?_⟩
  have J4:=(J3.frz f4).same s4;cases c with
  | false=>
   dsimp only at q4⊢;rw[a6 bI]at q4⊢;exact⟨l3,ρ4,J4,q4⟩
  | true=>
   dsimp only at q4⊢;rw[a7 rfl]at q4⊢;refine⟨_,ρ4,_,J4,q4,λb ρ5 v H5 q5 f5 s5 r5=> ?_⟩
   have J5:=(J4.frz f5).same s5;obtain⟨l,hl5,hz,q5⟩:=lY q5;obtain⟨a,vs,g1,g2,g3,g4⟩:=J5.ow last l hl5;rw[l3]at g1;cases g1;refine⟨vs,g2,by rw[<-g4.length];exact hz,l3,_,J5.write hl5 l3<|g4.append<|.cons (r5.rep λa z=>J4.avF f5 z) .nil,q5⟩
 .have e:i=n:=aa
  subst e;obtain⟨l,hl5,q5⟩:=lY (fin ρ' p');obtain⟨a,vs,g1,g2,g3,g4⟩:=J'.ow last l hl5;rw[hlast]at g1;cases g1;refine .inl ⟨ok.stop _ _ P,k _ _ _ _ q5 (f.trans fz) (s.trans J'.ext) ⟨Dn,vs,rfl,s.free nD,g2,?_⟩⟩;refine g4.mono λb o nb e=>⟨?_,e⟩
  rintro(z|z)
  .exact nb (.inl z)
  .subst z;exact nb (.inr ⟨last,l,hl5,hlast⟩)
theorem dR: ∀{X:Cx},PTs X [] (lT X.K λρ Q=>Q true ρ):=λ{X} pins s σ H Q I ⟨C,ρ,Q0,J,h,k⟩=>dP3 pins s σ H Q I (k _ ρ H h (.refl _)<|.refl _)
theorem dP8 {t:UT}(h:PUT X c t):PTs X [c] (lT X.K t):=dP4 h
theorem dP9 {ui:UI}{g:UG}{T:List Nat}{tt:UT}{te:UE}(hc:X.calm=true)(hi:PUI X tg iter ui)(S:gH X.env X.N N cap scope)
  (hN: ∀x,N[last]? =some x->scope.names.lookup x=none) (hl:last<cap.length) (hT:last ∉ T)
  (hg: ∀cl C s H fp pins,PUG (cH X N scope cl C s H fp pins) tg T g) (ht: ∀cl C s H fp pins,PTs (cH X N scope cl C s H fp pins) ifs<|lT X.K tt) (he: ∀cl C s H fp pins,PU (cH X N scope cl C s H fp pins) elt te)
  (hs: ∀x,foldedSetIterable iter X.env x=pure x:=by intro _;rfl):PU X (.ListComp elt [⟨tg,iter,ifs,0⟩] scope pos) (dO js cap last ui g tt te):=
 iT (dP5 (g:=lG X.K T g) (tt:=lT X.K tt) (te:=lE X.K te) hc hi S hN hg ht he hs) (dY9 hl hT)
theorem cI4 {ui:UI}{g:UG}{T:List Nat}{tt:UT}{te:UE}(i:Nat)(hc:X.calm=true)(hi:PUI X tg iter ui)(S:gH X.env X.N N cap scope)
  (hN: ∀x,N[last]? =some x->scope.names.lookup x=none) (hl:last<cap.length) (hT:last ∉ T)
  (hg: ∀cl C s H fp pins,PUG (cH X N scope cl C s H fp pins) tg T g) (ht: ∀cl C s H fp pins,PTs (cH X N scope cl C s H fp pins) ifs<|lT X.K tt) (he: ∀cl C s H fp pins,PU (cH X N scope cl C s H fp pins) elt te)
  (hy:PG X (.Name y py) (aS6 i)) (hi': ∀pins σ H s,Inv X pins σ H s->i<σ.length) (hsw:↥(swapsWith (.ListComp elt [⟨tg,iter,ifs,0⟩] scope pos) (some<|.Name y py) spos.line X.env=pure true))
  (hs: ∀x,foldedSetIterable iter X.env x=pure x:=by intro _;rfl):PUS X (.Assign [.Name y py] (.ListComp elt [⟨tg,iter,ifs,0⟩] scope pos) spos) (bG i<|dO js cap last ui g tt te):=by
 intro pins s σ H D I q;refine cI3 (g:=lG X.K T g) (tt:=lT X.K tt) (te:=lE X.K te) hc hi S hN hg ht he hy hsw hs pins s σ H D I ?_;obtain⟨C,ρ,D0,J,h,k⟩:=q;exact dY9 hl hT σ H _ ⟨C,ρ,_,J,h,λb ρ1 v H1 q f s1 r=>k.nx _ _ _ q ((J.frz f).store s1 r<|hi' pins σ H s I)⟩
end
end M
end
section
namespace L2
section
variable {X:Cx}
theorem cQ6 {bs:List Bool}: ∀{its:List Value},Vals (bs.map V.bl) its->LSm.BoolsAre its bs:=by
 induction bs with
 | nil=>intro its r;cases r;exact .nil
 | cons b bs ih=>
  intro its r;cases r with
  | cons r1 r2=>
   cases r1;exact .cons b (ih r2)
theorem cI5 (hc:X.calm=true):pI X (.builtin "all") (λxs H Q=> ∃(p:Addr) (bs:List Bool),xs=[.ref p]/\SqL X.K H p (bs.map V.bl)/\Q (.bl<|bs.all id) H):=by
 intro pins s σ H xs us Q I r h;obtain⟨p,bs,rfl,hq,q⟩:=h;obtain⟨u,rfl,rx⟩:=vals1 r;cases rx;obtain⟨its,rv,pl,hz⟩:=I.list hq;have ba:=cQ6 rv;refine call_all_walk (zV pl.isList ?_);have hne:p≠s.heap.objs.size:=by
  obtain⟨o,n,e,_⟩:=pl;exact bF (aW e)
 refine⟨s.heap.objs.size,_,_,_,_,_,λi=>(bs[i]?).getD true,rfl,Walks.list (A:=X.A.in1) (I.ok.hd hc) s.heap.objs.size p (λz=>hne z) its.toArray,⟨⟨_,bV _ rfl,rfl,rfl⟩,pl.isList.push _⟩,?_,λh' tk hk=> ?_⟩
 .intro i v s' Q' E' hP hQ;obtain⟨b,hb,rfl⟩:=ba.get i v (by simpa using hP)
  refine nP ?_
  have e:(λi=>(bs[i]?).getD true) i=b:=by simp[hb]
  dsimp only at hQ;rw[hb]at hQ;exact hQ
 .have e:=LSm.range_all bs;have hl:=ba.length;have e2:its.toArray.size=bs.length:=by rw[bC,hl]
  rw[e2,e];exact⟨.bl<|bs.all id,H,I.kept λb o e=>hk b o (by simpa using bF (aW e)) (aV _ e),rfl,q⟩
theorem cI6 (hc:X.calm=true):pI X (.builtin "sum") (λxs H Q=> ∃(p:Addr) (ns:List Int),xs=[.ref p]/\SqL X.K H p (ns.map V.int)/\Q (.int ns.sum) H):=by
 intro pins s σ H xs us Q I r h;obtain⟨p,ns,rfl,hq,q⟩:=h;obtain⟨u,rfl,rx⟩:=vals1 r;cases rx;obtain⟨its,rv,pl,hz⟩:=I.list hq;have hi:IntsAre its ns:=by simpa using intsAre_of rv
 obtain⟨xs,hx⟩:=hi.allInts.items;have hl':s.heap.IsList p (intItems xs):=hx▸pl.isList;refine sum_intListG (I.ok.hd hc) hl' λh' tk t' hk=> ?_
 have e1:ns=xs.toList.map (·.1):=by
  rw[<-nums_intItems,<-hx];exact(show numsOf its.toArray.toList=ns from hi.numsOf).symm
 have e2:preSum (numAt xs) xs.size=ns.sum:=by
  rw[preSum_eq,List.take_of_length_le ae,e1]
 rw[e2];exact⟨.int ns.sum,H,I.kept hk,⟨_,rfl⟩,q⟩
noncomputable def yF (esc:List (Str×NameKind))(XN N:List Str)(cap:List (Option Nat))(scope:Scope)(last:Nat):Bool:=
 (scope.kind== .function)&&scope.names.all (λy=>y.2 != .cell||scope.names.lookup y.1==some .cell)&&scope.names.all (λy=>y.2 != .free||scope.names.lookup y.1==some .free)&&scope.names.all (λy=>y.2 != .local||scope.names.lookup y.1==some .local)&&
 scope.names.all (λy=>y.2 != .free||esc.lookup y.1==some .cell||esc.lookup y.1==some .free)&&
 (N.zip cap).all (λz=>match z.2 with|none=>true|some j=>XN[j]? ==some z.1&&scope.names.contains (z.1,.free)&&scope.names.lookup z.1==some .free)&&
 (cap.length==N.length)&&(match N[last]? with|some x=>(scope.names.lookup x).isNone|none=>true)
theorem gH.of {env:Env}(he:env.scope.names=esc)(h:yF esc XN N cap scope last=true) :
  gH env XN N cap scope/\ ∀x,N[last]? =some x->scope.names.lookup x=none:=by
 unfold yF at h;simp only[dZ,eN,fO]at h;obtain⟨⟨⟨⟨⟨⟨⟨h1,h2⟩,h2'⟩,h3⟩,h4⟩,h5⟩,h6⟩,h7⟩:=h;have hk: ∀x,env.kindOf x=esc.lookup x:=λx=>by unfold Env.kindOf;rw[he]
 refine⟨⟨h1,λy hy hl=>by have:=h2 y hy;rw[hl]at this;simpa using this,λy hy hl=>by have:=h2' y hy;rw[hl]at this;simpa using this,λy hy hl=> ?_,λy hy hf=> ?_,λi j x e1 e2=> ?_,h6⟩,λx e=> ?_⟩
 .have:=h3 y hy;rw[hl]at this
  simpa using this
 .have:=h4 y hy;rw[hf]at this;rw[hk]
  simpa using this
 .have hm:(x,some j)∈N.zip cap:=by
   refine aN0 (i:=i) ?_
   rw[List.getElem?_zip_eq_some];exact⟨e1,e2⟩
  have:=h5 _ hm;simp only[dZ,fO]at this;obtain⟨⟨a,b⟩,c⟩:=this;exact⟨a,by simpa using b,c⟩
 .rw[e]at h7
  simpa using h7
end
end L2
namespace M
section
variable {X:Cx}{K:PySem.W.Frag}{A:AS}{H:Hp}
noncomputable def wQ:List D->Option (List Bool)
 | []=>some []
 | .bl b::r=>(wQ r).map (b::·)
 | _=>none
noncomputable def b40:List D->Option (List Int)
 | []=>some []
 | .int b::r=>(b40 r).map (b::·)
 | _=>none
theorem qK (bs:List Bool):wQ (bs.map .bl)=some bs:=by
 induction bs with
 | nil=>rfl
 | cons b bs ih=>rw[cF];show(wQ<|bs.map .bl).map _=_;rw[ih];rfl
theorem aG2 (bs:List Int):b40 (bs.map .int)=some bs:=by
 induction bs with
 | nil=>rfl
 | cons b bs ih=>rw[cF];show(b40<|bs.map .int).map _=_;rw[ih];rfl
theorem aP6: ∀{l:List D} {bs:List Bool} {vs:List V},wQ l=some bs->bS K A H l vs->vs=bs.map V.bl
 | [],bs,vs,h,r=>by cases h;exact r.unnil
 | d::r,bs,vs,h,q=>by
  obtain⟨v,vr,rfl,rv,rr⟩:=q.uncons;cases d with
  | bl b=>
   have h':(wQ r).map (b::·)=some bs:=h;cases e:wQ r with
   | none=>rw[e]at h';cases h'
   | some bs'=>
    rw[e]at h';cases h';rw[vV rv,aP6 e rr];rfl
  | _=>cases h
theorem bR1: ∀{l:List D} {bs:List Int} {vs:List V},b40 l=some bs->bS K A H l vs->vs=bs.map V.int
 | [],bs,vs,h,r=>by cases h;exact r.unnil
 | d::r,bs,vs,h,q=>by
  obtain⟨v,vr,rfl,rv,rr⟩:=q.uncons;cases d with
  | int b=>
   have h':(b40 r).map (b::·)=some bs:=h;cases e:b40 r with
   | none=>rw[e]at h';cases h'
   | some bs'=>
    rw[e]at h';cases h';rw[bN rv,bR1 e rr];rfl
  | _=>cases h
noncomputable def cY3:List D->(B->Prop)->Prop:=g1 λd Q=>match d with
 | .lst l=>(match wQ l with
  | some bs=>Q (.pu<|.bl<|bs.all id)
  | none=>False)
 | _=>False
theorem cI7 (hc:X.calm=true):sP X (.builtin "all") cY3:=by
 intro A H ds vs Q0 Q hA r g k;obtain⟨d,v,rfl,rfl,rv,g⟩:=a87 g r;cases d with
 | lst l=>
  dsimp only at g;cases e:wQ l with
  | none=>rw[e]at g;exact g.elim
  | some bs=>
   rw[e]at g;simp only[Rep]at rv;obtain⟨a,vs,rfl,n,c,rs⟩:=rv;rw[aP6 e rs]at c;exact⟨_,cI5 hc,a,bs,rfl,SqL.of c,k _ _ H g (.refl _) kP⟩
 | _=>exact(show False from g).elim
noncomputable def cY4:List D->(B->Prop)->Prop:=g1 λd Q=>match d with
 | .lst l=>(match b40 l with
  | some ns=>Q (.pu<|.int ns.sum)
  | none=>False)
 | _=>False
theorem bY7 (hc:X.calm=true):sP X (.builtin "sum") cY4:=by
 intro A H ds vs Q0 Q hA r g k;obtain⟨d,v,rfl,rfl,rv,g⟩:=a87 g r;cases d with
 | lst l=>
  dsimp only at g;cases e:b40 l with
  | none=>rw[e]at g;exact g.elim
  | some bs=>
   rw[e]at g;simp only[Rep]at rv;obtain⟨a,vs,rfl,n,c,rs⟩:=rv;rw[bR1 e rs]at c;exact⟨_,cI6 hc,a,bs,rfl,SqL.of c,k _ _ H g (.refl _) aI1⟩
 | _=>exact(show False from g).elim
theorem cQ7 {i:Int}{t:Tok}(hg:Gl X x)(hm:X.mg x=some (.int i t))(hd:⇑((x==("__debug__":Str))=false)):PU X (.Name x p) (uC<|.int i):=
 b91 (bW3 (v:= .int i) hg hm ⟨t,rfl⟩ hd) λA H=>by simp only[Rep]
theorem cI8:bootBuiltins "all"=some (.builtin "all"):=af
theorem bY8:bootBuiltins "sum"=some (.builtin "sum"):=af
theorem uL {ui:UI}{g:UG}{T:List Nat}{tt:UT}{te:UE}(he0:X.env.scope.names=esc)(hx0:X.N=XN)(lk:yF esc XN N cap scope last=true)(hl:last<cap.length)(hT:last ∉ T)(hc:X.calm=true)(hi:PUI X tg iter ui)
  (hg: ∀cl C s H fp pins,PUG (cH X N scope cl C s H fp pins) tg T g) (ht: ∀cl C s H fp pins,PTs (cH X N scope cl C s H fp pins) ifs<|lT X.K tt) (he: ∀cl C s H fp pins,PU (cH X N scope cl C s H fp pins) elt te)
  (hs: ∀x,foldedSetIterable iter X.env x=pure x:=by intro _;rfl):PU X (.ListComp elt [⟨tg,iter,ifs,0⟩] scope pos) (dO js cap last ui g tt te):=
 dP9 hc hi (gH.of he0<|hx0▸lk).1 (gH.of he0<|hx0▸lk).2 hl hT hg ht he hs
theorem b41 {ui:UI}{g:UG}{T:List Nat}{tt:UT}{te:UE}(i:Nat)(he0:X.env.scope.names=esc)(hx0:X.N=XN)(lk:yF esc XN N cap scope last=true)(hl:last<cap.length)(hT:last ∉ T)(hc:X.calm=true)(hi:PUI X tg iter ui)
  (hg: ∀cl C s H fp pins,PUG (cH X N scope cl C s H fp pins) tg T g) (ht: ∀cl C s H fp pins,PTs (cH X N scope cl C s H fp pins) ifs<|lT X.K tt) (he: ∀cl C s H fp pins,PU (cH X N scope cl C s H fp pins) elt te)
  (hy:PG X (.Name y py) (aS6 i)) (hi': ∀pins σ H s,Inv X pins σ H s->i<σ.length) (hsw:↥(swapsWith (.ListComp elt [⟨tg,iter,ifs,0⟩] scope pos) (some<|.Name y py) spos.line X.env=pure true))
  (hs: ∀x,foldedSetIterable iter X.env x=pure x:=by intro _;rfl):PUS X (.Assign [.Name y py] (.ListComp elt [⟨tg,iter,ifs,0⟩] scope pos) spos) (bG i<|dO js cap last ui g tt te):=
 cI4 i hc hi (gH.of he0<|hx0▸lk).1 (gH.of he0<|hx0▸lk).2 hl hT hg ht he hy hi' hsw hs
def aT3 (te:UE):US:=λD ρ=>te ρ λ_ ρ1=>D.nx ρ1
theorem bY9 {te:UE}(he:PU X e te)(hs:↥(swapsWith e none pos.line X.env=pure false)):PUS X (.Expr e pos) (aT3 te):=
 sQ (bW5 he hs) λD σ H ⟨C,ρ,D0,I,h,k⟩=>⟨C,ρ,_,I,h,λb ρ1 v H1 q f s r=>k.nx _ _ _ q ((I.frz f).same s)⟩
theorem mV: ∀ds ρ Q,sR ds ρ Q->ds.length=0:=λds ρ Q h=>by rw[h.1];rfl
theorem dS {u:UGs}(h: ∀ds ρ Q,u ds ρ Q->ds.length=n): ∀ds ρ Q,fJ i u ds ρ Q->ds.length=n+1:=λds ρ Q q=>by
 cases ds with
 | nil=>exact(show False from q).elim
 | cons d r=>rw[dX,h r _ Q q.2]
end
theorem Fn.void {ps:List Str}(F:Fun K x qual st f fd)(m:mg x=some (.ref f))(b:Binds K fd ps [])(h: ∀ds Q,¬φ ds Q):Fn P w K mg base x ps 1 φ:=
 ⟨f,fd,⟨λvs H Q E ⟨_,ds,Q0,_,_,z,_⟩=>absurd z (h ds Q0),λA outer s H args us vs Q E _ _ _ _ ⟨_,ds,Q0,_,_,z,_⟩=>absurd z (h ds Q0)⟩,b,F.kp,m⟩
end M
end
section
namespace HT
open PySem PyProof.Rows
end HT
namespace L2
end L2
namespace M
section
variable {X:Cx}{K:PySem.W.Frag}{A:AS}{H:Hp}{e e3:Expr}{t3:UE}{pos p2:Pos}
def gIn (neg:Bool)(d e:D)(Q:B->Prop):Prop:= ∃(i:Int) (js:List Int),d= .int i/\(e= .tup (js.map D.int)\/e= .lst (js.map D.int)\/e= .rol (js.map D.int))/\Q (.pu<|.bl<|neg ^^ decide (i∈js))
theorem bS.unints: ∀{js:List Int} {vs:List V},bS K A H (js.map D.int) vs->vs=js.map V.int
 | [],_,h=>by simp only[jD,bS]at h;exact h
 | j::js,vs,h=>by
  simp only[cF,bS]at h;obtain⟨v,vr,rfl,r,rs⟩:=h;rw[bN r,bS.unints rs];rfl
theorem d90 (i:Int)(js:List Int):inV (.int i) (js.map V.int)=decide (i∈js):=by
 unfold inV
 induction js with
 | nil=>rfl
 | cons j js ih=>
  rw[cF,any_cons,ih];show((j==i)||decide (i∈js))=decide (i∈j::js)
  by_cases h:j=i
  .subst h;simp
  .have h': ¬i=j:=λz=>h z.symm
   simp[h,h']
theorem aY7 (js:List Int):(js.map V.int).all aS7=true:=by
 induction js with
 | nil=>rfl
 | cons j js ih=>rw[cF,all_cons,ih];rfl
theorem ou_inG {neg:Bool}{op:Value->Value->Sem Value}(ho:OpR X op (rIn X.K neg)):OpU X op (gIn neg):=by
 intro A H d e v w Q0 Q hA r1 r2 g k;obtain⟨i,js,rfl,he,g⟩:=g;have e1:=bN r1;subst e1;have fin:Q (.bl<|if neg=true then !inV (.int i) (js.map V.int)else inV (.int i) (js.map V.int)) H:=by
  rw[d90];refine k _ _ H g (.refl _) ?_;cases neg
  .rw[a6 ac,nS];exact kP
  .rw[a7 rfl,nT];exact kP
 rcases he with rfl|rfl|rfl
 .simp only[Rep]at r2;obtain⟨a,vs,rfl,c,rs⟩:=r2;have:=rs.unints;subst this;exact⟨_,ho,a,_,rfl,.inr<|c.imp cT id,rfl,aY7 js,fin⟩
 .simp only[Rep]at r2;obtain⟨a,vs,rfl,n,c,rs⟩:=r2;have:=rs.unints;subst this;exact⟨_,ho,a,_,rfl,.inl<|SqL.of c,rfl,aY7 js,fin⟩
 .simp only[Rep]at r2;obtain⟨a,vs,rfl,c,rs⟩:=r2;have:=rs.unints;subst this;exact⟨_,ho,a,_,rfl,.inl<|c.imp cT id,rfl,aY7 js,fin⟩
theorem d91:OpU X (compareOp .NotIn) (gIn true):=ou_inG bX1
end
end M
end
section
namespace L2
noncomputable def Itd (lo:Int)(n:Nat):It:={go:=λi _=>i<n,yld:=λi H x H'=>H'=H/\x=V.int (lo-(i:Int)),stop:=λi _=>n<=i}
theorem bR2 (it:Addr)(lo:Int)(n:Nat):c53 P w K tg (Itd lo n) [it] it (λi h=>IsRangeIter h it (lo+(i:Nat)*(-1)) ((n:Int)-(i:Nat)) (-1)) where
 mem:=ae
 obj:=λi h st b hb=>by
  have e:b=it:=by simpa using hb
  subst e;exact⟨_,st,λv z=>by
   have z':Data.fields _=Data.cell v:=z;cases z'⟩
 keep:=λi h h' st k=>k it ae _ st
 item:=by
  intro X hP hw hK hc i pins s σ H E I hf st hg;subst hP hw hK;obtain⟨f0,f1,f2,f3,f4,f5⟩:=hf it ae
  have W:=Walks.range (prog:=X.prog) (w:=X.w) (I.ok.hd hc) it lo (-1) n;refine W.item i s _ _ hg st λv h' tk hv st' kk=> ?_
  obtain⟨t,rfl⟩:=hv;have I1:Inv X pins σ H {s with heap:=h',toks:=tk}:=I.turned (λb o hb e=>kk b o (by simpa using hb) e) f0 f1 f3 f4 f5
  refine⟨_,rfl,c54 (s:={s with heap:=h',toks:=tk}) (n:="range_iterator") st' rfl rfl ac ⟨.int<|lo-i,H,I1,⟨t,?_⟩,⟨rfl,rfl⟩,st',λb hb=>(hf b hb).1⟩⟩
  rw[show lo+((i:Nat):Int)*(-1)=lo-(i:Int)by lia]
 done:=by
  intro X hP hw hK hc i pins s σ H E I hf st hg;subst hP hw hK;obtain⟨f0,f1,f2,f3,f4,f5⟩:=hf it ae
  exact wpAny_pyNext_range_end (I.ok.hd hc) st (by have:n<=i:=hg;lia) λh' eb=>⟨rfl,I.turned (t':=s.toks) (λb o hb e=>eb b o hb e) f0 f1 f3 f4 f5⟩
 self:=λ_ _ _ _ _ st h=>aM4 st h
section
variable {X:Cx}{tg:Expr}
theorem bR3 (a b:Int):Builtin.Range.rangeSize a b (-1)=(((a-b).toNat:Nat):Int):=by
 unfold Builtin.Range.rangeSize;rw[a6 ac]
 split<;>simp<;>lia
theorem small_down {a b:Int}(h1: -(2^31)<=a)(h2:a<2^31)(h3: -(2^31)<=b)(h4:b<2^31):Builtin.Range.small a b (-1)=true:=by
 unfold Builtin.Range.small;rw[bR3];simp[Builtin.Range.rangeFitsLong];omega
theorem cI9 {σ:St}{H:Hp}{R:It->Hp->Prop}{hi:Int}{t u v:Tok}(I:Inv X pins σ H s)(h1: -(2^31)<=lo)(h2:lo<2^31)(h3: -(2^31)<=hi)(h4:hi<2^31)
  (q:R (Itd lo (lo-hi).toNat) H):wpAny (model X.prog X.w) X.A (pyIter<|.ref s.heap.objs.size) (PIE X pins σ tg R) E {s with heap:=s.heap.push {cls:= .type "range",data:= .fields #[.int lo t,.int hi u,.int (-1) v]},toks:=tk}:=by
 refine wpAny_pyIter_range (IsRange.new ..) (small_down h1 h2 h3 h4) ?_
 have I1:Inv X pins σ H {s with heap:=s.heap.push {cls:= .type "range",data:= .fields #[.int lo t,.int hi u,.int (-1) v]},toks:=tk}:=I.kept λb o e=>aV _ e
 refine⟨(s.heap.push {cls:= .type "range",data:= .fields #[.int lo t,.int hi u,.int (-1) v]}).objs.size,[(s.heap.push {cls:= .type "range",data:= .fields #[.int lo t,.int hi u,.int (-1) v]}).objs.size],_,_,H,rfl,
  I1.kept (t':=tk) λb o e=>aV _ e,bR2 _ lo (lo-hi).toNat,?_,λb hb=> ?_,q⟩
 .have e1:lo+((0:Nat):Int)*(-1)=lo:=ae
  have e2:(((lo-hi).toNat:Nat):Int)-((0:Nat):Int)=Builtin.Range.rangeSize lo hi (-1):=by rw[bR3];simp
  show IsRangeIter _ _ (lo+((0:Nat):Int)*(-1)) ((((lo-hi).toNat:Nat):Int)-((0:Nat):Int)) (-1)
  rw[e1,e2];exact bV _ rfl
 .have e:b=(s.heap.push {cls:= .type "range",data:= .fields #[.int lo t,.int hi u,.int (-1) v]}).objs.size:=by simpa using hb
  subst e;exact I1.fpOk (aG _) (I1.hok.fresh<|aG _)
def iRngD (ta:TA):TI:=λσ H R=>ta σ H λvs H1=> ∃i j:Int,vs=[.int i,.int j,.int<|-1]/\(-(2^31)<=i/\i<2^31/\ -(2^31)<=j/\j<2^31)/\R (Itd i (i-j).toNat) H1
theorem cY5 {a b:Expr}{ta:TA}(hg:Gl X "range")(hm:X.mg "range"=none)(ha:PA X [a,b,c] ta)(hs:↥(starEach [a,b,c] X.env=[(false,eval a X.env),(false,eval b X.env),(false,eval c X.env)]))(hs2:↥(starEach [b,c] X.env=[(false,eval b X.env),(false,eval c X.env)])) :
  PI X tg (.Call (.Name "range" p) [a,b,c] [] pos) (iRngD ta):=by
 intro pins s σ H R I h;refine Call_ (uF I hg hm boot_range<|jX (thn (ha pos pins s σ H _ I h) λus s1 ⟨vs,H1,I1,r1,q1⟩=> ?_) (by rw[hs,hs2]) (by rw[hs2];rfl))
 obtain⟨i,j,e,⟨q1,q2,q3,q4⟩,q⟩:=q1;subst e;cases r1 with
 | cons r rr=>
  cases rr with
  | cons r' rr=>
   cases rr with
   | cons r'' rr=>
    cases rr;obtain⟨t,rfl⟩:=r;obtain⟨t',rfl⟩:=r';obtain⟨t'',rfl⟩:=r'';exact call_range_3 ac (cI9 I1 q1 q2 q3 q4 q) (.inl (by
     unfold Builtin.divisionGoesByPylong;simp;intro hz;have:Nat.log2 1=0:=ac
     lia))
end
end L2
namespace M
section
variable {X:Cx}{K:PySem.W.Frag}{H:Hp}{pos:Pos}
theorem bR4 {A:AS}:c65 K A H (Itd lo n) n (λi=> .int (lo-i)):=
 ⟨λ_ _ _ _ h=>h,λ_ _ i x H'' _ _ _ ⟨e,y⟩=>by subst e;subst y;exact⟨.refl _,by simp only[Rep]⟩,λ_ _ _=>aG n⟩
def bR5 (ta:UA):UI:=λρ Q=>ta ρ λds ρ1=>match ds with
 | [.int i,.int j,.int m]=>m= -1/\(-(2^31)<=i/\i<2^31/\ -(2^31)<=j/\j<2^31)/\Q (i-j).toNat (λk=> .int (i-k)) ρ1
 | _=>False
theorem aY8 {a b:Expr}{ta:UA}(hg:Gl X "range")(hm:X.mg "range"=none)(ha:PUA X [a,b,c] ta)(hs:↥(starEach [a,b,c] X.env=[(false,eval a X.env),(false,eval b X.env),(false,eval c X.env)]))(hs2:↥(starEach [b,c] X.env=[(false,eval b X.env),(false,eval c X.env)])) :
  PUI X tg (.Call (.Name "range" p) [a,b,c] [] pos) (bR5 ta):=
 b38 (cY5 hg hm ha hs hs2) λσ H R ⟨C,ρ,Q0,I,h,k⟩=>⟨C,ρ,_,I,h,λds ρ1 vs H1 q f s r=>by
  split at q
  .rename_i i j m
   obtain⟨v,vr,rfl,rv,rr⟩:=r.uncons;obtain⟨w,wr,rfl,rw',rr'⟩:=rr.uncons;obtain⟨z,zr,rfl,rz,rr''⟩:=rr'.uncons;have:=rr''.unnil;subst this;have:=bN rv;subst this;have:=bN rw';subst this;have:=bN rz;subst this;obtain⟨hm,hb,q⟩:=q;subst hm;exact⟨i,j,rfl,hb,k _ _ ρ1 _ H1 q f s bR4⟩
  .exact q.elim⟩
end
end M
end
section
namespace L2
section
variable {X:Cx}{pins:List (Addr×Obj)}{σ:St}{H:Hp}{s:Shared}{h':Heap}
theorem Inv.turnedNew {o:HO}(I:Inv X pins σ H s)(k: ∀b u,b ∉ ch->s.heap.get? b=some u->h'.get? b=some u)(hf: ∀b∈ch,aY0 X pins H b)
  (hp:s.heap.objs.size<=a) (new:rH X.prog X.w (upd H a o) h' a o):Inv X pins σ (upd H a o) {s with heap:=h',toks:=t'}:=by
 have hn:H a=none:=I.hok.fresh hp;have nch: ∀b u,H b=some u->b ∉ ch:=λb u e z=>by have:=(hf b z).1;rw[e]at this;cases this
 refine I.step (g':=s.gens) (d':=s.drawn) (ch:=ch) (λb hb=>⟨(hf b hb).2.2.2.1,(hf b hb).2.1,(hf b hb).2.2.2.2.1,(hf b hb).2.2.2.2.2⟩) (λb u _ _ hc e _=>k b u hc e) (λb u _ _ hc e _=>⟨u.slots,k b u hc e⟩)
  (λb u _ e n=>by rw[cL<|bF<|b9 (aW e) hp];exact n) (λb u hc e=>⟨u,k b u hc e⟩)
  (λb xs e=>by rw[cL<|dD e hn];exact e) (λb ob u e=>by rw[cL<|dD e hn];exact e) (λb ps e=>⟨#[],by rw[cL<|dD e hn,e];simp⟩) (λm hm=> ?_) (λb u e=> ?_) I.bare
 .obtain⟨ob,es,ep,ho,r⟩:=hm;exact⟨ob,es,ep,k _ ob (λz=>(hf _ z).2.1 rfl) ho,r⟩
 .by_cases hb:b=a
  .subst hb;rw[iZ]at e;cases e;exact new
  .rw[cL hb]at e;refine(I.hok b u e).stay (λc v hc q=>k c v ?_ q) (λc q=>by rw[cL<|dD q hn];exact q) λc xs q=>by rw[cL<|dD q hn];exact q
   rcases hc with z|z
   .rw[z];exact nch b u e
   .exact nch c _ z
theorem Inv.turnedL (I:Inv X pins σ H s)(k: ∀b u,b ∉ ch->s.heap.get? b=some u->h'.get? b=some u)(hf: ∀b∈ch,aY0 X pins H b):Inv X pins σ H {s with heap:=h',toks:=t'}:=by
 have nch: ∀b u,H b=some u->b ∉ ch:=λb u e z=>by have:=(hf b z).1;rw[e]at this;cases this
 refine I.step (g':=s.gens) (d':=s.drawn) (ch:=ch) (λb hb=>⟨(hf b hb).2.2.2.1,(hf b hb).2.1,(hf b hb).2.2.2.2.1,(hf b hb).2.2.2.2.2⟩) (λb u _ _ hc e _=>k b u hc e) (λb u _ _ hc e _=>⟨u.slots,k b u hc e⟩)
  (λb u _ e n=>n) (λb u hc e=>⟨u,k b u hc e⟩) (λb xs e=>e) (λb ob u e=>e) (λb ps e=>⟨#[],by rw[e];simp⟩) (λm hm=> ?_) (λb u e=> ?_) I.bare
 .obtain⟨ob,es,ep,ho,r⟩:=hm;exact⟨ob,es,ep,k _ ob (λz=>(hf _ z).2.1 rfl) ho,r⟩
 .refine(I.hok b u e).stay (λc v hc q=>k c v ?_ q) (λc q=>q) λc xs q=>q
  rcases hc with z|z
  .rw[z];exact nch b u e
  .exact nch c _ z
end
def vR (T:Bool)(h:Heap)(a:Addr)(xs:Array Value):Prop:=match T with
 | false=>h.IsList a xs
 | true=>h.IsTuple a xs
def vS (T:Bool)(h:Heap)(it a:Addr)(i:Nat):Prop:=match T with
 | false=>h.IsListIter it a i
 | true=>h.IsTupleIter it a i
noncomputable def a91 (T:Bool)(a:Addr):Obj:=match T with
 | false=>{cls:= .type "list_iterator",data:= .fields #[.ref a,.int 0 0]}
 | true=>{cls:= .type "tuple_iterator",data:= .fields #[.ref a,.int 0 0]}
def SqV (K:PySem.W.Frag)(T:Bool)(H:Hp)(a:Addr)(xs:List V):Prop:=match T with
 | false=>SqL K H a xs
 | true=>SqT K H a xs
theorem vR.at (x:vR T h a xs)(e: ∀o,h.get? a=some o->h'.get? a=some o):vR T h' a xs:=by
 cases T<;>(obtain⟨o,ho,r⟩:=x;exact⟨o,e o ho,r⟩)
theorem vS.at (x:vS T h it a i)(e: ∀o,h.get? it=some o->h'.get? it=some o):vS T h' it a i:=by
 cases T<;>(obtain⟨o,ho,r⟩:=x;exact⟨o,e o ho,r⟩)
theorem vR.lt (x:vR T h a xs):a<h.objs.size:=by
 cases T<;>(obtain⟨o,ho,r⟩:=x;exact aW ho)
theorem vS.rec' (x:vS T h it a i): ∃o,h.get? it=some o/\ ∀v,o.data≠ .cell v:=by
 cases T<;>(obtain⟨o,ho,hc,hd⟩:=x;exact⟨o,ho,λv z=>by rw[hd]at z;cases z⟩)
theorem vS.new (h:Heap)(a:Addr):vS T (h.push<|a91 T a) h.objs.size a 0:=by
 cases T<;>exact⟨_,bV _ rfl,rfl,rfl⟩
section
variable {X:Cx}{pins:List (Addr×Obj)}{σ:St}{H:Hp}{s:Shared}
theorem Inv.sq {xs:List V}(I:Inv X pins σ H s)(h:SqV X.K T H a xs): ∃its:List Value,Vals xs its/\vR T s.heap a its.toArray/\xs.length<=sizeLine:=by
 cases T with
 | false=>obtain⟨its,rv,p,hz⟩:=I.list h;exact⟨its,rv,p.isList,hz⟩
 | true=>obtain⟨its,rv,p,hz⟩:=I.tuple h;exact⟨its,rv,p,hz⟩
theorem Inv.sq_inj {xs ys:List V}(I:Inv X pins σ H s)(h:SqV X.K T H a xs)(h':SqV X.K T H a ys):xs=ys:=by
 cases T with
 | false=>exact I.list_inj h h'
 | true=>exact I.tuple_inj h h'
end
section
variable {prog:Program}{w:World}{A:Around}{E:Value->Shared->Prop}{s:Shared}
theorem aG3 (hl:vR T s.heap a xs)(hQ:Q (.ref s.heap.objs.size) {s with heap:=s.heap.push (a91 T a)}) :
  wpAny (model prog w) A (pyIter<|.ref a) Q E s:=by
 cases T with
 | false=>exact zV hl hQ
 | true=>exact wpAny_pyIter_tuple hl hQ
theorem d92 {x:Value}(hit:s.heap.IsTupleIter it t i)(ht:s.heap.IsTuple t items)(hx:items[i]? =some x)
  (hQ: ∀h',h'.IsTupleIter it t (i+1)->SameBut it s.heap h'->Q x {s with heap:=h'}):wpAny (model prog w) A (Builtin.SmallTypes.nextOf<|.ref it) Q E s:=by
 obtain⟨oi,hoi,hci,hdi⟩:=id hit;obtain⟨ot,hot,_,nt,hdt⟩:=ht;unfold Builtin.SmallTypes.nextOf;refine a9 (kX (name:=Str.ofString "__next__") hit.typeIs zB<|j9 zB hit.typeIs PySem.F.entry_tuple_iterator_next ?_<|PySem.F.args_tuple_iterator_next_1 _);show wpAny _ _ (field (.ref it) 0 >>= _) _ _ s;refine a9 (dB hoi hdi (x:= .ref t) rfl ?_)
 show wpAny _ _ (if(Value.ref t==Value.none)=true then _ else _) _ _ s;rw[a6<|show ¬((Value.ref t==Value.none)=true)from bI]
 show wpAny _ _ (field (.ref it) 1 >>= _) _ _ s;refine a9 (dB hoi hdi (x:= .int i 0) rfl ?_)
 show wpAny _ _ (seqItems? (.ref t) >>= _) _ _ s;refine a9 (l6 hot hdt ?_)
 simp only[bX,hx];refine a9 (u7 hoi hdi ae<|aK ⟨x,rfl,aK<|hQ _ ⟨_,pN _ hoi<|aM9<|pU hdi _,(Obj.cls_mapFields ..).trans hci,?_⟩<|tW ..⟩)
 rw[pU hdi];simp[rawInt]
theorem cY6 (hh:A.handled=none)(hit:s.heap.IsTupleIter it t i)(ht:s.heap.IsTuple t items)(hx:items[i]? =none)
  (hE: ∀h' e,ExtBut it s.heap h'->(∃o,h'.get? e=some o/\o.cls= .type "StopIteration")->E (.ref e) {s with heap:=h'}):wpAny (model prog w) A (Builtin.SmallTypes.nextOf<|.ref it) Q E s:=by
 obtain⟨oi,hoi,hci,hdi⟩:=id hit;obtain⟨ot,hot,_,nt,hdt⟩:=ht;unfold Builtin.SmallTypes.nextOf;refine a9 (kX (name:=Str.ofString "__next__") hit.typeIs zB<|j9 zB hit.typeIs PySem.F.entry_tuple_iterator_next ?_<|PySem.F.args_tuple_iterator_next_1 _);show wpAny _ _ (field (.ref it) 0 >>= _) _ _ s;refine a9 (dB hoi hdi (x:= .ref t) rfl ?_)
 show wpAny _ _ (if(Value.ref t==Value.none)=true then _ else _) _ _ s;rw[a6<|show ¬((Value.ref t==Value.none)=true)from bI]
 show wpAny _ _ (field (.ref it) 1 >>= _) _ _ s;refine a9 (dB hoi hdi (x:= .int i 0) rfl ?_)
 show wpAny _ _ (seqItems? (.ref t) >>= _) _ _ s;refine a9 (l6 hot hdt ?_)
 simp only[bX,hx];refine a9 (qI<|a9<|u7 hoi hdi ae ?_)
 show wpAny _ _ (newExc (.type "StopIteration") [] >>= _) _ _ _;refine a9 ?_;simp only[newExc,newTuple];refine a9 (k8 ?_<|by size_fits)
 refine a9 (m:=firstArgMember _ _) (kG (a:=Value.none) (by first|rfl| (simp only[firstArgMember];rfl)) ?_);refine k8 ?_ (by size_fits)
 simp only[raiseNew];refine a9 (wpAny_handled ?_);first|rw[show A.in1.handled=none from hh]|rw[hh]
 exact a9 (aK<|wpAny_throw<|hE _ _ (((tW ..).extBut.push _).push _) ⟨_,bV _ rfl,rfl⟩)
theorem b92 {T:Bool}{it a:Addr}{i:Nat}{xs:Array Value}{x:Value}{Q:Value->Shared->Prop}(hit:vS T s.heap it a i)(hl:vR T s.heap a xs)(hx:xs[i]? =some x)
  (hQ: ∀h',vS T h' it a (i+1)->SameBut it s.heap h'->Q x {s with heap:=h'}):wpAny (model prog w) A (Builtin.SmallTypes.nextOf<|.ref it) Q E s:=by
 cases T with
 | false=>exact wpAny_nextOf_list_item hit hl hx hQ
 | true=>exact d92 hit hl hx hQ
theorem bB8 {T:Bool}{it a:Addr}{i:Nat}{xs:Array Value}{Q:Value->Shared->Prop}(hh:A.handled=none)(hit:vS T s.heap it a i)(hl:vR T s.heap a xs)(hx:xs[i]? =none)
  (hE: ∀h' e,ExtBut it s.heap h'->(∃o,h'.get? e=some o/\o.cls= .type "StopIteration")->E (.ref e) {s with heap:=h'}):wpAny (model prog w) A (Builtin.SmallTypes.nextOf<|.ref it) Q E s:=by
 cases T with
 | false=>exact wpAny_nextOf_list_end hh hit hl hx hE
 | true=>exact cY6 hh hit hl hx hE
end
structure ZSt (T1 T2:Bool)(z TI TO i1 i2 l1 l2:Addr)(f0:Value)(i:Nat)(h:Heap):Prop where
 hz:IsZip h z TI TO f0
 hI:IsPair h TI (.ref i1) (.ref i2)
 hO: ∃a b,IsPair h TO a b
 h1:vS T1 h i1 l1 i
 h2:vS T2 h i2 l2 i
structure ZAp (z TI TO i1 i2:Addr):Prop where
 a:TI≠z
 b:TO≠z
 c:i1≠z
 d:i2≠z
 e:TI≠TO
 f:TI≠i1
 g:TI≠i2
 h:TO≠i1
 i:TO≠i2
 j:i1≠i2
section
variable {prog:Program}{w:World}{A:Around}{E:Value->Shared->Prop}{s:Shared}{T1 T2:Bool}{z TI TO i1 i2 l1 l2:Addr}{k:Nat}{xs ys:Array Value}
theorem d93 {x y:Value}(D:ZAp z TI TO i1 i2)(n1:l1 ∉ [z,TI,TO,i1,i2])(n2:l2 ∉ [z,TI,TO,i1,i2])(st:ZSt T1 T2 z TI TO i1 i2 l1 l2 .none k s.heap)
  (hl1:vR T1 s.heap l1 xs) (hl2:vR T2 s.heap l2 ys) (hx:xs[k]? =some x) (hy:ys[k]? =some y)
  (hQ: ∀h',ZSt T1 T2 z TI TO i1 i2 l1 l2 (rawInt s.heap.objs.size) (k+1) h'->IsPair h' s.heap.objs.size x y->(∀c o,c ∉ [z,TI,TO,i1,i2]->s.heap.get? c=some o->h'.get? c=some o)->Q (.ref s.heap.objs.size) {s with heap:=h'}) :
  wpAny (model prog w) A (Builtin.«zip.__next__» ⟨[.ref z],[]⟩) (λfin s'=> ∃v,fin= .done (.ret v)/\Q v s') E s:=by
 obtain⟨hz,hI,⟨a0,b0,hO⟩,h1,h2⟩:=st;simp only[aZ,eB,eG,not_or]at n1 n2;show wpAny _ _ (field (.ref z) 2 >>= _) _ _ _;refine a9 (dB hz rfl (x:= .bool false) rfl ?_);show wpAny _ _ (field (.ref z) 3 >>= _) _ _ _;refine a9 (dB hz rfl (x:= .ref TI) rfl ?_);refine a9 (l6 hI rfl ?_);show wpAny _ _ (Builtin.SmallTypes.ownedTupleIsFree (.ref z) >>= _) _ _ _
 refine a9 ?_;unfold Builtin.SmallTypes.ownedTupleIsFree;refine a9 (dB hz rfl (x:= .none) rfl (aK ?_))
 simp only[cU];refine a9 (qI ?_);refine a9 (dB hz rfl (x:= .ref TO) rfl ?_);refine a9 (pV hz ae λg1 z1 m1=> ?_);replace z1:IsZip g1 z TI TO .ellipsis:=z1
 refine a9 ?_;simp only[List.zipIdx_cons,List.zipIdx_nil,a02,forIn_nil]
 refine a9 (a9<|a08 ?_);show wpAny _ _ (Builtin.SmallTypes.nextOf (.ref i1) >>= _) _ _ _
 refine a9 (b92 (s:={s with heap:=g1}) (h1.at λo e=>m1.extBut _ _ D.c e) (hl1.at λo e=>m1.extBut _ _ n1.1 e) hx λg2 p2 m2=>aK ?_)
 have o2:IsPair g2 TO a0 b0:=m2.extBut _ _ D.h (m1.extBut _ _ D.b hO);refine a9 (l6 o2 rfl ?_);refine a9 (aN3 o2 λg3 o3 m3=> ?_);replace o3:IsPair g3 TO x b0:=o3
 refine a9 (wpAny_letGo<|aK ?_)
 refine a9 (a9<|a08 ?_);show wpAny _ _ (Builtin.SmallTypes.nextOf (.ref i2) >>= _) _ _ _
 refine a9 (b92 (s:={s with heap:=g3}) (h2.at λo e=>m3.extBut _ _ D.i.symm (m2.extBut _ _ D.j.symm<|m1.extBut _ _ D.d e)) (hl2.at λo e=>m3.extBut _ _ n2.2.2.1 (m2.extBut _ _ n2.2.2.2.1<|m1.extBut _ _ n2.1 e)) hy λg4 p4 m4=>aK ?_)
 have o4:IsPair g4 TO x b0:=m4.extBut _ _ D.i o3;refine a9 (l6 o4 rfl ?_);refine a9 (aN3 o4 λg5 o5 m5=> ?_);replace o5:IsPair g5 TO x y:=o5
 refine a9 (wpAny_letGo<|aK<|aK ?_)
 refine a9 (l6 o5 rfl ?_);refine a9 (wpAny_newTuple ?_)
 have sz:g5.objs.size=s.heap.objs.size:=by rw[m5.1,m4.1,m3.1,m2.1,m1.1]
 have z5:IsZip g5 z TI TO .ellipsis:=m5.extBut _ _ D.b.symm (m4.extBut _ _ D.d.symm<|m3.extBut _ _ D.b.symm<|m2.extBut _ _ D.c.symm z1);have keep5: ∀c o,c≠z->c≠TO->c≠i1->c≠i2->s.heap.get? c=some o->g5.get? c=some o:=λc o c1 c2 c3 c4 e=>m5.extBut _ _ c2 (m4.extBut _ _ c4<|m3.extBut _ _ c2<|m2.extBut _ _ c3<|m1.extBut _ _ c1 e)
 have q1:vS T1 g5 i1 l1 (k+1):=p2.at λo e=>m5.extBut _ _ D.h.symm (m4.extBut _ _ D.j<|m3.extBut _ _ D.h.symm e)
 have q2:vS T2 g5 i2 l2 (k+1):=p4.at λo e=>m5.extBut _ _ D.i.symm e
 have zl:z<g5.objs.size:=aW z5;show wpAny _ _ (Builtin.SmallTypes.ownedTupleHandOut (.ref z) (.ref g5.objs.size) >>= _) _ _ _;refine a9 ?_;unfold Builtin.SmallTypes.ownedTupleHandOut;have z6:IsZip (g5.push {cls:= .type "tuple",data:= .seq #[x,y]}) z TI TO .ellipsis:=aV _ z5;refine a9 (pV z6 ae λg7 z7 m7=> ?_);replace z7:IsZip g7 z TI TO (rawInt g5.objs.size):=z7
 refine pV z7 ae λg8 z8 m8=> ?_;replace z8:IsZip g8 z TI TO (rawInt g5.objs.size):=z8
 have up: ∀c o,c≠z->g5.get? c=some o->g8.get? c=some o:=λc o c1 e=>m8.extBut _ _ c1 (m7.extBut _ _ c1<|aV _ e)
 have t8:IsPair g8 g5.objs.size x y:=m8.extBut _ _ (qD zl) (m7.extBut _ _ (qD zl)<|bV _ rfl);rw[sz]at z8 t8;refine aK ⟨_,rfl,?_⟩;show Q (.ref g5.objs.size) _;rw[sz];refine hQ g8 ⟨z8,up _ _ D.a<|keep5 _ _ D.a D.e D.f D.g hI,⟨x,y,up _ _ D.b o5⟩,q1.at λo e=>up _ _ D.c e,q2.at λo e=>up _ _ D.d e⟩ t8 λc o nc e=> ?_
 simp only[aZ,eB,eG,not_or]at nc;exact up c o nc.1 (keep5 c o nc.1 nc.2.2.1 nc.2.2.2.1 nc.2.2.2.2 e)
theorem cY7 {Q:Fin->Shared->Prop}(hh:A.handled=none)(D:ZAp z TI TO i1 i2)(n1:l1 ∉ [z,TI,TO,i1,i2])(n2:l2 ∉ [z,TI,TO,i1,i2])(st:ZSt T1 T2 z TI TO i1 i2 l1 l2 .none k s.heap)
  (hl1:vR T1 s.heap l1 xs) (hl2:vR T2 s.heap l2 ys) (hend:xs[k]? =none\/ys[k]? =none)
  (hE: ∀h' e,(∀c o,c ∉ [z,TI,TO,i1,i2]->s.heap.get? c=some o->h'.get? c=some o)->(∃o,h'.get? e=some o/\o.cls= .type "StopIteration")->E (.ref e) {s with heap:=h'}) :
  wpAny (model prog w) A (Builtin.«zip.__next__» ⟨[.ref z],[]⟩) Q E s:=by
 obtain⟨hz,hI,⟨a0,b0,hO⟩,h1,h2⟩:=st;simp only[aZ,eB,eG,not_or]at n1 n2;have nin: ∀c,c ∉ [z,TI,TO,i1,i2]->c≠z/\c≠TI/\c≠TO/\c≠i1/\c≠i2:=λc h=>by simpa only[aZ,eB,eG,not_or]using h
 show wpAny _ _ (field (.ref z) 2 >>= _) _ _ _;refine a9 (dB hz rfl (x:= .bool false) rfl ?_)
 show wpAny _ _ (field (.ref z) 3 >>= _) _ _ _;refine a9 (dB hz rfl (x:= .ref TI) rfl ?_)
 refine a9 (l6 hI rfl ?_);show wpAny _ _ (Builtin.SmallTypes.ownedTupleIsFree (.ref z) >>= _) _ _ _
 refine a9 ?_;unfold Builtin.SmallTypes.ownedTupleIsFree;refine a9 (dB hz rfl (x:= .none) rfl (aK ?_))
 simp only[cU];refine a9 (qI ?_);refine a9 (dB hz rfl (x:= .ref TO) rfl ?_);refine a9 (pV hz ae λg1 z1 m1=> ?_);replace z1:IsZip g1 z TI TO .ellipsis:=z1
 refine a9 ?_;simp only[List.zipIdx_cons,List.zipIdx_nil,a02,forIn_nil]
 refine a9 (a9<|a08 ?_);show wpAny _ _ (Builtin.SmallTypes.nextOf (.ref i1) >>= _) _ _ _
 cases hx:xs[k]? with
 | none=>
  refine a9 (bB8 (s:={s with heap:=g1}) hh (h1.at λo e=>m1.extBut _ _ D.c e) (hl1.at λo e=>m1.extBut _ _ n1.1 e) hx λg2 e m2 he=> ?_)
  obtain⟨oe,hoe,hce⟩:=he;have z2:IsZip g2 z TI TO .ellipsis:=m2 _ _ D.c.symm z1;have ez:e≠z:=λq=>by subst q;rw[z2]at hoe;cases hoe;simp at hce
  refine pV z2 ae λg3 _ m3=>hE g3 e (λc o nc q=> ?_) ⟨oe,m3.extBut _ _ ez hoe,hce⟩
  obtain⟨c1,c2,c3,c4,c5⟩:=nin c nc;exact m3.extBut _ _ c1 (m2 _ _ c4<|m1.extBut _ _ c1 q)
 | some x=>
  have hy:ys[k]? =none:=by rcases hend with q|q;(rw[hx]at q;cases q);exact q
  refine a9 (b92 (s:={s with heap:=g1}) (h1.at λo e=>m1.extBut _ _ D.c e) (hl1.at λo e=>m1.extBut _ _ n1.1 e) hx λg2 p2 m2=>aK ?_)
  have o2:IsPair g2 TO a0 b0:=m2.extBut _ _ D.h (m1.extBut _ _ D.b hO);refine a9 (l6 o2 rfl ?_);refine a9 (aN3 o2 λg3 o3 m3=> ?_)
  refine a9 (wpAny_letGo<|aK ?_);refine a9 (a9<|a08 ?_);show wpAny _ _ (Builtin.SmallTypes.nextOf (.ref i2) >>= _) _ _ _
  refine a9 (bB8 (s:={s with heap:=g3}) hh (h2.at λo e=>m3.extBut _ _ D.i.symm (m2.extBut _ _ D.j.symm<|m1.extBut _ _ D.d e)) (hl2.at λo e=>m3.extBut _ _ n2.2.2.1 (m2.extBut _ _ n2.2.2.2.1<|m1.extBut _ _ n2.1 e)) hy λg4 e m4 he=> ?_)
  obtain⟨oe,hoe,hce⟩:=he;have z4:IsZip g4 z TI TO .ellipsis:=m4 _ _ D.d.symm (m3.extBut _ _ D.b.symm<|m2.extBut _ _ D.c.symm z1);have ez:e≠z:=λq=>by subst q;rw[z4]at hoe;cases hoe;simp at hce
  refine pV z4 ae λg5 _ m5=>hE g5 e (λc o nc q=> ?_) ⟨oe,m5.extBut _ _ ez hoe,hce⟩
  obtain⟨c1,c2,c3,c4,c5⟩:=nin c nc;exact m5.extBut _ _ c1 (m4 _ _ c5<|m3.extBut _ _ c3<|m2.extBut _ _ c4<|m1.extBut _ _ c1 q)
end
noncomputable def Itz (K:PySem.W.Frag)(T1 T2:Bool)(l1 l2:Addr):It where
 go:=λi H=> ∃xs ys x y,SqV K T1 H l1 xs/\SqV K T2 H l2 ys/\xs[i]? =some x/\ys[i]? =some y
 yld:=λi H v H'=> ∃T x y,v= .ref T/\H T=none/\H'=upd H T (.tup [x,y])/\(∀xs,SqV K T1 H l1 xs->xs[i]? =some x)/\ ∀ys,SqV K T2 H l2 ys->ys[i]? =some y
 stop:=λi H=> ∃xs ys,SqV K T1 H l1 xs/\SqV K T2 H l2 ys/\(xs.length<=i\/ys.length<=i)
theorem ZSt.objs {z TI TO i1 i2:Addr}{f0:Value}(st:ZSt T1 T2 z TI TO i1 i2 l1 l2 f0 i h): ∀b∈[z,TI,TO,i1,i2],∃o,h.get? b=some o/\ ∀v,o.data≠ .cell v:=λb hb=>by
 obtain⟨hz,hI,⟨a,c,hO⟩,h1,h2⟩:=st;simp only[aZ,eB,eG]at hb;rcases hb with rfl|rfl|rfl|rfl|rfl
 .exact⟨_,hz,λv q=>by cases q⟩
 .exact⟨_,hI,λv q=>by cases q⟩
 .exact⟨_,hO,λv q=>by cases q⟩
 .exact h1.rec'
 .exact h2.rec'
theorem c71:2<=sizeLine:=ac
theorem d94 {z TI TO i1 i2:Addr}(D:ZAp z TI TO i1 i2)(n1:l1 ∉ [z,TI,TO,i1,i2])(n2:l2 ∉ [z,TI,TO,i1,i2]) :
  c53 P w K (.Tuple elts kt tp) (Itz K T1 T2 l1 l2) [z,TI,TO,i1,i2] z (ZSt T1 T2 z TI TO i1 i2 l1 l2 .none) where
 mem:=ae
 obj:=λi h st b hb=>st.objs b hb
 keep:=λi h h' st k=>by
  obtain⟨hz,hI,⟨a,c,hO⟩,h1,h2⟩:=st;exact⟨k z ae _ hz,k TI ae _ hI,⟨a,c,k TO ae _ hO⟩,h1.at λo e=>k i1 ae o e,h2.at λo e=>k i2 ae o e⟩
 item:=by
  intro X hP hw hK hc i pins s σ H E I hf st hg;subst hP hw hK;obtain⟨xs,ys,x,y,q1,q2,e1,e2⟩:=hg;obtain⟨is1,r1,p1,_⟩:=I.sq q1;obtain⟨is2,r2,p2,_⟩:=I.sq q2;obtain⟨u1,hu1,ru1⟩:=r1.get e1;obtain⟨u2,hu2,ru2⟩:=r2.get e2;have hT:s.TypeIs (.ref z) "zip":=⟨_,st.hz,rfl⟩;unfold pyNext
  refine a9 (nU<|kX (name:=Str.ofString "__next__") hT zK<|j9 zK hT PySem.F.entry_zip_next (d93 D n1 n2 st p1 p2 (by simpa using hu1) (by simpa using hu2) λh' st' ht k=>aK ?_)<|PySem.F.args_zip_next_1 _)
  refine⟨_,rfl,wpAny_letOwnedTupleGo_zip st'.hz λh2 hz2 m=> ?_⟩
  have kk: ∀b u,b ∉ [z,TI,TO,i1,i2]->s.heap.get? b=some u->h2.get? b=some u:=λb u nb e=>m.extBut _ _ (λq=>nb (by simp[q])) (k b u nb e)
  have hne:s.heap.objs.size≠z:=qD (aW st.hz);have ht2:IsPair h2 s.heap.objs.size u1 u2:=m.extBut _ _ hne ht;obtain⟨a',c',hO'⟩:=st'.hO;refine⟨.ref s.heap.objs.size,upd H s.heap.objs.size<|.tup [x,y],I.turnedNew (t':=s.toks) kk hf (aG _) ⟨c71,[u1,u2],.cons ru1<|.cons ru2 .nil,⟨_,ht2,rfl,_,rfl⟩⟩,rfl,
   ⟨_,x,y,rfl,I.hok.fresh<|aG _,rfl,λxs' q=>by rw[I.sq_inj q q1];exact e1,λys' q=>by rw[I.sq_inj q q2];exact e2⟩,⟨hz2,m.extBut _ _ D.a st'.hI,⟨a',c',m.extBut _ _ D.b hO'⟩,st'.h1.at λo e=>m.extBut _ _ D.c e,st'.h2.at λo e=>m.extBut _ _ D.d e⟩,λb hb=> ?_⟩
  obtain⟨o,ho,_⟩:=st.objs b hb;rw[cL<|bF<|aW ho];exact(hf b hb).1
 done:=by
  intro X hP hw hK hc i pins s σ H E I hf st hg;subst hP hw hK;obtain⟨xs,ys,q1,q2,hs⟩:=hg;obtain⟨is1,r1,p1,_⟩:=I.sq q1;obtain⟨is2,r2,p2,_⟩:=I.sq q2;have l1':=r1.length;have l2':=r2.length;have hT:s.TypeIs (.ref z) "zip":=⟨_,st.hz,rfl⟩;unfold pyNext
  refine a9 (nU<|kX (name:=Str.ofString "__next__") hT zK<|j9 zK hT PySem.F.entry_zip_next (cY7 (I.ok.hd hc) D n1 n2 st p1 p2 (by simp;omega) λh' e k he=> ?_)<|PySem.F.args_zip_next_1 _)
  obtain⟨o,ho,hc'⟩:=he;exact a9 (wpAny_isInstance (T:="StopIteration") (b:=true) ⟨o,ho,hc'⟩ isSubtype_stop<|aK ⟨rfl,I.turnedL (t':=s.toks) k hf⟩)
 self:=λ_ _ _ _ _ st h=>wpAny_pyIter_zip st.hz h
noncomputable abbrev zg1 (T1:Bool)(h:Heap)(l1:Addr):Heap:=h.push (a91 T1 l1)
noncomputable abbrev zg2 (T1 T2:Bool)(h:Heap)(l1 l2:Addr):Heap:=(zg1 T1 h l1).push (a91 T2 l2)
noncomputable abbrev zg3 (T1 T2:Bool)(h:Heap)(l1 l2:Addr):Heap:=(zg2 T1 T2 h l1 l2).push {cls:= .type "tuple",data:= .seq #[.ref h.objs.size,.ref (zg1 T1 h l1).objs.size]}
noncomputable abbrev zg4 (T1 T2:Bool)(h:Heap)(l1 l2:Addr):Heap:=(zg3 T1 T2 h l1 l2).push {cls:= .type "tuple",data:= .seq #[.none,.none]}
noncomputable abbrev zg5 (T1 T2:Bool)(h:Heap)(l1 l2:Addr):Heap:=(zg4 T1 T2 h l1 l2).push {cls:= .type "zip",data:= .fields #[.none,.bool false,.bool false,.ref (zg2 T1 T2 h l1 l2).objs.size,.ref (zg3 T1 T2 h l1 l2).objs.size]}
theorem dQ0 (T1 T2:Bool)(l1 l2:Addr)(xs ys:Array Value):Meets (Builtin.«zip.__new__» ⟨[.type "zip",.ref l1,.ref l2],[]⟩) (λ_ R s=>vR T1 s.heap l1 xs/\vR T2 s.heap l2 ys/\
  R (.ok<|.ret<|.ref (zg4 T1 T2 s.heap l1 l2).objs.size) {s with heap:=zg5 T1 T2 s.heap l1 l2}):= .of_wp λprog w A R s h=>by
 obtain⟨hp,g,d,tk,os⟩:=s;obtain⟨hl1,hl2,h⟩:=h;have hsub:=sub_zip;have e1:vR T1 (Shared.heap ⟨hp,g,d,tk,os⟩) l1 xs:=hl1;have e2:vR T2 (Shared.heap ⟨hp.push<|a91 T1 l1,g,d,tk,os⟩) l2 ys:=hl2.at λo e=>aV _ e
 wp_walk using aG3 e1,aG3 e2
 exact⟨_,rfl,h⟩
section
variable {prog:Program}{w:World}{A:Around}{E:Value->Shared->Prop}{s:Shared}
theorem d95 {ys:Array Value}(hl1:vR T1 s.heap l1 xs)(hl2:vR T2 s.heap l2 ys)
  (h: ∀h' z TI TO i1 i2,ZAp z TI TO i1 i2->(∀b∈[z,TI,TO,i1,i2],s.heap.objs.size<=b)->ZSt T1 T2 z TI TO i1 i2 l1 l2 .none 0 h'->(∀c o,s.heap.get? c=some o->h'.get? c=some o)->Q (.ref z) {s with heap:=h'}) :
  wpAny (model prog w) A (call (.type "zip") [.ref l1,.ref l2]) Q E s:=by
 refine callType_new PySem.F.called_zip ac (PySem.F.typeCall_zip_2 _ _) (PySem.F.newCall_zip_2 _ _) (λobj=>PySem.F.args_object_init_3 obj _ _) PySem.F.entry_zip_new (dQ0 T1 T2 l1 l2 xs ys) ⟨hl1,hl2,?_⟩
 have z1:(zg1 T1 s.heap l1).objs.size=s.heap.objs.size+1:=jC ..;have z2:(zg2 T1 T2 s.heap l1 l2).objs.size=s.heap.objs.size+2:=by rw[jC,z1]
 have z3:(zg3 T1 T2 s.heap l1 l2).objs.size=s.heap.objs.size+3:=by rw[jC,z2]
 have z4:(zg4 T1 T2 s.heap l1 l2).objs.size=s.heap.objs.size+4:=by rw[jC,z3]
 have g5:(zg5 T1 T2 s.heap l1 l2).get? (zg4 T1 T2 s.heap l1 l2).objs.size=some _:=bV _ rfl;have g4:(zg5 T1 T2 s.heap l1 l2).get? (zg3 T1 T2 s.heap l1 l2).objs.size=some _:=aV _ (bV _ rfl);have g3:(zg5 T1 T2 s.heap l1 l2).get? (zg2 T1 T2 s.heap l1 l2).objs.size=some _:=aV _ (aV _<|bV _ rfl)
 have s2:vS T2 (zg5 T1 T2 s.heap l1 l2) (zg1 T1 s.heap l1).objs.size l2 0:=(vS.new (zg1 T1 s.heap l1) l2).at λo e=>aV _ (aV _<|aV _ e)
 have s1:vS T1 (zg5 T1 T2 s.heap l1 l2) s.heap.objs.size l1 0:=(vS.new s.heap l1).at λo e=>aV _ (aV _<|aV _<|aV _ e)
 have ap:ZAp (zg4 T1 T2 s.heap l1 l2).objs.size (zg2 T1 T2 s.heap l1 l2).objs.size (zg3 T1 T2 s.heap l1 l2).objs.size s.heap.objs.size (zg1 T1 s.heap l1).objs.size:=by
  rw[z1,z2,z3,z4];have k: ∀n a b:Nat,a≠b->n+a≠n+b:=λn a b h=>aa
  exact⟨k _ 2 4 ac,k _ 3 4 ac,k _ 0 4 ac,k _ 1 4 ac,k _ 2 3 ac,k _ 2 0 ac,k _ 2 1 ac,k _ 3 0 ac,k _ 3 1 ac,k _ 0 1 ac⟩
 refine⟨⟨_,g5,rfl⟩,h _ _ _ _ _ _ ap (λb hb=> ?_) ⟨g5,g3,⟨_,_,g4⟩,s1,s2⟩ λc o e=>aV _ (aV _<|aV _<|aV _<|aV _ e)⟩
 rw[z1,z2,z3,z4]at hb;simp only[aZ,eB,eG]at hb;rcases hb with rfl|rfl|rfl|rfl|rfl<;>omega
end
section
variable {X:Cx}
def iZip (K:PySem.W.Frag)(ta:TA):TI:=λσ H R=>ta σ H λvs H1=> ∃l1 l2 T1 T2 xs ys,vs=[.ref l1,.ref l2]/\SqV K T1 H1 l1 xs/\SqV K T2 H1 l2 ys/\R (Itz K T1 T2 l1 l2) H1
theorem pi_zip {a b:Expr}{ta:TA}(hg:Gl X "zip")(hm:X.mg "zip"=none)(ha:PA X [a,b] ta)(hs:↥(starEach [a,b] X.env=[(false,eval a X.env),(false,eval b X.env)]))(hs2:↥(starEach [b] X.env=[(false,eval b X.env)])) :
  PI X (.Tuple elts kt tp) (.Call (.Name "zip" p) [a,b] [] pos) (iZip X.K ta):=by
 intro pins s σ H R I h;refine Call_ (uF I hg hm PyProof.Rows.boot_zip<|jX (thn (ha pos pins s σ H _ I h) λus s1 ⟨vs,H1,I1,r1,q1⟩=> ?_) (by rw[hs,hs2]) (by rw[hs2];rfl))
 obtain⟨l1,l2,T1,T2,xs,ys,e,q1,q2,q⟩:=q1;subst e;obtain⟨u,v,rfl,r,r'⟩:=Vals.two r1;cases r;cases r';obtain⟨is1,_,p1,_⟩:=I1.sq q1;obtain⟨is2,_,p2,_⟩:=I1.sq q2;refine d95 p1 p2 λh' z TI TO i1 i2 ap fr st k=>wpAny_pyIter_zip st.hz ?_
 have nl: ∀l,l<s1.heap.objs.size->l ∉ [z,TI,TO,i1,i2]:=λl hl hb=>absurd (b9 hl<|fr l hb) (d3 _)
 exact⟨z,[z,TI,TO,i1,i2],_,_,H1,rfl,I1.kept (t':=s1.toks) k,d94 ap (nl l1 p1.lt)<|nl l2 p2.lt,st,λb hb=>I1.fpOk (fr b hb) (I1.hok.fresh<|fr b hb),q⟩
end
theorem c72 (hh:A.handled=none)(it a:Addr)(hne:a≠it)(xs:Array Value):Draws prog w A it [it,a] xs.size (λi v=>xs[i]? =some v) (λi h=>vS T h it a i/\vR T h a xs) where
 live:=λ_ _ st=>let ⟨o,ho,_⟩:=st.1.rec';⟨o,ho⟩
 frame:=λ_ _ _ st k=>⟨st.1.at λo e=>k it ae o e,st.2.at λo e=>k a ae o e⟩
 item:=λi s Q E hi st hQ=>b92 st.1 st.2 (x:=xs[i]) (by simp[hi]) λh' hit' m=>hQ _ h' s.toks (by simp[hi]) ⟨hit',st.2.at λo e=>m.extBut _ _ hne e⟩ m
 done:=λs Q E st hE=>bB8 hh st.1 st.2 ae hE
noncomputable def Ite (K:PySem.W.Frag)(T:Bool)(l:Addr):It where
 go:=λi H=> ∃xs x,SqV K T H l xs/\xs[i]? =some x
 yld:=λi H v H'=> ∃Tn x,v= .ref Tn/\H Tn=none/\H'=upd H Tn (.tup [.int (i:Int),x])/\ ∀xs,SqV K T H l xs->xs[i]? =some x
 stop:=λi H=> ∃xs,SqV K T H l xs/\xs.length=i
def ESt (T:Bool)(e it l:Addr)(i:Nat)(h:Heap):Prop:=(∃old,IsEnum h e it i old)/\vS T h it l i
theorem ESt.objs {e:Addr}(st:ESt T e it l i h): ∀b∈[e,it],∃o,h.get? b=some o/\ ∀v,o.data≠ .cell v:=λb hb=>by
 obtain⟨⟨old,he⟩,h1⟩:=st;simp only[aZ,eB,eG]at hb;rcases hb with rfl|rfl
 .exact⟨_,he,λv q=>by cases q⟩
 .exact h1.rec'
theorem cY8 {e:Addr}(hei:e≠it)(nl:l ∉ [e,it]):c53 P w K (.Tuple elts kt tp) (Ite K T l) [e,it] e (ESt T e it l) where
 mem:=ae
 obj:=λi h st b hb=>st.objs b hb
 keep:=λi h h' st k=>by
  obtain⟨⟨old,he⟩,h1⟩:=st;exact⟨⟨old,k e ae _ he⟩,h1.at λo q=>k it ae o q⟩
 item:=by
  intro X hP hw hK hc i pins s σ H E I hf st hg;subst hP hw hK;obtain⟨xs,x,q1,e1⟩:=hg;obtain⟨is1,r1,p1,_⟩:=I.sq q1;obtain⟨u1,hu1,ru1⟩:=r1.get e1;simp only[aZ,eB,eG,not_or]at nl;obtain⟨⟨old,he⟩,h1⟩:=id st;have hi:i<is1.toArray.size:=by rw[bC];exact(jY.mp hu1).1
  have D:=c72 (prog:=X.prog) (w:=X.w) (A:=X.A.in1) (T:=T) (I.ok.hd hc) it l nl.2 is1.toArray;refine wpAny_pyNext_enum_itemD D he ⟨h1,p1⟩ hi hei (by simp[hei,Ne.symm nl.1]) λv h' tk hv ho hs' ht hsz k=>⟨_,rfl,wpAny_letOwnedTupleGo_enum ho λh2 he2 m=> ?_⟩
  have ev:v=u1:=by
   have:is1.toArray[i]? =some u1:=by simpa using hu1
   rw[this]at hv;cases hv;rfl
  subst ev;have hne:s.heap.objs.size≠e:=qD (aW he);have kk: ∀b u,b ∉ [e,it]->s.heap.get? b=some u->h2.get? b=some u:=λb u nb q=>by
   simp only[aZ,eB,eG,not_or]at nb;exact m.extBut _ _ nb.1 (k b u nb.1 nb.2 q)
  have ht2:h2.get? s.heap.objs.size=some {cls:= .type "tuple",data:= .seq #[.int i tk,v]}:=m.extBut _ _ hne ht;refine⟨.ref s.heap.objs.size,upd H s.heap.objs.size<|.tup [.int (i:Int),x],I.turnedNew (t':=tk+1) kk hf (aG _) ⟨c71,[.int i tk,v],.cons ⟨tk,rfl⟩<|.cons ru1 .nil,⟨_,ht2,rfl,_,rfl⟩⟩,rfl,
   ⟨_,x,rfl,I.hok.fresh<|aG _,rfl,λxs' q=>by rw[I.sq_inj q q1];exact e1⟩,⟨⟨_,by simpa using he2⟩,hs'.1.at λo q=>m.extBut _ _ (Ne.symm hei) q⟩,λb hb=> ?_⟩
  obtain⟨o,ho',_⟩:=st.objs b hb;rw[cL<|bF<|aW ho'];exact(hf b hb).1
 done:=by
  intro X hP hw hK hc i pins s σ H E I hf st hg;subst hP hw hK;obtain⟨xs,q1,hl⟩:=hg;obtain⟨is1,r1,p1,_⟩:=I.sq q1;have l1':=r1.length;simp only[aZ,eB,eG,not_or]at nl;obtain⟨⟨old,he⟩,h1⟩:=id st;have D:=c72 (prog:=X.prog) (w:=X.w) (A:=X.A.in1) (T:=T) (I.ok.hd hc) it l nl.2 is1.toArray
  refine wpAny_pyNext_enum_endD D he ⟨by rw[bC,<-l1',hl];exact h1,p1⟩ λh' ex=>⟨rfl,I.turnedL (t':=s.toks) (λb u nb q=>ex b u (λz=>nb (by simp[z])) q) hf⟩
 self:=λ_ _ _ _ _ st h=>by
  obtain⟨⟨old,he⟩,_⟩:=st;exact wpAny_pyIter_enum he h
theorem cY9 (l:Addr)(xs:Array Value):Meets (Builtin.«enumerate.__new__» ⟨[.type "enumerate",.ref l],[]⟩) (λ_ R s=>s.heap.IsTuple l xs/\
  R (.ok<|.ret<|.ref (s.heap.push<|a91 true l).objs.size) {s with heap:=(s.heap.push<|a91 true l).push {cls:= .type "enumerate",data:= .fields #[.none,.bool false,.ref s.heap.objs.size,rawInt 0,.none,.none]}}):= .of_wp λprog w A R s h=>by
 obtain⟨hp,g,d,tk,os⟩:=s;obtain⟨hl,h⟩:=h;obtain⟨⟨c,dct,dt,sl⟩,hg,hc,n,hd⟩:=id hl
 replace hc:c= .type "tuple":=hc
 replace hd:dt= .seq xs n:=hd
 subst hc hd;have hsub:=sub_enumerate;have e1:vR true (Shared.heap ⟨hp,g,d,tk,os⟩) l xs:=hl
 wp_walk using aL8 hg
 refine wpAny_stack_any λst=>aK ?_
 split
 .rename_i c _ _ _ _ _
  cases (c==Value.type "enumerate")<;>(wp_walk using aL8 hg,aG3 e1;exact⟨_,rfl,h⟩)
 .wp_walk using aL8 hg,aG3 e1
  exact⟨_,rfl,h⟩
section
variable {prog:Program}{w:World}{A:Around}{E:Value->Shared->Prop}{s:Shared}
theorem cZ0 {T:Bool}{l:Addr}{xs:Array Value}{Q:Value->Shared->Prop}(hl:vR T s.heap l xs)
  (h: ∀h' e it,e≠it->s.heap.objs.size<=e->s.heap.objs.size<=it->ESt T e it l 0 h'->(∀c o,s.heap.get? c=some o->h'.get? c=some o)->Q (.ref e) {s with heap:=h'}) :
  wpAny (model prog w) A (call (.type "enumerate") [.ref l]) Q E s:=by
 cases T with
 | false=>exact call_enumerate_list hl λh' he hit hsz k=>h h' _ _ aa aa aa ⟨⟨_,he⟩,hit⟩ k
 | true=>
  refine callType_new PySem.F.called_enumerate ac (PySem.F.typeCall_enumerate_1 _) (PySem.F.newCall_enumerate_1 _) (λobj=>PySem.F.args_object_init_2 obj _) PySem.F.entry_enumerate_new (cY9 l xs) ⟨hl,?_⟩
  have z1:(s.heap.push<|a91 true l).objs.size=s.heap.objs.size+1:=jC ..;have he:IsEnum ((s.heap.push<|a91 true l).push {cls:= .type "enumerate",data:= .fields #[.none,.bool false,.ref s.heap.objs.size,rawInt 0,.none,.none]}) (s.heap.push<|a91 true l).objs.size s.heap.objs.size 0 .none:=bV _ rfl
  have hi:vS true ((s.heap.push<|a91 true l).push {cls:= .type "enumerate",data:= .fields #[.none,.bool false,.ref s.heap.objs.size,rawInt 0,.none,.none]}) s.heap.objs.size l 0:=(vS.new (T:=true) s.heap l).at λo e=>aV _ e
  exact⟨⟨_,he,rfl⟩,h _ _ _ (by rw[z1];omega) (by rw[z1];omega) (aG _) ⟨⟨_,he⟩,hi⟩ λc o e=>aV _ (aV _ e)⟩
end
section
variable {X:Cx}
def iEnum (K:PySem.W.Frag)(ta:TA):TI:=λσ H R=>ta σ H λvs H1=> ∃l T xs,vs=[.ref l]/\SqV K T H1 l xs/\R (Ite K T l) H1
theorem dQ1 {a:Expr}{ta:TA}(hg:Gl X "enumerate")(hm:X.mg "enumerate"=none)(ha:PA X [a] ta)(hs:↥(starEach [a] X.env=[(false,eval a X.env)])) :
  PI X (.Tuple elts kt tp) (.Call (.Name "enumerate" p) [a] [] pos) (iEnum X.K ta):=by
 intro pins s σ H R I h;refine Call_ (uF I hg hm PyProof.Rows.boot_enumerate<|jX (thn (ha pos pins s σ H _ I h) λus s1 ⟨vs,H1,I1,r1,q1⟩=> ?_) hs rfl)
 obtain⟨l,T,xs,e,q1,q⟩:=q1;subst e;obtain⟨u,rfl,r⟩:=vals1 r1;cases r;obtain⟨is1,_,p1,_⟩:=I1.sq q1;refine cZ0 p1 λh' e it ne f1 f2 st k=> ?_
 obtain⟨⟨old,he⟩,_⟩:=id st;refine wpAny_pyIter_enum he ?_;have lt:=p1.lt;have fr: ∀b∈[e,it],s1.heap.objs.size<=b:=λb hb=>by
  simp only[aZ,eB,eG]at hb;rcases hb with rfl|rfl
  .exact f1
  .exact f2
 exact⟨e,[e,it],_,_,H1,rfl,I1.kept (t':=s1.toks) k,cY8 ne λhb=>absurd (b9 lt<|fr l hb) (d3 _),st,λb hb=>I1.fpOk (fr b hb) (I1.hok.fresh<|fr b hb),q⟩
end
theorem b69:isSubtype (.type "range_iterator") (.type "reversed")=pure false:=by rw[qA];kernel_rfl
theorem aY9 {n:Int}(h1: -(2^31)<=n)(h2:n<2^31):Builtin.Range.rangeFitsLong n=true:=by
 simp[Builtin.Range.rangeFitsLong]
 lia
noncomputable def aT4 (n:Int):Obj:={cls:= .type "range_iterator",data:= .fields #[rawInt<|(n.toNat:Int)-1,rawInt (n.toNat:Int),rawInt<|-1]}
theorem bL9 (r:Addr)(a b c:Int)(t u v:Tok)(hc0: ¬(!(Builtin.Range.rangeFitsLong a&&Builtin.Range.rangeFitsLong b&&Builtin.Range.rangeFitsLong c&&Builtin.Range.rangeFitsLong (-c)&&Builtin.Range.rangeFitsLong (a-c)&&Builtin.Range.rangeFitsLong (Builtin.Range.rangeSize a b c)))=true) :
  Meets (Builtin.«range.__reversed__» ⟨[.ref r],[]⟩) (λ_ R s=>s.heap.get? r=some {cls:= .type "range",dict:=none,data:= .fields #[.int a t,.int b u,.int c v],slots:= #[]}/\
  R (.ok<|.ret<|Value.ref s.heap.objs.size) {s with heap:=s.heap.push {cls:=Value.type (if(Builtin.Range.rangeFitsLong a&&Builtin.Range.rangeFitsLong b&&Builtin.Range.rangeFitsLong c&&Builtin.Range.rangeFitsLong (-c)&&Builtin.Range.rangeFitsLong (a-c)&&Builtin.Range.rangeFitsLong (Builtin.Range.rangeSize a b c))=true then "range_iterator" else "longrange_iterator"),data:=Data.fields #[rawInt<|a+(Builtin.Range.rangeSize a b c-1)*c,rawInt<|Builtin.Range.rangeSize a b c,rawInt<|-c]},toks:=s.toks}):= .of_wp λprog w A R s h=>by
 obtain⟨hp,g,d,tk,os⟩:=s;obtain⟨hl,h⟩:=h
 wp_walk
 exact⟨_,rfl,h⟩
theorem b70 (r:Addr)(n:Int)(t u v:Tok)(h1: -(2^31)<=n)(h2:n<2^31):Meets (Builtin.«range.__reversed__» ⟨[.ref r],[]⟩) (λ_ R s=>IsRange s.heap r 0 n 1 t u v/\
  R (.ok<|.ret<|.ref s.heap.objs.size) {s with heap:=s.heap.push (aT4 n)}):=by
 have e0:Builtin.Range.rangeSize 0 n 1=(n.toNat:Int):=by rw[rangeSize_one];split<;>lia
 have sm:(Builtin.Range.rangeFitsLong 0&&Builtin.Range.rangeFitsLong n&&Builtin.Range.rangeFitsLong 1&&Builtin.Range.rangeFitsLong (-1)&&Builtin.Range.rangeFitsLong (0-1)&&Builtin.Range.rangeFitsLong (Builtin.Range.rangeSize 0 n 1))=true:=by
  rw[e0,aY9 h1 h2,aY9 (n:=0) ac ac,aY9 (n:=1) ac ac,aY9 (n:= -1) ac ac,aY9 (n:=0-1) ac ac,aY9 (n:=(n.toNat:Int)) ad ad]
  rfl
 have G:=bL9 r 0 n 1 t u v (by rw[sm];decide)
 intro prog w A R s h;refine G prog w A R s ⟨h.1,?_⟩;rw[sm,a7 rfl,e0];have e1:(0:Int)+((n.toNat:Int)-1)*1=(n.toNat:Int)-1:=ad
 rw[e1];exact h.2
section
variable {prog:Program}{w:World}{A:Around}{E:Value->Shared->Prop}{s:Shared}
theorem c73 {r:Addr}{n:Int}{t u v:Tok}{Q₁:Value->Shared->Prop}(hr:IsRange s.heap r 0 n 1 t u v)(h1: -(2^31)<=n)(h2:n<2^31)
  (h:Q₁ (.ref s.heap.objs.size) {s with heap:=s.heap.push (aT4 n)}) :
  codeAny (model prog w) A (.call (.builtin "reversed.__new__") ⟨[.type "reversed",.ref r],[]⟩) (wants Q₁ E) s:=by
 have hT:s.TypeIs (.ref r) "range":=⟨_,hr,rfl⟩;refine codeAny_of_tree ?_;show wpAny _ A.in1 (do checkBuiltinCall "reversed.__new__" ⟨[.type "reversed",.ref r],[]⟩;again (.builtin "reversed.__new__" ⟨[.type "reversed",.ref r],[]⟩)) _ _ s;refine a9 (kG (PySem.F.newCall_reversed_1 _)<|aK ⟨plainId_quiet PySem.F.plain_reversed_new _,codeAny_builtin PySem.F.entry_reversed_new ?_⟩)
 rw[Around.under_plainId PySem.F.plain_reversed_new _];unfold Builtin.«reversed.__new__»;refine a9 (kG (newClass_reversed _) ?_);try dsimp only
 refine a9 (kG (a:=()) (by first|rfl|kernel_rfl) ?_);refine a9 (kG (a:=()) (by first|rfl|kernel_rfl) ?_);try dsimp only
 refine a9 (wpAny_specialOf hT PySem.F.slot_range_reversed.lookup ?_);try dsimp only
 refine a9 (kG (PySem.F.slot_range_reversed.bind _) ?_);try dsimp only
 first
 | rw[a6<|show ¬((Value.builtin "range.__reversed__"==Value.none)=true)from bI]
 | (show wpAny _ _ (if(Value.builtin "range.__reversed__"==Value.none)=true then _ else _) _ _ _;rw[a6<|show ¬((Value.builtin "range.__reversed__"==Value.none)=true)from bI])
 refine a9 (qI ?_)
 refine a9 (m:=runValue (.call (.builtin "range.__reversed__") ⟨[.ref r],[]⟩)) (show wpAny _ _ (call (.builtin "range.__reversed__") [.ref r]) _ _ _ from l8 PySem.F.slot_range_reversed hT PySem.F.entry_range_reversed (PySem.F.args_range_reversed_1 _) (b70 r n t u v h1 h2) ⟨hr,?_⟩)
 first
 | exact aK h
 | exact a9 (aK<|aK h)
theorem dQ2 {r:Addr}{n:Int}{t u v:Tok}(hr:IsRange s.heap r 0 n 1 t u v)(h1: -(2^31)<=n)(h2:n<2^31)(h:Q (.ref s.heap.objs.size) {s with heap:=s.heap.push (aT4 n)}) :
  wpAny (model prog w) A (call (.type "reversed") [.ref r]) Q E s:=by
 refine callType_other (U:="range_iterator") (Q₁:=λobj s₁=>obj= .ref s.heap.objs.size/\s₁={s with heap:=s.heap.push (aT4 n)}) af PySem.F.create_reversed ⟨_,_,PySem.F.mro_reversed⟩ PySem.F.made_reversed b69 (PySem.F.typeCall_reversed_1 _) (c73 hr h1 h2 ⟨rfl,rfl⟩) ?_
 rintro obj s₁ ⟨rfl,rfl⟩;exact⟨⟨_,bV _ rfl,rfl⟩,h⟩
end
section
variable {X:Cx}{tg:Expr}
def iRevR (ta:TA):TI:=λσ H R=>ta σ H λvs H1=> ∃j:Int,vs=[.int j]/\ -(2^31)<=j/\j<2^31/\R (Itd ((j.toNat:Int)-1) j.toNat) H1
theorem c74 {a:Expr}{ta:TA}{pos2:Pos}(hg:Gl X "reversed")(hm:X.mg "reversed"=none)(hg2:Gl X "range")(hm2:X.mg "range"=none)(ha:PA X [a] ta)(hs:↥(starEach [a] X.env=[(false,eval a X.env)]))
  (hs2:↥(starEach [.Call (.Name "range" p2) [a] [] pos2] X.env=[(false,eval (.Call (.Name "range" p2) [a] [] pos2) X.env)])) :
  PI X tg (.Call (.Name "reversed" p) [.Call (.Name "range" p2) [a] [] pos2] [] pos) (iRevR ta):=by
 intro pins s σ H R I h;refine Call_ (uF I hg hm PyProof.Rows.boot_reversed<|jX ?_ hs2 rfl);rw[hs2];show wpAny _ _ (spliced ((false,eval (.Call (.Name "range" p2) [a] [] pos2) X.env)::[])) _ _ s;refine Calls.spliced_cons (Call_<|uF I hg2 hm2 boot_range<|jX (thn (ha pos2 pins s σ H _ I h) λus s1 ⟨vs,H1,I1,r1,q1⟩=> ?_) hs rfl)
 obtain⟨j,e,q1,q2,q⟩:=q1;subst e;obtain⟨u,rfl,t,rfl⟩:=vals1 r1;refine call_range_1 (Calls.spliced_nil ?_);have I2:Inv X pins σ H1 {s1 with heap:=s1.heap.push {cls:= .type "range",data:= .fields #[.int 0 s1.toks,.int j t,.int 1<|s1.toks+1]},toks:=s1.toks+1+1}:=I1.kept λb o e=>aV _ e
 refine dQ2 (IsRange.new ..) q1 q2 ?_
 have hi:IsRangeIter (((s1.heap.push {cls:= .type "range",data:= .fields #[.int 0 s1.toks,.int j t,.int 1<|s1.toks+1]})).push<|aT4 j) (s1.heap.push {cls:= .type "range",data:= .fields #[.int 0 s1.toks,.int j t,.int 1<|s1.toks+1]}).objs.size ((j.toNat:Int)-1) (j.toNat:Int) (-1):=bV _ rfl;refine aM4 hi ?_
 refine⟨_,[(s1.heap.push {cls:= .type "range",data:= .fields #[.int 0 s1.toks,.int j t,.int 1<|s1.toks+1]}).objs.size],_,_,H1,rfl,I2.kept (t':=s1.toks+1+1) λb o e=>aV _ e,bR2 _ ((j.toNat:Int)-1) j.toNat,?_,λb hb=> ?_,q⟩
 .show IsRangeIter _ _ (((j.toNat:Int)-1)+((0:Nat):Int)*(-1)) ((j.toNat:Int)-((0:Nat):Int)) (-1)
  have e1:((j.toNat:Int)-1)+((0:Nat):Int)*(-1)=(j.toNat:Int)-1:=ae
  have e2:(j.toNat:Int)-((0:Nat):Int)=(j.toNat:Int):=ae
  rw[e1,e2];exact hi
 .have e:b=(s1.heap.push {cls:= .type "range",data:= .fields #[.int 0 s1.toks,.int j t,.int 1<|s1.toks+1]}).objs.size:=by simpa using hb
  subst e;exact I2.fpOk (aG _) (I2.hok.fresh<|aG _)
theorem d96:PGet X (rIxL X.K):=by
 intro pins s σ H o i ov iv Q I ro ri h;obtain⟨p,xs,k,z,rfl,rfl,hq,he,q⟩:=h;cases ro;obtain⟨t,rfl⟩:=ri;obtain⟨its,r,pl,hz⟩:=I.list hq;obtain⟨j,h1,h2,h3,h4,h5⟩:=b90 he;obtain⟨w,ew,rw'⟩:=r.get h2;have hl:=r.length;have hn:=aY1;have fin:EP X pins σ Q w s:=⟨z,H,I,rw',q⟩
 by_cases h0:0<=k
 .have hj:k.toNat=j:=by
   rw[a18 h0 h5]at h1;exact hJ h1
  exact wpAny_getItem_list pl.isList h0 ad (by rw[hj];simpa using ew) fin
 .have hj:(k+(its.toArray.size:Int)).toNat=j:=by
   rw[a11 ad h4]at h1
   rw[bC,<-hl];exact hJ h1
  exact wpAny_getItem_list_neg pl.isList ad (by rw[bC]<;>lia) ad (by rw[hj];simpa using ew) fin
end
end L2
namespace HT
open PySem PyProof.Rows
section
variable {prog:Program}{w:World}{A:Around}{E:Value->Shared->Prop}{s:Shared}
theorem getItem_tuple_whole {lo:Option Int}(ht:IsTup s.heap t items)(hs:s.heap.IsSliceOf sl vl vu .none)(pl:IsPart vl lo)(pu:IsPart vu hi)
  (hw:sIx items.size 0 lo=0/\sIx items.size items.size hi=items.size) (h:Q (.ref t) s):wpAny (model prog w) A (getItem (.ref t)<|.ref sl) Q E s:=by
 obtain⟨os,hos,hcs,hds⟩:=id hs;have hTs:s.TypeIs (.ref sl) "slice":=⟨os,hos,hcs⟩;unfold getItem;try with_reducible refine hX ?_
 first|refine a9 (aK ?_)|skip
 refine a9 (wpAny_sequenceKey ht.typeIs ac ?_)
 refine a9 (kX (name:=Str.ofString "__getitem__") ht.typeIs zC<|j9 zC ht.typeIs entry_tuple_getitem ?_<|args_tuple_getitem _ _)
 show wpAny _ _ (Builtin.Tuple.tupleItemsOf (.ref t) >>= _) _ _ s
 refine a9 (tupleItemsOf_ ht ?_)
 refine a9 (a10 hTs ?_)
 rw[a7 ac]
 refine a9 (yE hs pl pu ?_)
 have hyes:(((sIx items.size 0 lo:Nat):Int)==0&&(1:Int)==1&&(sIx items.size items.size hi-sIx items.size 0 lo)==items.size)=true:=by
  rw[hw.1,hw.2];simp
 show wpAny _ _ (if(((sIx items.size 0 lo:Nat):Int)==0&&(1:Int)==1&&(sIx items.size items.size hi-sIx items.size 0 lo)==items.size)=true then _ else _) _ _ s
 rw[a7 hyes];show wpAny _ _ (Builtin.Tuple.tupleIsExact (.ref t) >>= _) _ _ s;unfold Builtin.Tuple.tupleIsExact;refine a9 (a9<|a10 ht.typeIs<|aK ?_);show wpAny _ _ (if(Value.type "tuple"==Value.type "tuple")=true then _ else _) _ _ s;rw[a7 ac]
 refine a9 (qI ?_)
 first
  | exact aK ⟨_,rfl,aK h⟩
  | exact a9 (aK<|aK ⟨_,rfl,aK h⟩)
  | exact a9 (aK ⟨_,rfl,aK h⟩)
end
end HT
namespace L2
section
variable {X:Cx}
def rSlW (K:PySem.W.Frag):V->Option Int->Option Int->Hp->VK->Prop:=λx lo hi H Q=> ∃a xs,x= .ref a/\SqT K H a xs/\(HT.sIx xs.length 0 lo=0/\HT.sIx xs.length xs.length hi=xs.length)/\Q (.ref a) H
theorem d97:SlR X (rSlW X.K):=by
 intro pins s σ H x v vl vu lo hi sl Q I rx hs pl pu h;obtain⟨a,xs,rfl,hx,hw,q⟩:=h;cases rx;obtain⟨its,r,ht,hz⟩:=I.tuple hx;have hlen:its.toArray.size=xs.length:=by rw[bC];exact r.length.symm
 exact⟨"tuple",_,PyProof.Rows.slot_tuple_getitem.lookup,ht.typeIs,HT.getItem_tuple_whole ht hs pl pu (by rw[hlen];exact hw) ⟨.ref a,H,I,rfl,q⟩⟩
end
end L2
namespace M
section
variable {X:Cx}{K:PySem.W.Frag}{A:AS}{H:Hp}{e a b:Expr}{te ti:UE}{pos p2:Pos}{C:C0}{ρ ρ':Ev}{σ:L2.St}
def gSlT (d:D)(lo hi:Option Int)(Q:B->Prop):Prop:=match d with
 | .tup l=>Q (.pu<|.tup<|cutD l lo hi)
 | .lst l=>Q (.ow<|cutD l lo hi)
 | .rol l=>Q (.ow<|cutD l lo hi)
 | _=>False
def uSlT (t:UE)(tl th:UO):UE:=λρ Q=>t ρ λb0 ρ1=>tl ρ1 λlo ρ2=>th ρ2 λhi ρ3=>gSlT b0.d lo hi λb=>Q b ρ3
theorem cZ1 (l:List D)(lo hi:Option Int)(h:HT.sIx l.length 0 lo=0/\HT.sIx l.length l.length hi=l.length):cutD l lo hi=l:=by
 unfold cutD;rw[h.1,h.2];simp
theorem cZ2 {tl th:UO}{lo hi:Option Expr}(he:PU X e te)(hl:PUO X lo tl)(hu:PUO X hi th):PU X (.Subscript e (.Slice lo hi none p2) pos) (uSlT te tl th):=
 iT (c59 ((cQ1.or d71).or d97) he hl hu) λσ H Q ⟨C,ρ,Q0,I,h,k⟩=>⟨C,ρ,_,I,h,λb0 ρ1 v H1 q f s r=>by
  have I1:=(I.frz f).same s;have rr:=r.rep λa z=>I.avF f z
  refine⟨C,ρ1,_,I1,q,λl2 ρ2 H2 q2 f2 s2=> ?_⟩
  have I2:=(I1.frz f2).same s2;refine⟨C,ρ2,_,I2,q2,λh3 ρ3 H3 q3 f3 s3=> ?_⟩
  have I3:=(I2.frz f3).same s3;have s13:=s2.trans s3;have sAll:=s.trans s13;have fAll:=f.trans (f2.trans f3);have r':Rep X.K (Av C ρ3 σ) H3 b0.d v:=rr.mono (.sub s13 λa z=>f2.av (f3.av z))
  generalize b0.d=d at r' q3;cases d with
  | tup l=>
   have r2:=r';simp only[Rep]at r';obtain⟨a,vs,rfl,c,rs⟩:=r';have hlen:=rs.length
   by_cases hw:HT.sIx l.length 0 l2=0/\HT.sIx l.length l.length h3=l.length
   .refine .inr ⟨a,vs,rfl,c.imp cT id,by rw[<-hlen];exact hw,k _ ρ3 _ _ q3 fAll sAll ?_⟩
    show Rep _ _ _ (.tup<|cutD l l2 h3) _
    rw[cZ1 l l2 h3 hw];exact r2
   .exact .inl (.inr ⟨a,vs,rfl,c.imp cT id,by rw[<-hlen];exact hw,λp n=>k _ ρ3 _ _ q3 fAll (sAll.trans<|eI n _) (j0 (λa z=>I3.avSome z) n<|rs.cut l2 h3)⟩)
  | lst l=>
   simp only[Rep]at r';obtain⟨a,vs,rfl,n0,c,rs⟩:=r';exact .inl (.inl ⟨a,vs,rfl,SqL.of c,λp n=>k _ ρ3 _ _ q3 fAll (sAll.trans<|eI n _) (gN sAll n<|rs.cut l2 h3)⟩)
  | rol l=>
   simp only[Rep]at r';obtain⟨a,vs,rfl,c,rs⟩:=r';exact .inl (.inl ⟨a,vs,rfl,c.imp cT id,λp n=>k _ ρ3 _ _ q3 fAll (sAll.trans<|eI n _) (gN sAll n<|rs.cut l2 h3)⟩)
  | _=>exact(show False from q3).elim⟩
def d98 (i:Nat)(f:Int->Int->Int)(ti te:UE):US:=λD ρ=>uJ ρ i λ_=>ti ρ λj ρ1=>uJ ρ1 i λl1=> ∃k n x,j.d= .int k/\ixN l1.length k=some n/\l1[n]? =some (.int x)/\
 te ρ1 λb ρ2=>uJ ρ2 i λl=> ∃y,b.d= .int y/\D.nx (ρ2.set i<|some<|.ow<|l.set n<|.int<|f x y)
theorem dQ3 {ix:Expr}{op:Operator}{f:Int->Int->Int}(i:Nat)(hx:PE X (.Name x p) (a82 i))(hi:PU X ix ti)(he:PU X e te)(hp:PIp X op (ipI f))
  (ha: ∀ov iv new,augStore ix ov iv new=(do holding [new,ov,iv] (setItem ov iv new);release [new,ov,iv] [];pure .next):=by intros;rfl):PUS X (.AugAssign (.Subscript (.Name x p) ix tpos) op e pos) (d98 i f ti te):=
 sQ (dN0 hx hi d96 he hp c61 ha) λD σ H ⟨C,ρ,D0,I,h,k⟩=>by
  obtain⟨l,hl,h⟩:=lY h;obtain⟨a,vs,h1,h2,h3,h4⟩:=I.ow i l hl;refine⟨.ref a,h1,C,ρ,_,I,h,λj ρ1 w H1 q f1 s1 r1=> ?_⟩
  obtain⟨l1,hl1,kk,n,x0,ej,en,ex,q⟩:=lY q;have e1:=f1.ow hl1;rw[hl]at e1;cases e1;have I1:=(I.frz f1).same s1;obtain⟨a1,vs1,g1,g2,g3,g4⟩:=I1.ow i l hl1;rw[h1]at g1;cases g1;have rj:=r1.rep λa z=>I.avF f1 z
  rw[ej]at rj;have:=bN rj;subst this;obtain⟨v0,ev0,rv0⟩:=g4.get ex;have:=bN rv0;subst this;have hat:L2.atI vs1 kk=some (.int x0):=by unfold L2.atI;rw[<-g4.length,en];exact ev0
  refine⟨a,vs1,kk,_,rfl,rfl,SqL.of g2,hat,C,ρ1,_,I1,q,λb ρ2 w2 H2 q2 f2 s2 r2=> ?_⟩
  obtain⟨l2,hl2,y,eb,q2⟩:=lY q2;have e2:=f2.ow hl2;rw[hl1]at e2;cases e2;have I2:=(I1.frz f2).same s2;obtain⟨a2,vs2,k1,k2,k3,k4⟩:=I2.ow i l hl2;rw[h1]at k1;cases k1;have rb:=r2.rep λa z=>I1.avF f2 z
  rw[eb]at rb;have:=bN rb;subst this;exact⟨x0,y,rfl,rfl,a,vs2,kk,n,rfl,rfl,k2,by rw[<-k4.length];exact en,k.nx _ _ _ q2<|I2.write hl2 h1<|k4.set n<|show Rep _ _ _ _ _ by simp only[Rep]⟩
mutual
noncomputable def pd:D->Option PyData
 | .non=>some .none
 | .bl b=>some (.bool b)
 | .int i=>some (.int i)
 | .tup l=>(pdL l).map .tuple
 | .lst l=>(pdL l).map .list
 | .rol l=>(pdL l).map .list
 | .str s=>if PyData.canLay0 (.str s)=true then some (.str s)else none
 | .ty _=>none
 | .obj _ _ _=>none
 | .adr _=>none
 | .xob _ _ _ _=>none
noncomputable def pdL:List D->Option (List PyData)
 | []=>some []
 | d::r=>(pd d).bind λx=>(pdL r).map (x::·)
end
theorem c75 {d:D}{r:List D}{xs:List PyData}(h:pdL (d::r)=some xs): ∃x ys,xs=x::ys/\pd d=some x/\pdL r=some ys:=by
 simp only[pdL]at h;cases e:pd d with
 | none=>rw[e]at h;cases h
 | some x=>
  rw[e]at h;cases e2:pdL r with
  | none=>rw[e2]at h;cases h
  | some ys=>rw[e2]at h;cases h;exact⟨x,ys,rfl,rfl,rfl⟩
theorem tJ {β:Type}{o:Option α}{f:α->β}{y:β}(h:o.map f=some y): ∃x,o=some x/\y=f x:=by
 cases o with
 | none=>cases h
 | some x=>cases h;exact⟨x,rfl,rfl⟩
mutual
theorem aZ0: ∀(d:D) {x:PyData},pd d=some x->x.canLay0=true
 | .non,x,h=>by simp only[pd]at h;cases h;rfl
 | .bl b,x,h=>by simp only[pd]at h;cases h;rfl
 | .int i,x,h=>by simp only[pd]at h;cases h;rfl
 | .tup l,x,h=>by simp only[pd]at h;obtain⟨xs,e,rfl⟩:=tJ h;simp only[PyData.canLay0];exact b93 l e
 | .lst l,x,h=>by simp only[pd]at h;obtain⟨xs,e,rfl⟩:=tJ h;simp only[PyData.canLay0];exact b93 l e
 | .rol l,x,h=>by simp only[pd]at h;obtain⟨xs,e,rfl⟩:=tJ h;simp only[PyData.canLay0];exact b93 l e
 | .str s,x,h=>by simp only[pd]at h;split at h;(rename_i c;cases h;exact c);cases h
 | .ty _,x,h=>by simp only[pd]at h;cases h
 | .obj _ _ _,x,h=>by simp only[pd]at h;cases h
 | .adr _,x,h=>by simp only[pd]at h;cases h
 | .xob _ _ _ _,x,h=>by simp only[pd]at h;cases h
theorem b93: ∀(l:List D) {xs:List PyData},pdL l=some xs->PyData.canLayAll0 xs=true
 | [],xs,h=>by simp only[pdL]at h;cases h;rfl
 | d::r,xs,h=>by
  obtain⟨x,ys,rfl,e1,e2⟩:=c75 h;simp only[PyData.canLayAll0,dZ];exact⟨aZ0 d e1,b93 r e2⟩
end
section
variable {pins:List (Addr×Obj)}{s:Shared}
mutual
theorem yG (I:Inv X pins σ H s): ∀(d:D) {x:PyData} {v:V} {u:Value},pd d=some x->Rep X.K A H d v->RelV v u-> ∃as,Reads s.heap u x as
 | .non,x,v,u,h,r,q=>by simp only[pd]at h;cases h;simp only[Rep]at r;subst r;cases q;exact⟨_,.none⟩
 | .bl b,x,v,u,h,r,q=>by simp only[pd]at h;cases h;simp only[Rep]at r;subst r;cases q;exact⟨_,.bool b⟩
 | .int i,x,v,u,h,r,q=>by simp only[pd]at h;cases h;simp only[Rep]at r;subst r;obtain⟨t,rfl⟩:=q;exact⟨_,.int i t⟩
 | .tup l,x,v,u,h,r,q=>by
  simp only[pd]at h;obtain⟨xs,e,rfl⟩:=tJ h;simp only[Rep]at r;obtain⟨a,vs,rfl,c,rs⟩:=r;cases q;obtain⟨its,rv,⟨o,ho,hc,n,hd⟩,hz⟩:=I.tuple (c.imp cT id);obtain⟨as,ra⟩:=a25 I l e rs rv;exact⟨_,.tuple ho hc hd<|by simpa using ra⟩
 | .lst l,x,v,u,h,r,q=>by
  simp only[pd]at h;obtain⟨xs,e,rfl⟩:=tJ h;simp only[Rep]at r;obtain⟨a,vs,rfl,n0,c,rs⟩:=r;cases q;obtain⟨its,rv,p,hz⟩:=I.list (SqL.of c);obtain⟨o,ho,hc,n,hd⟩:=p.isList;obtain⟨as,ra⟩:=a25 I l e rs rv;exact⟨_,.list ho hc hd<|by simpa using ra⟩
 | .rol l,x,v,u,h,r,q=>by
  simp only[pd]at h;obtain⟨xs,e,rfl⟩:=tJ h;simp only[Rep]at r;obtain⟨a,vs,rfl,c,rs⟩:=r;cases q;obtain⟨its,rv,p,hz⟩:=I.list (c.imp cT id);obtain⟨o,ho,hc,n,hd⟩:=p.isList;obtain⟨as,ra⟩:=a25 I l e rs rv;exact⟨_,.list ho hc hd<|by simpa using ra⟩
 | .str i,x,v,u,h,r,q=>by simp only[pd]at h;split at h<;>cases h;simp only[Rep]at r;subst r;obtain⟨t,rfl⟩:=q;exact⟨_,.str i t⟩
 | .ty _,x,v,u,h,r,q=>by simp only[pd]at h;cases h
 | .obj _ _ _,x,v,u,h,r,q=>by simp only[pd]at h;cases h
 | .adr _,x,v,u,h,r,q=>by simp only[pd]at h;cases h
 | .xob _ _ _ _,x,v,u,h,r,q=>by simp only[pd]at h;cases h
theorem a25 (I:Inv X pins σ H s): ∀(l:List D) {xs:List PyData} {vs:List V} {us:List Value},pdL l=some xs->bS X.K A H l vs->Vals vs us-> ∃as,ReadsAll s.heap us xs as
 | [],xs,vs,us,h,r,q=>by simp only[pdL]at h;cases h;have:=r.unnil;subst this;cases q;exact⟨_,.nil⟩
 | d::l,xs,vs,us,h,r,q=>by
  obtain⟨x,ys,rfl,e1,e2⟩:=c75 h;obtain⟨v,vr,rfl,r1,rs⟩:=r.uncons;cases q with
  | cons q1 q2=>
   obtain⟨as,h1⟩:=yG I d e1 r1 q1;obtain⟨bs,h2⟩:=a25 I l e2 rs q2;exact⟨_,.cons h1 h2⟩
end
end
def b71 (neg:Bool)(d e:D)(Q:B->Prop):Prop:= ∃p q,pd d=some p/\pd e=some q/\p.depth<=60/\Q (.pu<|.bl<|neg ^^ p.eqv q)
theorem bZ0 (hu:X.A.units+64<cLine):OpU X (compareOp .Eq) (b71 false):=by
 intro A H d e v w Q0 Q hA r1 r2 g k;obtain⟨p,q,e1,e2,hd,g⟩:=g;refine⟨λx y H Q=> ∃(A:AS) (d e:D) (p q:PyData),Rep X.K A H d x/\Rep X.K A H e y/\pd d=some p/\pd e=some q/\p.depth<=60/\Q (.bl<|p.eqv q) H,?_,A,d,e,p,q,r1,r2,e1,e2,hd,k _ _ H g (.refl _) (by rw[nS];exact kP)⟩
 rintro pins s σ H x y v u Q I rx ry ⟨A,d,e,p,q,r1,r2,e1,e2,hd,h⟩;obtain⟨as,ra⟩:=yG I d e1 r1 rx;obtain⟨bs,rb⟩:=yG I e e2 r2 ry;exact SeqAt.compareEq_reads ra rb (aZ0 d e1) (aZ0 e e2) ad ⟨.bl _,H,I,rfl,h⟩
theorem ou_neD (hu:X.A.units+64<cLine):OpU X (compareOp .NotEq) (b71 true):=by
 intro A H d e v w Q0 Q hA r1 r2 g k;obtain⟨p,q,e1,e2,hd,g⟩:=g;refine⟨λx y H Q=> ∃(A:AS) (d e:D) (p q:PyData),Rep X.K A H d x/\Rep X.K A H e y/\pd d=some p/\pd e=some q/\p.depth<=60/\Q (.bl<|!(p.eqv q)) H,?_,A,d,e,p,q,r1,r2,e1,e2,hd,k _ _ H g (.refl _) (by rw[nT];exact kP)⟩
 rintro pins s σ H x y v u Q I rx ry ⟨A,d,e,p,q,r1,r2,e1,e2,hd,h⟩;obtain⟨as,ra⟩:=yG I d e1 r1 rx;obtain⟨bs,rb⟩:=yG I e e2 r2 ry;exact SeqAt.compareNe_reads ra rb (aZ0 d e1) (aZ0 e e2) ad ⟨.bl _,H,I,rfl,h⟩
def SqA (K:PySem.W.Frag)(A:AS)(H:Hp)(T:Bool)(a:Addr)(vs:List V):Prop:=match T with
 | false=>(¬A a/\Rd H a (.lst vs))\/KL K a vs
 | true=>(¬A a/\Rd H a (.tup vs))\/KT K a vs
theorem SqA.sqv {a':Addr}{vs:List V}{A':AS}{H':Hp}(c:SqA K A H T a' vs)(P:mK A H A' H'):SqV K T H' a' vs:=by
 cases T<;>(rcases c with⟨n,c⟩|c;exact .inl (Rd.pres P n c).2;exact .inr c)
theorem mK.self:mK A H A H:=λ_ _ n e=>⟨n,e⟩
theorem Rep.sq {d:D}{v:V}{l:List D}(r:Rep K A H d v)(h:oO d=some l): ∃T a vs,v= .ref a/\SqA K A H T a vs/\bS K A H l vs:=by
 cases d with
 | tup l'=>cases h;simp only[Rep]at r;obtain⟨a,vs,e,c,r⟩:=r;exact⟨true,a,vs,e,c,r⟩
 | lst l'=>cases h;simp only[Rep]at r;obtain⟨a,vs,e,n,c,r⟩:=r;exact⟨false,a,vs,e,.inl ⟨n,.inl c⟩,r⟩
 | rol l'=>cases h;simp only[Rep]at r;obtain⟨a,vs,e,c,r⟩:=r;exact⟨false,a,vs,e,c,r⟩
 | _=>cases h
theorem bS.at {l:List D}{vs:List V}(r:bS K A H l vs)(hi:i<l.length): ∃x,vs[i]? =some x/\Rep K A H (l.getD i .non) x:=r.get (by rw[aQ,aS hi];rfl)
theorem d99 {vs ws:List V}{l m:List D}(c1:SqA K A H T1 l1 vs)(c2:SqA K A H T2 l2 ws)(r1:bS K A H l vs)(r2:bS K A H m ws) :
  c65 K A H (Itz K T1 T2 l1 l2) (min l.length m.length) (λi=> .tup [l.getD i .non,m.getD i .non]):=by
 have k1:=r1.length;have k2:=r2.length;refine⟨λA' H' i P hi=> ?_,λA' H' i x H'' P hA hi y=> ?_,λA' H' P=>⟨vs,ws,c1.sqv P,c2.sqv P,ad⟩⟩
 .obtain⟨x,e1,_⟩:=r1.at (i:=i) ad
  obtain⟨y,e2,_⟩:=r2.at (i:=i) ad
  exact⟨vs,ws,x,y,c1.sqv P,c2.sqv P,e1,e2⟩
 .obtain⟨x1,e1,q1⟩:=r1.at (i:=i) ad
  obtain⟨y1,e2,q2⟩:=r2.at (i:=i) ad
  obtain⟨T,a,b,rfl,hT,rfl,ha,hb⟩:=y;have ea:=ha vs (c1.sqv P);have eb:=hb ws (c2.sqv P);rw[e1]at ea;cases ea;rw[e2]at eb;cases eb;exact⟨eI hT _,j0 hA hT<|.cons (q1.mono P)<|.cons (q2.mono P) .nil⟩
theorem cZ3 {vs:List V}{l:List D}(c1:SqA K A H T l1 vs)(r1:bS K A H l vs):c65 K A H (Ite K T l1) l.length (λi=> .tup [.int (i:Int),l.getD i .non]):=by
 have k1:=r1.length;refine⟨λA' H' i P hi=> ?_,λA' H' i x H'' P hA hi y=> ?_,λA' H' P=>⟨vs,c1.sqv P,k1.symm⟩⟩
 .obtain⟨x,e1,_⟩:=r1.at hi;exact⟨vs,x,c1.sqv P,e1⟩
 .obtain⟨x1,e1,q1⟩:=r1.at hi;obtain⟨T,a,rfl,hT,rfl,ha⟩:=y;have ea:=ha vs (c1.sqv P);rw[e1]at ea;cases ea;exact⟨eI hT _,j0 hA hT<|.cons (show Rep _ _ _ _ _ by simp only[Rep])<|.cons (q1.mono P) .nil⟩
def cZ4 (ta:UA):UI:=λρ Q=>ta ρ λds ρ1=>match ds with
 | [d,e]=>(match oO d,oO e with
  | some l,some m=>Q (min l.length m.length) (λi=> .tup [l.getD i .non,m.getD i .non]) ρ1
  | _,_=>False)
 | _=>False
theorem dA0 {ta:UA}(hg:Gl X "zip")(hm:X.mg "zip"=none)(ha:PUA X [a,b] ta)(hs:↥(starEach [a,b] X.env=[(false,eval a X.env),(false,eval b X.env)]))(hs2:↥(starEach [b] X.env=[(false,eval b X.env)])) :
  PUI X (.Tuple elts kt tp) (.Call (.Name "zip" p) [a,b] [] pos) (cZ4 ta):=
 b38 (pi_zip hg hm ha hs hs2) λσ H R ⟨C,ρ,Q0,I,h,k⟩=>⟨C,ρ,_,I,h,λds ρ1 vs H1 q f s r=>by
  split at q
  .rename_i d e
   obtain⟨v,vr,rfl,rv,rr⟩:=r.uncons;obtain⟨w,wr,rfl,rw',rr'⟩:=rr.uncons;have:=rr'.unnil;subst this;split at q
   .rename_i l m e1 e2
    obtain⟨T1,a1,us,rfl,c1,s1⟩:=rv.sq e1;obtain⟨T2,a2,ws,rfl,c2,s2⟩:=rw'.sq e2;exact⟨a1,a2,T1,T2,us,ws,rfl,c1.sqv .self,c2.sqv .self,k _ _ ρ1 _ H1 q f s<|d99 c1 c2 s1 s2⟩
   .exact q.elim
  .exact q.elim⟩
def dA1 (ta:UA):UI:=λρ Q=>ta ρ λds ρ1=>match ds with
 | [d]=>(match oO d with
  | some l=>Q l.length (λi=> .tup [.int (i:Int),l.getD i .non]) ρ1
  | none=>False)
 | _=>False
theorem dQ4 {ta:UA}(hg:Gl X "enumerate")(hm:X.mg "enumerate"=none)(ha:PUA X [a] ta)(hs:↥(starEach [a] X.env=[(false,eval a X.env)])) :
  PUI X (.Tuple elts kt tp) (.Call (.Name "enumerate" p) [a] [] pos) (dA1 ta):=
 b38 (dQ1 hg hm ha hs) λσ H R ⟨C,ρ,Q0,I,h,k⟩=>⟨C,ρ,_,I,h,λds ρ1 vs H1 q f s r=>by
  split at q
  .rename_i d
   obtain⟨v,vr,rfl,rv,rr⟩:=r.uncons;have:=rr.unnil;subst this;split at q
   .rename_i l e1
    obtain⟨T1,a1,us,rfl,c1,s1⟩:=rv.sq e1;exact⟨a1,T1,us,rfl,c1.sqv .self,k _ _ ρ1 _ H1 q f s<|cZ3 c1 s1⟩
   .exact q.elim
  .exact q.elim⟩
def dA2 (ta:UA):UI:=λρ Q=>ta ρ λds ρ1=>match ds with
 | [.int j]=>(-(2^31)<=j/\j<2^31)/\Q j.toNat (λk=> .int ((j.toNat:Int)-1-k)) ρ1
 | _=>False
theorem dQ5 {ta:UA}{q2 pos2:Pos}(hg:Gl X "reversed")(hm:X.mg "reversed"=none)(hg2:Gl X "range")(hm2:X.mg "range"=none)(ha:PUA X [a] ta)(hs:↥(starEach [a] X.env=[(false,eval a X.env)]))
  (hs2:↥(starEach [.Call (.Name "range" q2) [a] [] pos2] X.env=[(false,eval (.Call (.Name "range" q2) [a] [] pos2) X.env)])) :
  PUI X tg (.Call (.Name "reversed" p) [.Call (.Name "range" q2) [a] [] pos2] [] pos) (dA2 ta):=
 b38 (c74 hg hm hg2 hm2 ha hs hs2) λσ H R ⟨C,ρ,Q0,I,h,k⟩=>⟨C,ρ,_,I,h,λds ρ1 vs H1 q f s r=>by
  split at q
  .rename_i j
   obtain⟨v,vr,rfl,rv,rr⟩:=r.uncons;have:=rr.unnil;subst this;have:=bN rv;subst this;obtain⟨⟨h1,h2⟩,q⟩:=q;exact⟨j,rfl,h1,h2,k _ _ ρ1 _ H1 q f s bR4⟩
  .exact q.elim⟩
end
end M
end
section
namespace L2
theorem aZ1:fillsNumberSlot (.type "tuple") "mul"=pure false:=
 PySem.fillsNumberSlot_seq (id:="tuple.__mul__") (r:=some (.builtin "tuple.__rmul__")) PySem.F.slot_tuple_mul.lookup af PySem.F.slot_tuple_rmul.lookup af
theorem bZ1:seqRepeat? (.type "tuple")=pure (some<|.builtin "tuple.__mul__"):=by
 unfold seqRepeat?;rw[PySem.seqSlot_of (T:="tuple") (name:="__mul__") (id:="tuple.__mul__") PySem.F.slot_tuple_mul.lookup af,PySem.seqSlot_of (T:="tuple") (name:="__rmul__") (id:="tuple.__rmul__") PySem.F.slot_tuple_rmul.lookup af]
 rfl
theorem bB9 (a:Int)(t:Tok)(l:Addr)(items:Array Value)(n:Nat)(dd:Option Addr)(sl:Array (Option Value)) :
  Meets (Builtin.«int.__rmul__» ⟨[.int a t,.ref l],[]⟩) (λ_ R s=>s.heap.get? l=some {cls:= .type "tuple",dict:=dd,data:= .seq items n,slots:=sl}/\R (.ok<|.ret Value.notImplemented) s):=
 .of_wp λprog w A R s h=>by obtain⟨hp,g,d,tk,os⟩:=s;obtain⟨hl,h⟩:=h;wp_walk using kB hl;exact⟨_,rfl,h⟩
theorem dA3 (l:Addr)(items:Array Value)(n:Nat)(dd:Option Addr)(sl:Array (Option Value))(u:Tok) :
  Meets (Builtin.«tuple.__mul__» ⟨[.ref l,.int 1 u],[]⟩) (λ_ R s=>s.heap.get? l=some {cls:= .type "tuple",dict:=dd,data:= .seq items n,slots:=sl}/\R (.ok<|.ret<|.ref l) s):=
 .of_wp λprog w A R s h=>by
  obtain⟨hp,g,d,tk,os⟩:=s;obtain⟨hl,h⟩:=h;have f1:=aO8
  wp_walk using kB hl
  exact⟨_,rfl,h⟩
theorem dA4 (l:Addr)(items:Array Value)(n:Nat)(dd:Option Addr)(sl:Array (Option Value))(k:Int)(u:Tok)(h1: ¬(k< -(2^63)||k≥2^63)=true)(hne: ¬(items.isEmpty||k==1)=true)(h0:(k<=0||items.isEmpty)=true) :
  Meets (Builtin.«tuple.__mul__» ⟨[.ref l,.int k u],[]⟩) (λ_ R s=>s.heap.get? l=some {cls:= .type "tuple",dict:=dd,data:= .seq items n,slots:=sl}/\R (.ok<|.ret<|.ref s.heap.objs.size) {s with heap:=s.heap.push {cls:= .type "tuple",data:= .seq #[]}}):=
 .of_wp λprog w A R s h=>by
  obtain⟨hp,g,d,tk,os⟩:=s;obtain⟨hl,h⟩:=h;have f1:=aO8
  wp_walk using kB hl
  rw[a6 h1]
  wp_walk using kB hl
  exact⟨_,rfl,h⟩
theorem dA5 (l:Addr)(items:Array Value)(n:Nat)(dd:Option Addr)(sl:Array (Option Value))(k:Int)(u:Tok)(h1: ¬(k< -(2^63)||k≥2^63)=true)(hne: ¬(items.isEmpty||k==1)=true)(h0: ¬(k<=0||items.isEmpty)=true)
  (h2: ¬items.size*k>(2^63-1)/8) (h3: ¬Builtin.Tuple.tupleTooMany (items.size*k)=true) (hz:(foldl (λx1 x2=>x1++x2) #[] (replicate k.toNat items)).size<=sizeLine) :
  Meets (Builtin.«tuple.__mul__» ⟨[.ref l,.int k u],[]⟩) (λ_ R s=>s.heap.get? l=some {cls:= .type "tuple",dict:=dd,data:= .seq items n,slots:=sl}/\R (.ok<|.ret<|.ref s.heap.objs.size) {s with heap:=s.heap.push {cls:= .type "tuple",data:= .seq (foldl (λx1 x2=>x1++x2) #[] (replicate k.toNat items))}}):=
 .of_wp λprog w A R s h=>by
  obtain⟨hp,g,d,tk,os⟩:=s;obtain⟨hl,h⟩:=h;have f1:=aO8
  wp_walk using kB hl
  rw[a6 h1]
  wp_walk using kB hl
  rw[a6 h2]
  wp_walk using kB hl
  all_goals first
   | exact⟨_,rfl,h⟩
   | (refine wpAny_ite_false (eC<|Nat.not_lt.mpr hz) ?_
      wp_walk using kB hl
      exact⟨_,rfl,h⟩)
section
variable {X:Cx}
theorem dQ6:OpR X (binaryOp .Mult) (λx y H Q=> ∃a k xs,x= .ref a/\y= .int k/\SqT X.K H a xs/\xs≠[]/\ -(2^63)<=k/\k<2^63/\xs.length*k.toNat<=sizeLine/\(k=1->Q (.ref a) H)/\(k≠1-> ∀p,H p=none->Q (.ref p) (upd H p<|.tup (replicate k.toNat xs).flatten))):=by
 intro pins s σ H x y v u Q I rx ry h;obtain⟨a,k,xs,rfl,rfl,ha,hn,h1,h2,hz,q1,q2⟩:=h;cases rx;obtain⟨t,rfl⟩:=ry;obtain⟨its,r,p1,_⟩:=I.tuple ha;have hl:=r.length;obtain⟨⟨cls,dd,data,sl⟩,ho,hc,n,hd⟩:=id p1;simp only at hc hd;subst hc hd;have ne:its≠[]:=λz=>hn (tT.mp (by rw[hl,z];rfl))
 have ne2:its.toArray.isEmpty=false:=by cases its with
  | nil=>exact absurd rfl ne
  | cons b r'=>rfl
 have hb: ¬(decide (k< -(2^63))||decide (k≥2^63))=true:=by simp;omega
 have f0: ∀m:Nat,foldl (λx1 x2=>x1++x2) #[] (replicate m its.toArray)=(replicate m its).flatten.toArray:=λm=>by
  have:=foldl_rep its m [];rw[a01]at this;exact this
 refine wpAny_binaryOp_repeat_ref (T:="tuple") (U:="int") ac ⟨_,ho,rfl⟩ (λs'=>qH s' k t) aZ1 PySem.F.fills_int_mul PySem.F.slot_int_rmul bZ1 PySem.F.slot_int_index.lookup
  (l8 PySem.F.slot_int_rmul (qH s k t) PySem.F.entry_int_rmul (PySem.F.args_int_rmul_2 _ _) (bB9 k t a its.toArray n dd sl) ⟨ho,rfl,⟨_,ho,rfl⟩,?_⟩)
 by_cases k1:k=1
 .subst k1;exact l8 aM8 ⟨_,ho,rfl⟩ aM2 (aL9 _ _) (dA3 a its.toArray n dd sl t) ⟨ho,.ref a,H,I,rfl,q1 rfl⟩
 have hne: ¬(its.toArray.isEmpty||k==1)=true:=by rw[ne2];simpa using k1
 by_cases k0:k<=0
 .have e0:k.toNat=0:=aa
  refine l8 aM8 ⟨_,ho,rfl⟩ aM2 (aL9 _ _) (dA4 a its.toArray n dd sl k t hb hne<|by simp[k0]) ⟨ho,?_⟩
  have q:=q2 k1;rw[e0]at q;exact⟨.ref _,_,I.laid (t':=s.toks) (o:= .tup []) (λb ob q=>aV _ q) (aG _) ⟨cG _,_,.nil,uE _ _⟩,rfl,q _ I.fresh⟩
 .have ek:k=(k.toNat:Int):=aa
  have em:(its.toArray.size:Int)*k=((its.toArray.size*k.toNat:Nat):Int):=by rw[aP1,<-ek]
  have hs:its.toArray.size*k.toNat<=sizeLine:=by rw[bC,<-hl];exact hz
  have hcap:(sizeLine:Nat)<=(2^63-1)/8:=ac
  refine l8 aM8 ⟨_,ho,rfl⟩ aM2 (aL9 _ _) (dA5 a its.toArray n dd sl k t hb hne (by rw[ne2];simp;omega) (by rw[em];omega) (by rw[em];unfold Builtin.Tuple.tupleTooMany;rw[gC];omega) (by rw[f0,bC,bX4,mul_comm];simpa using hs)) ⟨ho,?_⟩
  rw[f0];exact⟨.ref _,_,I.laid (t':=s.toks) (o:= .tup (replicate k.toNat xs).flatten) (λb ob q=>aV _ q) (aG _) ⟨by rw[bX4,mul_comm];exact hz,_,r.rep k.toNat,uE _ _⟩,rfl,q2 k1 _ I.fresh⟩
end
theorem dA6:typeLookup (.type "tuple") "__reversed__"=pure none:=by rw[a03,zL];kernel_rfl
theorem sub_tuple_dict:isSubtype (.type "tuple") (.type "dict")=pure false:=by rw[qA];kernel_rfl
theorem bR6:Manifest.owners.lookup (String.ofList ['d','e','s','r','e','v','e','r'].reverse)=some Manifest.sig_reversed:=by kernel_rfl
theorem mW:Slot "reversed" "__next__" "reversed.__next__":=
 .of (owner:="reversed") (n:="__next__") (by rw[a03,zL];kernel_rfl) af af af
  (by first|exact .inl af|exact .inr af) (by rw[qA];kernel_rfl)
theorem a92:entryFor table "reversed.__next__"=some Builtin.«reversed.__next__» :=entryFor_of_tree (by kernel_rfl)
theorem a65 (a:Value):argsOk "reversed.__next__" ⟨[a],[]⟩:=by
 unfold argsOk;rw[signature?_of (id:="reversed.__next__") (n:=['_','_','t','x','e','n','_','_']) (o:=['d','e','s','r','e','v','e','r']) (by kernel_rfl) bR6];kernel_rfl
theorem aJ0:Slot "reversed" "__iter__" "reversed.__iter__":=
 .of (owner:="reversed") (n:="__iter__") (by rw[a03,zL];kernel_rfl) af af af
  (by first|exact .inl af|exact .inr af) (by rw[qA];kernel_rfl)
theorem b72 (a:Value):argsOk "reversed.__iter__" ⟨[a],[]⟩:=by
 unfold argsOk;rw[signature?_of (id:="reversed.__iter__") (n:=['_','_','r','e','t','i','_','_']) (o:=['d','e','s','r','e','v','e','r']) (by kernel_rfl) bR6];kernel_rfl
theorem bC0:entryFor table "reversed.__iter__"=some Builtin.«dict_keyiterator.__iter__» :=
 entryFor_alias (id':="dict_keyiterator.__iter__") (by kernel_rfl) (by first|rfl|decide +kernel| (unfold String.splitOn;simp +decide [String.splitOnAux])) af (by kernel_rfl)
theorem bM0:Slot "reversed" "__init__" "object.__init__":=
 .of (owner:="object") (n:="__init__") (by rw[a03,zL];kernel_rfl) af af af
  (by first|exact .inl af|exact .inr af) (by rw[qA];kernel_rfl)
theorem cJ0:TypeCalled "reversed" "reversed.__new__" "object.__init__":=
 ⟨af,af,⟨_,_,PySem.F.mro_reversed⟩,PySem.F.made_reversed,af,by rw[qA];kernel_rfl,bM0⟩
theorem dQ7 (l:Addr)(items:Array Value)(hfit:(items.size:Int)<2^63) :
  Meets (Builtin.«reversed.__new__» ⟨[.type "reversed",.ref l],[]⟩) (λ_ R s=>s.heap.IsTuple l items/\R (.ok<|.ret<|.ref s.heap.objs.size) {s with heap:=s.heap.push {cls:= .type "reversed",data:= .fields #[.ref l,rawInt<|(items.size:Int)-1]},toks:=s.toks+1+1}):=
 .of_wp λprog w A R s h=>by
  obtain⟨hp,g,d,tk,os⟩:=s;obtain⟨ht,h⟩:=h;obtain⟨⟨c,dct,dt,sl⟩,hl,hc,n,hd⟩:=id ht
  replace hc:c= .type "tuple":=hc
  replace hd:dt= .seq items n:=hd
  subst hc hd;have f1:=PySem.F.sub_reversed_self;have f2:=dA6;have f4:=PySem.F.slot_tuple_getitem.lookup;have f5:=sub_tuple_dict;have e1:IsTup (Shared.heap ⟨hp,g,d,tk,os⟩) l items:=ht
  wp_walk using kB hl,PyProof.Rows.len_tuple e1 hfit
  exact⟨_,rfl,h⟩
def uM (h:Heap)(a l:Addr)(i:Int):Prop:= ∃o,h.get? a=some o/\o.cls= .type "reversed"/\o.data= .fields #[.ref l,rawInt i]
theorem uM.at {i:Int}(x:uM h a l i)(e: ∀o,h.get? a=some o->h'.get? a=some o):uM h' a l i:=let ⟨o,ho,r⟩:=x;⟨o,e _ ho,r⟩
section
variable {prog:Program}{w:World}{A:Around}{E:Value->Shared->Prop}{s:Shared}
theorem uM.typeIs {i:Int}(x:uM s.heap a l i):s.TypeIs (.ref a) "reversed":=let ⟨o,ho,hc,_⟩:=x;⟨o,ho,hc⟩
theorem dA7 (hl:s.heap.IsTuple l items)(hfit:(items.size:Int)<2^63)
  (h:Q (.ref s.heap.objs.size) {s with heap:=s.heap.push {cls:= .type "reversed",data:= .fields #[.ref l,rawInt<|(items.size:Int)-1]},toks:=s.toks+1+1}) :
  wpAny (model prog w) A (call (.type "reversed") [.ref l]) Q E s:=
 callType_new cJ0 ac (PySem.F.typeCall_reversed_1 _) (PySem.F.newCall_reversed_1 _) (λobj=>PySem.F.args_object_init_2 obj _) PySem.F.entry_reversed_new (dQ7 l items hfit) ⟨hl,⟨_,bV _ rfl,rfl⟩,h⟩
theorem bC1 {i:Int}(hit:uM s.heap it l i)(h:Q (.ref it) s):wpAny (model prog w) A (pyIter<|.ref it) Q E s:=by
 refine wpAny_pyIter_slot hit.typeIs aJ0 (j9 aJ0 hit.typeIs bC0 ?_<|b72 _)
 show wpAny _ _ (ret<|.ref it) _ _ s
 exact aK ⟨_,rfl,"reversed",_,hit.typeIs,mW.lookup,h⟩
theorem dA8 {x:Value}{Q:Option Value->Shared->Prop}(hit:uM s.heap it l (i:Int))(hl:s.heap.IsTuple l items)(hx:items[i]? =some x)(hfit:(i:Int)<2^63)
  (hQ: ∀h' tk,uM h' it l ((i:Int)-1)->SameBut it s.heap h'->Q (some x) {s with heap:=h',toks:=tk}):wpAny (model prog w) A (pyNext<|.ref it) Q E s:=by
 obtain⟨o,ho,hc,hd⟩:=id hit;have hlt:i<items.size:=(Array.getElem?_eq_some_iff.mp hx).1;have hi:seqIndex? (i:Int) items.size=some i:=by
  unfold seqIndex?;simp
  lia
 have tl:s.TypeIs (.ref l) "tuple":=hl.typeIs;unfold pyNext;refine a9 (nU (kX (name:=Str.ofString "__next__") hit.typeIs mW
  (j9 mW hit.typeIs a92 ?_<|a65 _)))
 unfold Builtin.«reversed.__next__»;refine a9 (kG (a:=(Value.ref it,[])) rfl ?_);try dsimp only
 refine a9 (dB ho hd (x:= .ref l) rfl ?_)
 refine a9 (dB ho hd (x:=rawInt (i:Int)) rfl ?_)
 show wpAny _ _ (if(i:Int)<0 then _ else _) _ _ s
 rw[a6 ad]
 try dsimp only
 refine a9 (wpAny_specialOf tl PySem.F.slot_tuple_getitem.lookup ?_)
 try dsimp only
 rw[a6 ae]
 refine a9 (wpAny_mkInt ?_)
 have ht:IsTup s.heap l items:=hl;refine a9 (nU<|PyProof.Rows.getItem_tuple (s:={s with toks:=s.toks+1}) ht ad hfit hi hx ?_)
 try dsimp only
 refine a9 (dB ho hd (x:=rawInt (i:Int)) rfl ?_)
 show wpAny _ _ (setField (.ref it) 1 (rawInt<|(i:Int)-1) >>= _) _ _ _
 refine a9 (u7 ho hd ae ?_)
 refine aK ⟨x,rfl,aK<|hQ _ _ ?_<|tW ..⟩
 exact⟨_,pN _ ho<|aM9<|pU hd _,(Obj.cls_mapFields ..).trans hc,by
  rw[pU hd];simp⟩
theorem dQ8 {it l:Addr}{Q:Option Value->Shared->Prop}(hh:A.handled=none)(hit:uM s.heap it l (-1))
  (hQ: ∀h',ExtBut it s.heap h'->Q none {s with heap:=h'}):wpAny (model prog w) A (pyNext<|.ref it) Q E s:=by
 obtain⟨o,ho,hc,hd⟩:=id hit;unfold pyNext;refine a9 (nU (kX (name:=Str.ofString "__next__") hit.typeIs mW
  (j9 mW hit.typeIs a92 ?_<|a65 _)))
 unfold Builtin.«reversed.__next__»;refine a9 (kG (a:=(Value.ref it,[])) rfl ?_);try dsimp only
 refine a9 (dB ho hd (x:= .ref l) rfl ?_)
 refine a9 (dB ho hd (x:=rawInt (-1)) rfl ?_)
 show wpAny _ _ (if(-1:Int)<0 then _ else _) _ _ s
 rw[a7 ac]
 refine a9 (qI ?_)
 refine a9 ?_
 show wpAny _ _ (setField (.ref it) 1 (rawInt<|-1) >>= λ_=>setField (.ref it) 0 .none) _ _ s
 refine a9 (u7 ho hd ae ?_)
 refine u7 (pN _ ho<|aM9<|pU hd _) (pU hd _) ae ?_
 first
 | show wpAny _ _ (newExc (.type "StopIteration") [] >>= _) _ _ _
 | (refine a9 ?_;show wpAny _ _ (newExc (.type "StopIteration") [] >>= _) _ _ _)
 refine a9 ?_
 simp only[newExc,newTuple];refine a9 (k8 ?_<|by size_fits)
 refine a9 (m:=firstArgMember _ _) (kG (a:=Value.none) (by first|rfl| (simp only[firstArgMember];rfl)) ?_)
 refine k8 ?_ (by size_fits)
 simp only[raiseNew];refine a9 (wpAny_handled ?_)
 first|rw[show A.in1.handled=none from hh]|rw[hh]
 refine a9 (aK<|wpAny_throw ?_)
 refine a9 (wpAny_isInstance (T:="StopIteration") (b:=true) ⟨_,bV _ rfl,rfl⟩ isSubtype_stop ?_)
 refine aK (hQ _ ?_)
 exact((((tW ..).trans<|tW ..).extBut.push _).push _)
end
noncomputable def Itv (K:PySem.W.Frag)(l:Addr)(n:Nat):It where
 go:=λi H=>i<n/\ ∃xs,SqT K H l xs/\xs.length=n
 yld:=λi H v H'=>H'=H/\ ∀xs,SqT K H l xs->xs[n-1-i]? =some v
 stop:=λi H=>i=n
theorem dA9 (n:Nat)(hz:n<=sizeLine):c53 P w K tg (Itv K l n) [it] it (λi h=>uM h it l ((n:Int)-1-(i:Int))) where
 mem:=ae
 obj:=λi h st b hb=>by
  have e:b=it:=by simpa using hb
  subst e;obtain⟨o,ho,_,hd⟩:=st;exact⟨o,ho,λv z=>by rw[hd]at z;cases z⟩
 keep:=λi h h' st k=>st.at λo e=>k it ae _ e
 item:=by
  intro X hP hw hK hc i pins s σ H E I hf st hg;subst hP hw hK;obtain⟨f0,f1,f2,f3,f4,f5⟩:=hf it ae
  obtain⟨hi,xs,hq,hl⟩:=hg;obtain⟨its,r,p,_⟩:=I.tuple hq;have hlen:=r.length;have hx:xs[n-1-i]? =some (xs[n-1-i]'ad):=aS ad
  obtain⟨u1,hu1,ru1⟩:=r.get hx;have e1:(n:Int)-1-(i:Int)=((n-1-i:Nat):Int):=ad
  have st':=st;rw[e1]at st';have big:(sizeLine:Int)<2^63:=ac
  refine dA8 (items:=its.toArray) (x:=u1) st' p (by simpa using hu1) ad λh' tk hr m=> ?_
  have I1:Inv X pins σ H {s with heap:=h',toks:=tk}:=I.turned (λb o hb e=>m.extBut _ _ (by simpa using hb) e) f0 f1 f3 f4 f5
  have e2:((n-1-i:Nat):Int)-1=(n:Int)-1-((i+1:Nat):Int):=ad
  rw[e2]at hr;obtain⟨o,ho,hoc,hod⟩:=id hr;exact⟨_,rfl,c54 (s:={s with heap:=h',toks:=tk}) (n:="reversed") ho hoc hod ac ⟨xs[n-1-i]'ad,H,I1,ru1,⟨rfl,λys hy=>by rw[I.tuple_inj hy hq];exact hx⟩,hr,λb hb=>(hf b hb).1⟩⟩
 done:=by
  intro X hP hw hK hc i pins s σ H E I hf st hg;subst hP hw hK;obtain⟨f0,f1,f2,f3,f4,f5⟩:=hf it ae
  have hg':i=n:=hg;have st':=st;rw[hg',show(n:Int)-1-(n:Int)= -1 by lia]at st'
  exact dQ8 (I.ok.hd hc) st' λh' eb=>⟨rfl,I.turned (t':=s.toks) (λb o hb e=>eb b o hb e) f0 f1 f3 f4 f5⟩
 self:=λ_ _ _ _ _ st h=>bC1 st h
section
variable {X:Cx}{tg:Expr}
def iRevT (K:PySem.W.Frag)(ta:TA):TI:=λσ H R=>ta σ H λvs H1=> ∃l xs,vs=[.ref l]/\SqT K H1 l xs/\R (Itv K l xs.length) H1
theorem dQ9 {a:Expr}{ta:TA}(hg:Gl X "reversed")(hm:X.mg "reversed"=none)(ha:PA X [a] ta)(hs:↥(starEach [a] X.env=[(false,eval a X.env)])) :
  PI X tg (.Call (.Name "reversed" p) [a] [] pos) (iRevT X.K ta):=by
 intro pins s σ H R I h;refine Call_ (uF I hg hm PyProof.Rows.boot_reversed<|jX (thn (ha pos pins s σ H _ I h) λus s1 ⟨vs,H1,I1,r1,q1⟩=> ?_) hs rfl)
 obtain⟨l,xs,e,q1,q⟩:=q1;subst e;obtain⟨u,rfl,r⟩:=vals1 r1;cases r;obtain⟨its,rv,p1,hz⟩:=I1.tuple q1;have hl:=rv.length;have big:(sizeLine:Int)<2^63:=ac
 refine dA7 p1 (by rw[bC];lia) ?_
 have hi:uM (s1.heap.push {cls:= .type "reversed",data:= .fields #[.ref l,rawInt<|(its.toArray.size:Int)-1]}) s1.heap.objs.size l ((xs.length:Int)-1-((0:Nat):Int)):=⟨_,bV _ rfl,rfl,by
  rw[bC,hl];simp⟩
 refine bC1 (s:={s1 with heap:=s1.heap.push {cls:= .type "reversed",data:= .fields #[.ref l,rawInt<|(its.toArray.size:Int)-1]},toks:=s1.toks+1+1}) hi ?_
 refine⟨_,[s1.heap.objs.size],_,_,H1,rfl,I1.kept (t':=s1.toks+1+1) λb o e=>aV _ e,dA9 xs.length hz,hi,λb hb=> ?_,q⟩
 have e:b=s1.heap.objs.size:=by simpa using hb
 subst e;exact I1.fpOk (aG _) (I1.hok.fresh<|aG _)
end
end L2
namespace M
section
variable {X:Cx}{A:AS}{H:Hp}{K:PySem.W.Frag}{pos:Pos}{a:Expr}
theorem cZ5 {vs:List V}{l:List D}(c1:SqA K A H true l1 vs)(r1:bS K A H l vs):c65 K A H (Itv K l1 vs.length) l.length (λi=>l.getD (l.length-1-i) .non):=by
 have k1:=r1.length;refine⟨λA' H' i P hi=>⟨aa,vs,c1.sqv P,rfl⟩,λA' H' i x H'' P hA hi y=> ?_,λA' H' P=>k1⟩
 obtain⟨x1,e1,q1⟩:=r1.at (i:=l.length-1-i) aa
 obtain⟨e,ha⟩:=y;subst e;have ea:=ha vs (c1.sqv P);rw[<-k1,e1]at ea;cases ea;exact⟨.refl _,q1.mono P⟩
def dB0 (ta:UA):UI:=λρ Q=>ta ρ λds ρ1=>match ds with
 | [.tup l]=>Q l.length (λi=>l.getD (l.length-1-i) .non) ρ1
 | _=>False
theorem dR0 {ta:UA}(hg:Gl X "reversed")(hm:X.mg "reversed"=none)(ha:PUA X [a] ta)(hs:↥(starEach [a] X.env=[(false,eval a X.env)])) :
  PUI X tg (.Call (.Name "reversed" p) [a] [] pos) (dB0 ta):=
 b38 (dQ9 hg hm ha hs) λσ H R ⟨C,ρ,Q0,I,h,k⟩=>⟨C,ρ,_,I,h,λds ρ1 vs H1 q f s r=>by
  split at q
  .rename_i l
   obtain⟨v,vr,rfl,rv,rr⟩:=r.uncons;have:=rr.unnil;subst this;simp only[Rep]at rv;obtain⟨a1,us,rfl,c1,s1⟩:=rv;have c2:SqA _ _ _ true a1 us:=c1;exact⟨a1,us,rfl,c2.sqv .self,k _ _ ρ1 _ H1 q f s<|cZ5 c2 s1⟩
  .exact q.elim⟩
def cQ8 (d e:D)(Q:B->Prop):Prop:=match d,e with
 | .tup l,.int k=>(l≠[]/\ -(2^63)<=k/\k<2^63/\l.length*k.toNat<=sizeLine)/\Q (.pu<|.tup (replicate k.toNat l).flatten)
 | _,_=>False
theorem dR1:OpU X (binaryOp .Mult) cQ8:=by
 intro A H d e v w Q0 Q hA r1 r2 g k;unfold cQ8 at g;split at g
 .rename_i l kk
  have:=bN r2;subst this;simp only[Rep]at r1;obtain⟨a,vs,rfl,c1,rs1⟩:=r1;obtain⟨⟨h0,h1,h2,h3⟩,g⟩:=g;refine⟨_,dQ6,a,kk,vs,rfl,rfl,c1.imp cT id,λz=>h0 ?_,h1,h2,by rw[<-rs1.length];exact h3,λz=> ?_,λz p n=>k _ _ _ g (eI n _) (j0 hA n<|rs1.rep _)⟩
  .have:=rs1.length;rw[z]at this;exact tT.mp this
  .subst z;refine k _ _ H g (.refl _) ?_;show Rep X.K A H (.tup _) (.ref a);simp only[Rep];exact⟨a,vs,rfl,c1,by simpa using rs1⟩
 .exact g.elim
end
section
variable {X:Cx}
theorem bC2 {K:PySem.W.Frag}{A:AS}{H:Hp}: ∀r:List Int,bS K A H (r.map D.int) (r.map V.int)
 | []=> .nil
 | a::r=> .cons (by simp only[Rep]) (bC2 r)
theorem dR2 {r:List Int}(hg:Gl X x)(hm:X.mg x=some (.ref a))(hk:KT X.K a (r.map V.int))(hd:⇑((x==("__debug__":Str))=false)):PU X (.Name x p) (uC<|.tup<|r.map .int):=
 b91 (bW3 (v:= .ref a) hg hm rfl hd) λA H=>by
  simp only[Rep];exact⟨a,r.map V.int,rfl,.inr hk,bC2 r⟩
theorem kt_of {its:Array Value}{sl:Array (Option Value)}{vs:List V}(hl:K.lookup a=some ⟨.type "tuple",od,.seq its n,sl⟩)(hz:its.size<=sizeLine)(hv:Vals vs its.toList):KT K a vs:=
 ⟨_,its,n,hl,rfl,rfl,hz,hv⟩
end
end M
end
section
namespace L2
section
variable {X:Cx}
theorem cJ1 (hc:X.calm=true):pI X (.builtin "any") (λxs H Q=> ∃(p:Addr) (bs:List Bool),xs=[.ref p]/\SqL X.K H p (bs.map V.bl)/\Q (.bl<|bs.any id) H):=by
 intro pins s σ H xs us Q I r h;obtain⟨p,bs,rfl,hq,q⟩:=h;obtain⟨u,rfl,rx⟩:=vals1 r;cases rx;obtain⟨its,rv,pl,hz⟩:=I.list hq;have ba:=cQ6 rv;refine call_any_walk (zV pl.isList ?_);have hne:p≠s.heap.objs.size:=by
  obtain⟨o,n,e,_⟩:=pl;exact bF (aW e)
 refine⟨s.heap.objs.size,_,_,_,_,_,λi=>(bs[i]?).getD false,rfl,Walks.list (A:=X.A.in1) (I.ok.hd hc) s.heap.objs.size p (λz=>hne z) its.toArray,⟨⟨_,bV _ rfl,rfl,rfl⟩,pl.isList.push _⟩,?_,λh' tk hk=> ?_⟩
 .intro i v s' Q' E' hP hQ;obtain⟨b,hb,rfl⟩:=ba.get i v (by simpa using hP)
  refine nP ?_
  dsimp only at hQ;rw[hb]at hQ;exact hQ
 .have e:=LSm.range_any bs;have hl:=ba.length;have e2:its.toArray.size=bs.length:=by rw[bC,hl]
  rw[e2,e];exact⟨.bl<|bs.any id,H,I.kept λb o e=>hk b o (by simpa using bF (aW e)) (aV _ e),rfl,q⟩
end
end L2
namespace M
section
variable {X:Cx}
noncomputable def dB1:List D->(B->Prop)->Prop:=g1 λd Q=>match d with
 | .lst l=>(match wQ l with
  | some bs=>Q (.pu<|.bl<|bs.any id)
  | none=>False)
 | _=>False
theorem cJ2 (hc:X.calm=true):sP X (.builtin "any") dB1:=by
 intro A H ds vs Q0 Q hA r g k;obtain⟨d,v,rfl,rfl,rv,g⟩:=a87 g r;cases d with
 | lst l=>
  dsimp only at g;cases e:wQ l with
  | none=>rw[e]at g;exact g.elim
  | some bs=>
   rw[e]at g;simp only[Rep]at rv;obtain⟨a,vs,rfl,n,c,rs⟩:=rv;rw[aP6 e rs]at c;exact⟨_,cJ1 hc,a,bs,rfl,SqL.of c,k _ _ H g (.refl _) kP⟩
 | _=>exact(show False from g).elim
theorem cJ3:bootBuiltins "any"=some (.builtin "any"):=af
end
end M
end
section
namespace L2
end L2
namespace M
section
variable {X:Cx}{a:Expr}{pos:Pos}{ta:UE}
noncomputable def D.isN:D->Bool
 | .non=>true
 | _=>false
theorem cQ9 {K:PySem.W.Frag}{A:AS}{H:Hp}: ∀{d:D} {v:V},Rep K A H d v->decide (v= .non)=d.isN
 | .non,v,h=>by simp only[Rep]at h;subst h;rfl
 | .bl _,v,h=>by simp only[Rep]at h;subst h;rfl
 | .int _,v,h=>by simp only[Rep]at h;subst h;rfl
 | .str _,v,h=>by simp only[Rep]at h;subst h;rfl
 | .ty _,v,h=>by simp only[Rep]at h;subst h;rfl
 | .tup _,v,h=>by simp only[Rep]at h;obtain⟨a,vs,rfl,_⟩:=h;rfl
 | .lst _,v,h=>by simp only[Rep]at h;obtain⟨a,vs,rfl,_⟩:=h;rfl
 | .rol _,v,h=>by simp only[Rep]at h;obtain⟨a,vs,rfl,_⟩:=h;rfl
 | .obj _ _ _,v,h=>by simp only[Rep]at h;obtain⟨a,dx,vs,rfl,_⟩:=h;rfl
 | .adr _,v,h=>by simp only[Rep]at h;subst h;rfl
 | .xob _ _ _ _,v,h=>by simp only[Rep]at h;obtain⟨vs,rfl,_⟩:=h;rfl
def bM1 (neg:Bool)(t:UE):UE:=λρ Q=>t ρ λb ρ1=>Q (.pu<|.bl<|neg ^^ b.d.isN) ρ1
theorem lIsN (σ:L2.St)(H:Hp)(Q:VK)(h:lE X.K (bM1 false ta) σ H Q):tIsN (lE X.K ta) σ H Q:=by
 obtain⟨C,ρ,Q0,I,h,k⟩:=h;refine⟨C,ρ,_,I,h,λb ρ' v H' q f s r=> ?_⟩
 have e:=cQ9 (r.rep λa z=>I.avF f z)
 refine k _ ρ' _ H' q f s ?_
 show Rep _ _ _ _ _
 simp only[Rep,nS];rw[e]
theorem lNotN (σ:L2.St)(H:Hp)(Q:VK)(h:lE X.K (bM1 true ta) σ H Q):dY1 (lE X.K ta) σ H Q:=by
 obtain⟨C,ρ,Q0,I,h,k⟩:=h;refine⟨C,ρ,_,I,h,λb ρ' v H' q f s r=> ?_⟩
 have e:=cQ9 (r.rep λa z=>I.avF f z)
 refine k _ ρ' _ H' q f s ?_
 show Rep _ _ _ _ _
 simp only[Rep,nT];rw[e]
theorem bZ2 {j pos'}(ha:PU X a ta):PUT X (.Compare a [.Is] [.Constant .none j pos'] pos) (dQ<|bM1 false ta):=c62 (d53<|pc_isN ha) λσ H Q h=>lIsN σ H _ (dO5 σ H Q h)
theorem c76 {j pos'}(ha:PU X a ta):PUT X (.Compare a [.IsNot] [.Constant .none j pos'] pos) (dQ<|bM1 true ta):=c62 (d53<|dM5 ha) λσ H Q h=>lNotN σ H _ (dO5 σ H Q h)
end
noncomputable def ltL:List Int->List Int->Bool
 | [],[]=>false
 | [],_::_=>true
 | _::_,[]=>false
 | a::x,b::y=>if a=b then ltL x y else decide (a<b)
section
variable {prog:Program}{w:World}{A:Around}{E:Value->Shared->Prop}{s:Shared}
theorem dB2 {lt:Bool}{P:PySem.Fin->Shared->Prop}(ho:s.heap.get? a=some (seqObj "list" [u,v].toArray n))
  (hy: ∀h':Heap,(∀b o,b≠a->s.heap.get? b=some o->h'.get? b=some o)-> ∃κ:SortKind,
   (∀Q:SortKind->Shared->Prop,Q κ {s with heap:=h'}->wpAny (model prog w) A (keyKind' [u,v].toArray) Q (λ_ _=>False) {s with heap:=h'})/\
   (∀Q:Bool->Shared->Prop,Q lt {s with heap:=h'}->wpAny (model prog w) A (keyLt' κ v u) Q (λ_ _=>False) {s with heap:=h'}))
  (fi:P (.done<|.ret .none) {s with heap:=sortedHeap s.heap a [u,v] (if lt=true then [v,u].toArray else [u,v].toArray)}) :
  wpAny (model prog w) A (Builtin.«list.sort» ⟨[.ref a],[]⟩) P E s:=by
 rw[list_sort_plain];have la:a<s.heap.objs.size:=aW ho;refine a9 (listItems_at ho rfl ?_);refine a9 (listUpdate_at ho rfl ?_ (show 2<=sizeLine by decide) (cG _))
 obtain⟨c1,h1⟩: ∃c1,(s.heap.update a<|Obj.mapSeq λ_=> #[]).get? a=some (seqObj "list" #[] c1):=⟨_,get?_update_seq ho λ_=> #[]⟩
 refine a9 (seqEpoch_at h1 rfl ?_)
 refine a9 (wpAny_newTuple ?_<|show 2<=sizeLine by decide)
 refine a9 (wpAny_newList ?_<|cG _)
 refine hX ?_
 have h6:(((s.heap.update a<|Obj.mapSeq λ_=> #[]).push<|seqObj "tuple" [u,v].toArray 0).push<|seqObj "list" #[] 0).get? a=some (seqObj "list" #[] c1):=by
  rw[pW _ _ _ (by rw[size_push',u4];exact bF (kZ la))]
  rw[pW _ _ _ (by rw[u4];exact bF la)]
  exact h1
 have kp: ∀b o,b≠a->s.heap.get? b=some o->(((s.heap.update a<|Obj.mapSeq λ_=> #[]).push<|seqObj "tuple" [u,v].toArray 0).push<|seqObj "list" #[] 0).get? b=some o:=λb o ne q=>by
  have lb:b<s.heap.objs.size:=aW q;rw[pW _ _ _ (by rw[size_push',u4];exact bF (kZ lb))]
  rw[pW _ _ _ (by rw[u4];exact bF lb),zP _ _ _ _ ne]
  exact q
 obtain⟨κ,y1,y2⟩:=hy _ kp;show wpAny (model prog w) A _ P E {s with heap:=((s.heap.update a<|Obj.mapSeq λ_=> #[]).push<|seqObj "tuple" [u,v].toArray 0).push (seqObj "list" #[] 0)}
 dsimp only;have n2: ¬[u,v].toArray.size<2:=show ¬2<2 by decide
 rw[a6 n2,a6 n2];refine a9 (bJ (y1 (λk s'=>k=κ/\s'={s with heap:=((s.heap.update a<|Obj.mapSeq λ_=> #[]).push<|seqObj "tuple" [u,v].toArray 0).push (seqObj "list" #[] 0)}) ⟨rfl,rfl⟩) ?_ λ_ _ z=>z.elim)
 rintro k s' ⟨rfl,rfl⟩;refine a9 (bJ (PySem.W.kat_run (ks:=[u,v]) (vs:=[u,v]) (Q:=λst' s'=>s'={s with heap:=((s.heap.update a<|Obj.mapSeq λ_=> #[]).push<|seqObj "tuple" [u,v].toArray 0).push (seqObj "list" #[] 0)}/\failedOf st'=none/\(arrOf st').map (·.2)=(if lt=true then [v,u].toArray else [u,v].toArray))
  (G:=λp s'=>s'={s with heap:=((s.heap.update a<|Obj.mapSeq λ_=> #[]).push<|seqObj "tuple" [u,v].toArray 0).push (seqObj "list" #[] 0)}/\p=(if lt=true then #[1,0]else #[0,1]))
  rfl (show 2<=2 by decide) (show 2<64 by decide) (λp st' s' _ e2 e3 ⟨e4,e5⟩=>⟨e4,e3,?_⟩) ?_) ?_ λ_ _ z=>z)
 .rw[PySem.W.kat_snds rfl e2,e5];cases lt<;>rfl
 .show wpAny (model prog w) A (keyLt' k v u) _ (λ_ _=>False) _
  refine y2 _ ?_
  cases lt
  .exact⟨rfl,rfl⟩
  .refine⟨rfl,?_⟩
   rw[a7 rfl];dsimp only[List.length_cons,List.length_nil]
   decide +kernel
 .rintro⟨⟨⟩,st'⟩ s' ⟨rfl,e3,e4⟩;dsimp only;rw[e4];refine a9 (seqEpoch_at h6 rfl ?_);refine a9 (listUpdate_at h6 rfl ?_ (cG _) (by cases lt<;>exact(show 2<=sizeLine+1 by decide)))
  rw[e3];simp only[bne_self_eq_false,nN,dC];exact aK fi
theorem cJ4 {lt:Bool}(hl:s.heap.IsList l [u,v].toArray)
  (hy: ∀(h':Heap) (A:Around),(∀b o,s.heap.get? b=some o->h'.get? b=some o)-> ∃κ:SortKind,
   (∀Q:SortKind->Shared->Prop,Q κ {s with heap:=h'}->wpAny (model prog w) A (keyKind' [u,v].toArray) Q (λ_ _=>False) {s with heap:=h'})/\
   (∀Q:Bool->Shared->Prop,Q lt {s with heap:=h'}->wpAny (model prog w) A (keyLt' κ v u) Q (λ_ _=>False) {s with heap:=h'}))
  (fi:Q (.ref<|s.heap.objs.size+1) {s with heap:=sortedAll s.heap [u,v] (if lt=true then [v,u].toArray else [u,v].toArray)}) :
  wpAny (model prog w) A (call (.builtin "sorted") [.ref l]) Q E s:=by
 refine Calls.call_function_entry kind_sorted plain_sorted entry_sorted (args_sorted1 _) ?_
 unfold Builtin.«sorted»;refine a9 (m:=checkCount "sorted" 1 1 _) (aK ?_);refine a9 (collect_list hl ?_<|show 2<=sizeLine by decide)
 refine a9 (wpAny_newList ?_<|show 2<=sizeLine by decide)
 have hz:((s.heap.push<|seqObj "list" #[] 0).update s.heap.objs.size (Obj.mapSeq (· ++[u,v].toArray))).objs.size=s.heap.objs.size+1:=by rw[u4,size_push']
 have hL:(((s.heap.push<|seqObj "list" #[] 0).update s.heap.objs.size (Obj.mapSeq (· ++[u,v].toArray))).push<|seqObj "list" [u,v].toArray 0).get? (s.heap.objs.size+1)=some (seqObj "list" [u,v].toArray 0):=by
  rw[<-hz];exact bV _ rfl
 have kp: ∀b o,s.heap.get? b=some o->(((s.heap.push<|seqObj "list" #[] 0).update s.heap.objs.size (Obj.mapSeq (· ++[u,v].toArray))).push<|seqObj "list" [u,v].toArray 0).get? b=some o:=λb o q=>by
  have lb:b<s.heap.objs.size:=aW q;rw[pW _ _ _ (by rw[hz];exact bF (kZ lb))]
  rw[zP _ _ _ _<|bF lb,pW _ _ _<|bF lb];exact q
 show wpAny _ _ _ _ _ {s with heap:=((s.heap.push<|seqObj "list" #[] 0).update s.heap.objs.size (Obj.mapSeq (· ++[u,v].toArray))).push (seqObj "list" [u,v].toArray 0)}
 rw[hz];refine a9 (hX<|j9 slot_list_sort ⟨_,hL,rfl⟩ entry_list_sort (dB2 (lt:=lt) hL (λh' k=> ?_) ⟨_,rfl,?_⟩)<|args_list_sort _)
 .exact hy h' _ λb o q=>k b o (bF<|kZ<|aW q) (kp b o q)
 .exact aK ⟨_,rfl,fi⟩
theorem c77 {Q:Bool->Shared->Prop}{fin:Bool}: ∀(us ws:List Int) (x y:List Value) (i:Nat),Vals (us.map V.int) x->Vals (ws.map V.int) y->fin=decide (us.length<ws.length)->Q (ltL us ws) s->PySem.W.KatLex prog w A true fin Q (x.zip y) i s
 | [],[],x,y,i,hx,hy,hf,q=>by
  cases hx;cases hy;rw[hf];exact q
 | [],b::ws,x,y,i,hx,hy,hf,q=>by
  cases hx;rw[hf];exact q
 | a::us,[],x,y,i,hx,hy,hf,q=>by
  cases hx;cases hy;rw[hf];exact q
 | a::us,b::ws,x,y,i,hx,hy,hf,q=>by
  rw[cF]at hx hy;cases hx with
  | cons r1 hx=>
   cases hy with
   | cons r2 hy=>
    obtain⟨t1,rfl⟩:=r1;obtain⟨t2,rfl⟩:=r2;rw[aO0];refine PySem.W.kat_cons (wpAny_eqBool_int ?_)
    by_cases c:a=b
    .subst c;rw[aO9];refine PySem.W.kat_yes (c77 us ws _ _ (i+1) hx hy (by rw[hf];simp) ?_)
     unfold ltL at q;rw[a7 rfl]at q;exact q
    .rw[show(a==b)=false by simpa using c]
     refine PySem.W.kat_no ?_
     unfold ltL at q;rw[a6 c]at q;cases e:(true&&i==0)
     .exact PySem.W.kat_one _ _ (lt_int q)
     .exact oneLt_int q
end
section
variable {X:Cx}
theorem cJ5:pI X (.builtin "sorted") (λxs H Q=> ∃(p a1 a2:Addr) (i j:Int) (us ws:List Int),xs=[.ref p]/\SqL X.K H p [.ref a1,.ref a2]/\SqT X.K H a1 ((i::us).map V.int)/\SqT X.K H a2 ((j::ws).map V.int)/\
  ∀l,H l=none->Q (.ref l) (upd H l<|.lst<|if ltL (j::ws) (i::us)=true then [.ref a2,.ref a1]else [.ref a1,.ref a2])):=by
 intro pins s σ H xs us' Q I r h;obtain⟨p,a1,a2,i,j,us,ws,rfl,hq,t1,t2,q⟩:=h;obtain⟨u,rfl,rx⟩:=vals1 r;cases rx;obtain⟨its,rv,pl,hz⟩:=I.list hq;obtain⟨x1,r1,k1,z1⟩:=I.tuple t1;obtain⟨x2,r2,k2,z2⟩:=I.tuple t2;cases rv with
 | cons g1 rv=>
 cases rv with
 | cons g2 rv=>
 cases rv;cases g1;cases g2;refine cJ4 (lt:=ltL (j::ws) (i::us)) pl.isList (λh' A kp=> ?_) ?_
 .obtain⟨o1,ho1,hc1,n1,hd1⟩:=k1;obtain⟨o2,ho2,hc2,n2,hd2⟩:=k2;rw[cF]at r1 r2;cases r1 with
  | cons f1 r1=>
  cases r2 with
  | cons f2 r2=>
  have v1:Vals ((i::us).map V.int) _:= .cons f1 r1;have v2:Vals ((j::ws).map V.int) _:= .cons f2 r2;obtain⟨t1,rfl⟩:=f1;obtain⟨t2,rfl⟩:=f2;refine⟨tuples'<|Value.type "int" != Value.type "tuple",λQ' q'=> ?_,λQ' q'=> ?_⟩
  .refine PySem.W.kat_kind (fs:=[.int i t1,.int j t2]) (T:= .type "int") (.cons (kp _ _ ho1) hc1 hd1 rfl (.cons (kp _ _ ho2) hc2 hd2 rfl .nil)) (cB _) (λv hv=> ?_) ac q'
   rcases aZ.mp hv with rfl|hv
   .exact .now
   .rw[j8.mp hv];exact .now
  .have e:(Value.type "int" != Value.type "tuple")=true:=ac
   rw[e];refine PySem.W.kat_lt (kp _ _ ho2) hd2 (kp _ _ ho1) hd1 (c77 _ _ _ _ 0 (by simpa using v2) (by simpa using v1) ?_ q')
   have l1:=v1.length;have l2:=v2.length;simp only[aP]at l1 l2;simp only[bC];rw[<-l1,<-l2]
 .refine⟨.ref<|s.heap.objs.size+1,_,?_,rfl,q (s.heap.objs.size+1)<|I.hok.fresh<|uB _⟩
  obtain⟨c,hc⟩:=sortedAll_at s.heap [Value.ref a1,Value.ref a2] (if ltL (j::ws) (i::us)=true then [Value.ref a2,Value.ref a1].toArray else [Value.ref a1,Value.ref a2].toArray);refine I.laid (t':=s.toks) (λb o e=>sortedAll_old e) (uB _) ?_
  by_cases e:ltL (j::ws) (i::us)=true
  .rw[a7 e]at hc⊢;exact⟨show 2<=sizeLine by decide,[.ref a2,.ref a1],c,.cons rfl (.cons rfl .nil),by rw[a7 e];exact hc⟩
  .rw[a6 e]at hc⊢;exact⟨show 2<=sizeLine by decide,[.ref a1,.ref a2],c,.cons rfl (.cons rfl .nil),by rw[a6 e];exact hc⟩
noncomputable def cJ6:List D->(B->Prop)->Prop:=g1 λd Q=> ∃(i j:Int) (us ws:List Int),d= .lst [.tup<|(i::us).map D.int,.tup<|(j::ws).map D.int]/\
 Q (.ow<|if ltL (j::ws) (i::us)=true then [.tup<|(j::ws).map D.int,.tup<|(i::us).map D.int]else [.tup<|(i::us).map D.int,.tup<|(j::ws).map D.int])
theorem dB3:sP X (.builtin "sorted") cJ6:=by
 intro A H ds vs Q0 Q hA r g k;obtain⟨d,v,rfl,rfl,rv,i,j,us,ws,rfl,g'⟩:=a87 g r;simp only[Rep]at rv;obtain⟨p,xs,rfl,np,hp,rl⟩:=rv;obtain⟨y1,yr,rfl,s1,rl⟩:=rl.uncons;obtain⟨y2,yr,rfl,s2,rl⟩:=rl.uncons;have:=rl.unnil;subst this;have s1':=s1;have s2':=s2;simp only[Rep]at s1 s2;obtain⟨a1,w1,rfl,c1,q1⟩:=s1;obtain⟨a2,w2,rfl,c2,q2⟩:=s2;have e1:=bS.unints q1;have e2:=bS.unints q2;subst e1 e2
 refine⟨_,cJ5,p,a1,a2,i,j,us,ws,rfl,.inl<|.inl hp,c1.imp cT id,c2.imp cT id,λl hl=>k _ _ _ g' (eI hl _) ?_⟩
 cases ltL (j::ws) (i::us)
 .exact gN (.refl _) hl (.cons s1'<|.cons s2' .nil)
 .exact gN (.refl _) hl (.cons s2'<|.cons s1' .nil)
end
section
variable {X:Cx}
theorem bR7: ∀r:List Int,PyData.depthAll (r.map PyData.int)=0
 | []=>by simp[PyData.depthAll]
 | a::r=>by simp[PyData.depthAll,PyData.depth,bR7 r]
theorem dB4 (r:List Int):(PyData.tuple<|r.map .int).depth<=30:=by simp[PyData.depth,bR7]
end
end M
end
section
namespace L2
end L2
namespace M
end M
end
section
namespace L2
end L2
namespace M
end M
end
section
namespace L2
section
variable {X:Cx}{e e3:Expr}{te:TE}{t3:TO}{pos p2:Pos}
theorem bM2 (its:List Value):slicePick its.toArray none none (some<|-1)=its.reverse.toArray:=by
 unfold slicePick
 congr 1
 have hb:sliceBounds none none (some<|-1) its.toArray.size=((its.length:Int)-1,-1,-1):=by
  simp[sliceBounds]
 rw[hb];have hr:sliceRange ((its.length:Int)-1) (-1) (-1)=(List.range its.length).map λk=>its.length-1-k:=by
  unfold sliceRange;simp only[show ¬((-1:Int)>0)by decide,dC]
  by_cases c:(its.length:Int)-1> -1
  .rw[a7 c,show -(-1:Int)=1 by decide,Int.ediv_one,show((its.length:Int)-1- -1- -1-1).toNat=its.length by omega]
   apply nL
   intro k hk;have:=eO.mp hk;omega
  .rw[a6 c,show its.length=0 by omega]
   rfl
 dsimp only;rw[hr,List.filterMap_map];apply aO5;intro i
 by_cases c:i<its.length
 .rw[List.getElem?_reverse c];have e:(List.range its.length).filterMap ((λx=>its.toArray[x]?)∘λk=>its.length-1-k)=(List.range its.length).map λk=>its.getD (its.length-1-k) .none:=by
   rw[<-List.filterMap_eq_map];have fc: ∀(l:List Nat) (f g:Nat->Option Value),(∀m∈l,f m=g m)->l.filterMap f=l.filterMap g:=by
    intro l f g h
    induction l with
    | nil=>rfl
    | cons a l ih=>rw[gZ,gZ,h a<|hG ..,ih λm hm=>h m (eM _ hm)]
   apply fc
   intro k hk;have:=eO.mp hk;simp only[Function.comp,List.getElem?_toArray,aQ];rw[aS aa]
   rfl
  rw[e,bO,List.getElem?_range c,aS<|show its.length-1-i<its.length by omega]
  simp only[map_some,aQ];rw[aS<|show its.length-1-i<its.length by omega]
  rfl
 .have h1:((List.range its.length).filterMap<|(λx=>its.toArray[x]?)∘λk=>its.length-1-k).length<=its.length:=by
   have:=List.length_filterMap_le ((λx=>its.toArray[x]?)∘λk=>its.length-1-k) (List.range its.length)
   simpa using this
  rw[iJ aa,iJ (by rw[List.length_reverse];omega)]
def tRevL (K:PySem.W.Frag)(te:TE)(t3:TO):TE:=λσ H Q=>te σ H λx H1=>t3 σ H1 λl H3=>l=some (-1)/\ ∃a xs,x= .ref a/\SqL K H3 a xs/\ ∀p,H3 p=none->Q (.ref p) (upd H3 p<|.lst xs.reverse)
theorem dR3 (he:PE X e te)(h3:PO X (some e3) t3):PE X (.Subscript e (.Slice none none (some e3) p2) pos) (tRevL X.K te t3):=by
 intro pins s σ H Q I h;refine Subscript_ (thn (he pins s σ H _ I h) λv s1 ⟨x,H1,I1,r1,q1⟩=> ?_)
 refine wpAny_Slice ?_
 rw[evalPart_none];refine aK ?_;refine aK ?_;refine thn (h3 pins s1 σ H1 _ I1 q1) λv3 s3 ⟨l,H3,I3,p3,q3⟩=> ?_
 obtain⟨rfl,a,xs,rfl,hx,q⟩:=q3;cases r1;have I4:Inv X pins σ H3 {s3 with heap:=s3.heap.push {cls:= .type "slice",data:= .fields #[.none,.none,v3]}}:=I3.kept (t':=s3.toks) λb ob q=>aV _ q
 obtain⟨its,r,ht,hz⟩:=I4.list hx;have hlen:its.toArray.size=xs.length:=by rw[bC];exact r.length.symm
 have hg:wpAny (model X.prog X.w) X.A (getItem (.ref a)<|.ref s3.heap.objs.size) (EP X pins σ Q) X.xe {s3 with heap:=s3.heap.push {cls:= .type "slice",data:= .fields #[.none,.none,v3]}}:=by
  refine wpAny_getItem_list_slice ht.isList (Heap.IsSliceOf.new ..) .none .none p3 ac ?_ (by rw[hlen];exact hz)
  rw[bM2];refine⟨.ref _,_,I4.laid (t':=s3.toks) (o:= .lst xs.reverse) (λb ob q=>aV _ q) (aG _) ?_,rfl,q _<|I4.hok.fresh<|aG _⟩
  exact⟨by rw[List.length_reverse];exact hz,_,0,r.reverse,bV _ rfl⟩
 exact tail_any (ops:=[.ref a,.ref s3.heap.objs.size]) ht.isList.typeIs slot_list_getitem.lookup hg (by with_unfolding_all rfl)
end
end L2
namespace M
section
variable {X:Cx}{K:PySem.W.Frag}{A:AS}{H:Hp}{e e3:Expr}{t3:UE}{pos p2:Pos}
def dB5 (t:UV)(t3:UE):UE:=λρ Q=>t ρ λd ρ1=>t3 ρ1 λb ρ2=>b.d= .int (-1)/\match d with
 | .lst l=>Q (.ow l.reverse) ρ2
 | _=>False
theorem dR4 {t:UV}(he:PUV X e t)(h3:PU X e3 t3):PU X (.Subscript e (.Slice none none (some e3) p2) pos) (dB5 t t3):=
 iT (dR3 he<|cP9 h3) λσ H Q ⟨C,ρ,Q0,I,h,k⟩=>⟨C,ρ,_,I,h,λd ρ1 v H1 q f s r=>by
  have I1:=(I.frz f).same s;refine⟨C,ρ1,_,I1,q,λb ρ2 v3 H2 q2 f2 s2 r2=> ?_⟩
  obtain⟨eb,q2⟩:=q2;have ri:=r2.rep λa z=>I1.avF f2 z
  rw[eb]at ri;have:=bN ri;subst this;refine⟨-1,rfl,rfl,?_⟩;have r':=r.mono (A':=Av C ρ2 σ) s2 λa z=>f2.av z
  cases d with
  | lst l=>
   obtain⟨a,vs,rfl,c,rs⟩:=r';exact⟨a,vs,rfl,SqL.of c,λp n=>k _ ρ2 _ _ q2 (f.trans f2) ((s.trans s2).trans<|eI n _) (gN (s.trans s2) n rs.reverse)⟩
  | _=>exact q2.elim⟩
end
section
variable {X:Cx}{e:Expr}{es:List Expr}{pos:Pos}{te:UE}
theorem ilB (h:Nat.ble (i+1) X.N.length=true): ∀pins σ H s,Inv X pins σ H s->i<σ.length:=il rfl (zM h)
theorem aU (i:Nat){pos:Pos}(h:PE X (.Name x pos) (a82 i):=by exact pv _):PU X (.Name x pos) (aC i):=cJ i h
theorem bZ (i:Nat){pos:Pos}(h:PE X (.Name x pos) (a82 i):=by exact pv _):PUV X (.Name x pos) (aX i):=mL i h
theorem vT (i:Nat)(hN:X.N.Nodup)(he:PU X e te)(hi:↥(X.N[i]? =some x))(hx:Loc X.env.scope x:=by walk_at "z")(hs:↥(swapsWith e (some<|.Name x pos') pos.line X.env=pure false))(hf:X.fn x=true\/X.env.scope.names.lookup x=some .local:=by walk_at "z")
  (hl: ∀pins σ H s,Inv X pins σ H s->i<σ.length:=by exact ilB rfl):PUS X (.Assign [.Name x pos'] e pos) (bG i te):=rX i hN hi hx he hs hf hl
theorem us_g {op:Operator}{g:D->D->(B->Prop)->Prop}(i:Nat)(hN:X.N.Nodup)(he:PU X e te)(ho:IpU X op g)(hi:↥(X.N[i]? =some x))(hx:Loc X.env.scope x:=by walk_at "z")(hf:X.fn x=true\/X.env.scope.names.lookup x=some .local:=by walk_at "z")
  (hl: ∀pins σ H s,Inv X pins σ H s->i<σ.length:=by exact ilB rfl):PUS X (.AugAssign (.Name x pos') op e pos) (c64 i g te):=d83 i hN hi hx he ho hf hl
theorem dP {a b:Expr}{ti:UE}{t:UV}(ha:PUV X a t)(hb:PU X b ti)(hs:bW8 b:=by exact λ_ _=>rfl):PU X (.Subscript a b pos) (uIx t ti):=a86 ha hb hs
theorem cI {ps:List Str}{t:UA}(F:Fn X.prog X.w X.K X.mg X.base x ps k φ)(hr:gS k' X.A)(ha:PUA X (e::es) t)(hk:⇑(k<=k'))(hg:↥(Gl X x))(hdb:⇑((x==("__debug__":Str))=false))
  (he:↥(starEach (e::es) X.env=(false,eval e X.env)::starEach es X.env)) (hpl:↥((backTo pos<|starEach es X.env).any (·.1)=false)):PU X (.Call (.Name x p) (e::es) [] pos) (aR φ t):=vW F hr hk hg ha hdb he hpl
end
section
variable {X:Cx}{es:List Expr}{t:UA}
theorem b7 {i:Int}{j}(h:PUA X es t):PUA X (.Constant (.int i) j p::es) (a8 (uC<|.int i) t):=aB aE h rfl
theorem lB {fs:List Expr}{j}{ta:UE}(a:PU X (.Tuple fs j p) ta)(h:PUA X es t):PUA X (.Tuple fs j p::es) (a8 ta t):=aB a h rfl
theorem aJ1 {o:UnaryOp}{ta:UE}(a:PU X (.UnaryOp o e p) ta)(h:PUA X es t):PUA X (.UnaryOp o e p::es) (a8 ta t):=aB a h rfl
theorem aL (i:Nat)(h:PUA X es t)(a:PE X (.Name x p) (a82 i):=by exact pv _):PUA X (.Name x p::es) (a8 (aC i) t):=aB (cJ i a) h rfl
structure WA (X:Cx)(es:List Expr)(t:UA):Prop where
 out:PUA X es t
theorem a93:WA X [] aM:=⟨aA⟩
theorem a76 {i:Int}{j}(h:WA X es t):WA X (.Constant (.int i) j p::es) (a8 (uC<|.int i) t):=⟨b7 h.out⟩
theorem cZ6 {i:Int}{j}{q:Pos}(h:WA X es t):WA X (.UnaryOp .USub (.Constant (.int i) j p) q::es) (a8 (pG<|uC<|.int i) t):=⟨aJ1 (jN aE) h.out⟩
theorem cJ7 {fs:List Expr}{j}{tf:UA}(a:WA X fs tf)(h:WA X es t):WA X (.Tuple fs j p::es) (a8 (i5 tf) t):=⟨lB (dI a.out) h.out⟩
structure WS (X:Cx)(sts:List Stmt)(t:US):Prop where
 out:pF X sts t
theorem ws_of {sts:List Stmt}{u:US}(h:pF X sts u):WS X sts u:=⟨h⟩
theorem ws_lw {sts:List Stmt}{u:US}(h:WA X es t)(r:WS X sts u)(hN:X.N.Nodup)(hi:↥(X.N[i]? =some x))(hx:Loc X.env.scope x:=by walk_at "z")(hf:X.fn x=true\/X.env.scope.names.lookup x=some .local:=by walk_at "z")
  (hl: ∀pins σ H s,Inv X pins σ H s->i<σ.length:=by exact ilB rfl):WS X (.Assign [.Name x pos'] (.List es p) pos::sts) (aT (bG i<|gT t) u):=⟨bM (rX i hN hi hx (cO h.out) rfl hf hl) r.out⟩
end
abbrev GL:=List (Addr×List Int)
end M
end
section
namespace L2
end L2
namespace M
end M
end
section
namespace L2
end L2
namespace M
section
variable {X:Cx}{e a b:Expr}{te ta tb:UE}{t u:US}{sts:List Stmt}{pos:Pos}
theorem jF {g:D->D->(B->Prop)->Prop}(ho:OpU X (compareOp op) g)(ha:PU X a ta)(hb:PU X b tb)(hm:behindInMarks op b=false:=by exact aP2 _):PUT X (.Compare a [op] [b] pos) (dQ<|uOp g ta tb):=aG0 ho ha hb hm
theorem cJ8 {g:D->D->(B->Prop)->Prop}(ho:OpU X (compareOp op) g)(ha:PU X a ta)(hb:PU X b tb)(hm:behindInMarks op b=false:=by exact aP2 _):PU X (.Compare a [op] [b] pos) (uOp g ta tb):=d77 ho ha hb hm
theorem bH (i:Nat)(hN:X.N.Nodup)(he:PU X e te)(r:pF X sts u)(hi:↥(X.N[i]? =some x))(hx:Loc X.env.scope x:=by walk_at "z")(hs:↥(swapsWith e (some<|.Name x pos') pos.line X.env=pure false))(hf:X.fn x=true\/X.env.scope.names.lookup x=some .local:=by walk_at "z")
  (hl: ∀pins σ H s,Inv X pins σ H s->i<σ.length:=by exact ilB rfl):pF X (.Assign [.Name x pos'] e pos::sts) (aT (bG i te) u):=bM (vT i hN he hi hx hs hf hl) r
theorem eK (h:PU X e te):pF X [.Return (some e) pos] (cV te):=bD (bX8 h)
theorem bM3 {tc:UT}(hc:PUT X c tc)(ha:pF X sts t):PUS X (.If c sts [] pos) (fX tc t dN):=cQ3 hc ha bX7
theorem iO {tc:UT}{r:List Stmt}(hc:PUT X c tc)(ha:pF X sts t)(hr:pF X r u):pF X (.If c sts [] pos::r) (aT (fX tc t dN) u):=bM (bM3 hc ha) hr
theorem qL {ui:UI}(i:Nat)(hN:X.N.Nodup)(hi:PUI X (.Name x p) iter ui)(hb:pF X sts t)(hp:PassesOwn (model X.prog X.w) X.A X.env X.xe:=by exact jB)(hc:↥(X.calm=true))(hx:↥(X.N[i]? =some x))(hl:Loc X.env.scope x:=by walk_at "z")
  (hs: ∀x,foldedSetIterable iter X.env x=pure x:=by intro _;rfl) (hf:X.fn x=true\/X.env.scope.names.lookup x=some .local:=by walk_at "z"):PUS X (.For (.Name x p) iter sts [] pos) (jJ ui (bU i) t):=aP3 hp hc hi (sZ i<|dG hN hx hl hf) hb hs
theorem lD (N:List Str)(esc:List (Str×NameKind))(XN:List Str){ui:UI}{tt:UT}(hi:PUI X (.Name x p) iter ui)(ht: ∀cl C s H fp pins,PTs (cH X N scope cl C s H fp pins) ifs<|lT X.K tt)(he: ∀cl C s H fp pins,PU (cH X N scope cl C s H fp pins) elt te)
  (he0:↥(X.env.scope.names=esc)) (hx0:↥(X.N=XN)) (lk:yF esc XN N cap scope last=true:=by decide +kernel) (hl:⇑(last<cap.length)) (hT:⇑(last ∉ [i])) (hc:↥(X.calm=true)) (hN:N.Nodup:=by decide +kernel) (hx:↥(N[i]? =some x)) (hy: ∀cl C s H fp pins,Loc (cH X N scope cl C s H fp pins).env.scope x:=by intro _ _ _ _ _ _;first|exact Or.inl rfl|exact Or.inr rfl)
  (hs: ∀x,foldedSetIterable iter X.env x=pure x:=by intro _;rfl) (hf: ∀cl C s H fp pins,(cH X N scope cl C s H fp pins).fn x=true\/(cH X N scope cl C s H fp pins).env.scope.names.lookup x=some .local:=by intro _ _ _ _ _ _;first|exact .inl rfl|exact .inr rfl|assumption):PU X (.ListComp elt [⟨.Name x p,iter,ifs,0⟩] scope pos) (dO js cap last ui (bU i) tt te):=
 uL he0 hx0 lk hl hT hc hi (λ_ _ _ _ _ _=>sZ i (dG hN hx (hy ..)<|hf ..)) ht he hs
end
section
variable {X:Cx}{K:PySem.W.Frag}{ρ ρ':Ev}{σ σ':L2.St}{H H':Hp}
variable {o e e2:Expr}{te te2:UE}{x y:Str}{px py py2 apos cpos bpos fpos apos2 cpos2 epos:Pos}
end
end M
end
namespace L2
def Calm (f:Obj->Obj):Prop:= ∀o,(f o).dict=o.dict/\(o.isFreed=false->(f o).isFreed=false)
def pH {α:Type}:Sem α->Prop
 | .pure _=>True
 | .raise _=>True
 | .unsupported _=>True
 | .finish _=>True
 | .rule _ k=>pH (k ())
 | .at _ k=>pH (k ())
 | .load _ _ k=> ∀o,pH (k o)
 | .update _ _ f k=>Calm f/\pH (k ())
 | .alloc _ k=> ∀a,pH (k a)
 | .loadIfAlive _ k=> ∀o,pH (k o)
 | .point _ k=>pH (k ())
 | .register _ _=>True
 | .stack k=> ∀l,pH (k l)
 | _=>False
def DK (h h':Heap):Prop:= ∀b o,h.get? b=some o-> ∃o',h'.get? b=some o'/\o'.dict=o.dict
theorem DK.refl (h:Heap):DK h h:=λb o q=>⟨o,q,rfl⟩
theorem DK.trans {h'':Heap}(a:DK h h')(b:DK h' h''):DK h h'':=λc o q=>by
 obtain⟨o',q',e⟩:=a c o q;obtain⟨o'',q'',e'⟩:=b c o' q';exact⟨o'',q'',e'.trans e⟩
theorem DK.update {f:Obj->Obj}(c:Calm f):DK h (h.update a f):=λb o q=>by
 by_cases e:a=b
 .subst e;exact⟨f o,pN f q<|(c o).2 (Heap.get?_some_iff.mp q).2,(c o).1⟩
 .exact⟨o,(aM7 _ _ e).trans q,rfl⟩
theorem dR5 {M:Model}{Γ:PySem.Ctx}: ∀{t:Sem α} {Q:α->Pos->Shared->Prop} {E:Value->Pos->Shared->Prop} {p:Pos} {s:Shared},pH t->Sem.wp M Γ t Q E p s->Sem.wp M Γ t (λa p' s'=>Q a p' s'/\DK s.heap s'.heap) (λe p' s'=>E e p' s'/\DK s.heap s'.heap) p s:=by
 intro t
 induction t with
 | pure a=>intro Q E p s _ h;exact⟨h,.refl _⟩
 | raise e=>intro Q E p s _ h;exact⟨h,.refl _⟩
 | rule _ k ih=>intro Q E p s t h;exact ih () t h
 | «at» _ k ih=>intro Q E p s t h;exact ih () t h
 | load a _ k ih=>intro Q E p s t ⟨o,q,h⟩;exact⟨o,q,ih o (t o) h⟩
 | update a _ f k ih=>
  intro Q E p s t ⟨q,h⟩;refine⟨q,?_⟩;have:=ih () t.2 h;exact Sem.wp_mono _ _ _ (λa p' s' z=>⟨z.1,(DK.update t.1).trans z.2⟩) (λa p' s' z=>⟨z.1,(DK.update t.1).trans z.2⟩) _ _ this
 | alloc o k ih=>
  intro Q E p s t h;have:=ih _ (t _) h;have pu:DK s.heap (s.heap.push o):=λb o' q=>⟨o',aV _ q,rfl⟩
  exact Sem.wp_mono _ _ _ (λa p' s' z=>⟨z.1,pu.trans z.2⟩) (λa p' s' z=>⟨z.1,pu.trans z.2⟩) _ _ this
 | loadIfAlive a k ih=>intro Q E p s t h;exact ih _ (t _) h
 | point _ k ih=>intro Q E p s t h;exact ih () t h
 | stack k ih=>intro Q E p s t h;exact ih _ (t _) h
 | unsupported _=>intro Q E p s _ h;exact h.elim
 | finish _=>intro Q E p s _ h;exact h.elim
 | register _ _=>intro Q E p s _ h;exact h.elim
 | _=>intro Q E p s t h;exact False.elim t
theorem cN {β:Type}{f:α->Sem β}: ∀{t:Sem α},pH t->(∀a,pH<|f a)->pH (t.bind f):=by
 intro t
 induction t with
 | pure a=>intro _ h;exact h a
 | raise e=>intro _ _;exact trivial
 | unsupported _=>intro _ _;exact trivial
 | finish _=>intro _ _;exact trivial
 | rule _ k ih=>intro t h;exact ih () t h
 | «at» _ k ih=>intro t h;exact ih () t h
 | load a _ k ih=>intro t h o;exact ih o (t o) h
 | update a _ f k ih=>intro t h;exact⟨t.1,ih () t.2 h⟩
 | alloc o k ih=>intro t h a;exact ih a (t a) h
 | loadIfAlive a k ih=>intro t h o;exact ih o (t o) h
 | point _ k ih=>intro t h;exact ih () t h
 | register _ _=>intro _ _;exact trivial
 | stack k ih=>intro t h l;exact ih l (t l) h
 | _=>intro t _;exact False.elim t
theorem a26 {M:Model}{t:Sem α}{Q:α->Shared->Prop}(c:pH t)(h:wpAny M A t Q E s):wpAny M A t (λa s'=>Q a s'/\DK s.heap s'.heap) (λe s'=>E e s'/\DK s.heap s'.heap) s:=λΓ p hin=>dR5 c (h Γ p hin)
theorem bR8 {part:Option Value}:pH (loadPart a part):=λ_=>trivial
theorem c78 (v:Value):pH (fieldsOf v):=by
 unfold fieldsOf;split
 .refine cN bR8 λo=> ?_
  split<;>exact trivial
 .exact trivial
theorem a27 (v:Value)(i:Nat):pH (PySem.field v i):=cN (c78 v) λvs=>by
 split<;>exact trivial
theorem c79 (f:Array Value->Array Value):Calm (Obj.mapFields f):=λo=>by
 obtain⟨c,d,dt,sl⟩:=o;cases dt<;>exact⟨rfl,λh=>h⟩
theorem wR (v:Value)(i:Nat)(x:Value):pH (setField v i x):=by
 unfold setField;split
 .unfold updateField;refine cN bR8 λo=> ?_
  split
  .split
   .exact⟨c79 _,trivial⟩
   .exact trivial
  .exact trivial
 .exact trivial
theorem a94 (e:Value)(f:Option Addr):pH (setFlight e f):=cN (a27 _ _) λtb=>by
 split
 .exact wR _ _ _
 .exact trivial
theorem aP7:pH stack:=λ_=>trivial
theorem cJ9 (f:Addr)(b:Bool):pH (entryPlaceOf f b):=cN aP7 λl=>by
 split<;>exact trivial
theorem dB6 (cls:Value)(data:Data)(d:Option Addr):pH (newObj cls data d):=by
 have as:pH (newObjAsIs cls data d):=by
  unfold newObjAsIs;refine cN (λ_=>trivial) λa=> ?_
  split
  .refine cN ?_ λb=> ?_
   .unfold classHasDel;refine cN (λ_=>trivial) λo=> ?_
    split<;>exact trivial
   .split<;>exact trivial
  .exact trivial
 unfold newObj;split<;>first|exact as| (split<;>first|exact as|exact trivial| (refine cN trivial λ_=>as))
theorem cK0 (a b c d e:Value)(pl:List Value):pH (EntryCells.newEntry a b c d e pl):=by
 unfold EntryCells.newEntry newFields;exact dB6 _ _ _
theorem bC3: ∀l:List Env,pH (readyFrames l)
 | []=>trivial
 | env::outer=>by
  unfold readyFrames;split
  .refine cN (λ_=>trivial) λo=> ?_
   split
   .exact trivial
   .refine cN ?_ λb=> ?_
    .unfold behindIsImport;split
     .exact trivial
     .split
      .exact trivial
      .exact cN (a27 _ _) λ_=>trivial
    .refine cN ?_ λv=> ?_
     .unfold keptBack;split
      .split
       .exact trivial
       .exact cN (cN aP7 λ_=>trivial) λ_=>trivial
      .exact trivial
     .exact⟨λo=>⟨rfl,λh=>by obtain⟨c,d,dt,sl⟩:=o;cases dt<;>exact h⟩,bC3 outer⟩
  .exact trivial
theorem cK1 (env:Env):pH (PySem.frameOf env):=by
 unfold PySem.frameOf;refine cN (cN aP7 λ_=>trivial) λl=>cN ?_ λo=> ?_
 .unfold frameObject;split
  .exact trivial
  .exact cN (bC3 _) λ_=>trivial
 .split<;>exact trivial
theorem bR9 (e:Value)(env:Env):pH (noteFrame e env):=by
 have last: ∀h f,pH (do setField e 1 (<-EntryCells.newEntry h (<-PySem.frameOf env) .none (rawInt f) .none (<-entryPlaceOf f (h != .none)))):=λh f=>
  cN (cK1 env) λa=>cN (cJ9 _ _) λb=>cN (cK0 _ _ _ _ _ _) λc=>wR _ _ _
 unfold noteFrame;split
 .refine cN (a27 _ _) λh=> ?_
  split
  .refine cN (a27 _ _) λx=> ?_
   split
   .exact trivial
   .exact cN (wR _ _ _) λ_=>last _ _
  .exact last _ _
 .exact trivial
theorem aT5 (env:Env)(e:Value):pH (leaving env e):=cN (bR9 e env) λ_=>a94 e none
def Tr (h:Heap)(e T:Addr):Prop:= ∃oe vs,h.get? e=some oe/\oe.data= .fields vs/\vs[1]? =some (.ref T)
theorem Tr.one {e T T':Addr}(a:Tr h e T)(b:Tr h e T'):T=T':=by
 obtain⟨o,vs,h1,h2,h3⟩:=a;obtain⟨o',vs',g1,g2,g3⟩:=b;rw[h1]at g1;cases g1;rw[h2]at g2;cases g2;rw[h3]at g3;cases g3;rfl
structure aJ2 (fs:List Addr)(e:Addr)(h h':Heap):Prop where
 keep: ∀b o,h.get? b=some o->b ∉ fs->b≠e-> ¬Tr h e b->h'.get? b=some o
 slot:h.UpToSlots h'
 tr: ∀T,Tr h' e T->T∈fs\/T=e\/Tr h e T\/h.get? T=none
 rcd: ∀T,Tr h' e T-> ∃o vs,h'.get? T=some o/\o.data= .fields vs
structure bM4 (fs:List Addr)(e:Addr)(h h':Heap):Prop extends aJ2 fs e h h' where
 dk:DK h h'
theorem bZ3 {e:Addr}{cls a0:Value}(t:h.TracedAtW base e cls a0 fl): ∃T,Tr h e T/\base.get? T=none/\T≠e/\ ∃o vs,h.get? T=some o/\o.data= .fields vs:=by
 obtain⟨oe,vs,T,oT,ts,he,_,hd,h1,hb,hne,hT,hdT,_⟩:=t;exact⟨T,⟨oe,vs,he,hd,h1⟩,hb,hne,oT,ts,hT,hdT⟩
theorem qM {B:Heap}{e T:Addr}{cls a0:Value}(t:h.TracedAtW base e cls a0 fl)(x:Tr h e T)(hn:B.get? T=none):h.TracedAtW B e cls a0 fl:=by
 obtain⟨oe,vs,T',oT,ts,he,hc,hd,h1,hb,hne,hT,hdT,h3⟩:=t;obtain rfl:=x.one ⟨oe,vs,he,hd,h1⟩;exact⟨oe,vs,T,oT,ts,he,hc,hd,h1,hn,hne,hT,hdT,h3⟩
section
variable {base h:Heap}{l:List Env}{e T:Addr}{cls a0 fl:Value}
noncomputable def hid (h:Heap)(l:List Env)(e T:Addr):Heap:=PySem.W.hideAll h (frs l++[e,T])
theorem yH (hb:b∈frs l\/b=e\/b=T):(hid h l e T).get? b=none:=PySem.W.hideAll_none _ (by
 rcases hb with z|z|z
 .exact eE.mpr (.inl z)
 .exact eE.mpr (.inr<|by simp[z])
 .exact eE.mpr (.inr<|by simp[z]))
theorem aT6 (q:h.get? b=some o)(h1:b ∉ frs l)(h2:b≠e)(h3:b≠T):(hid h l e T).get? b=some o:=PySem.W.hideAll_get _ q (by
 intro z;rcases eE.mp z with z|z
 .exact h1 z
 .simp at z
  exact z.elim h2 h3)
theorem a28 (f:h.FunFrames base l):h.FunFrames (hid h l e T) l:=PySem.W.funFrames_hide f λenv he b hb=>eE.mpr (.inl<|aN9.mpr ⟨env,he,hb⟩)
theorem aG4 (st:base.StaysIn h)(f:h.FunFrames base l)(he:base.get? e=none)(hT:base.get? T=none):base.StaysIn (hid h l e T):=λb o q=>aT6 (st b o q) (λz=>by rw[(f.mem z).1]at q;cases q) (λz=>by rw[z,he]at q;cases q) λz=>by rw[z,hT]at q;cases q
theorem yI {B h':Heap}(st:base.StaysIn B): ∀{l:List Env},h'.FunFrames B l->h'.FunFrames base l
 | [],_=>trivial
 | env::_,⟨hk,⟨L,o,hf,hn,ho,hd⟩,hr⟩=>⟨hk,⟨L,o,hf,(by
   cases q:base.get? L with
   | none=>rfl
   | some u=>have:=st L u q;rw[hn]at this;cases this),ho,hd⟩,yI st hr⟩
theorem b94 {B:Heap}(st:base.StaysIn B)(q:B.get? b=none):base.get? b=none:=by
 cases z:base.get? b with
 | none=>rfl
 | some u=>have:=st b u z;rw[q]at this;cases this
theorem bZ4 {l':List Env}(x:Tr h e T)(st:(hid h l e T).StaysIn h')(t:h'.TracedAtW (hid h l e T) e cls a0 fl)(up:h.UpToSlots h'):aJ2 (frs l) e h h':=by
 refine⟨λb o q h1 h2 h3=>st b o (aT6 q h1 h2 λz=>h3 (by rw[z];exact x)),up,λT' x'=> ?_,λT' x'=> ?_⟩
 .obtain⟨T2,y,hn,_,_⟩:=bZ3 t;obtain rfl:=x'.one y
  by_cases c1:T'∈frs l
  .exact .inl c1
  by_cases c2:T'=e
  .exact .inr (.inl c2)
  by_cases c3:T'=T
  .exact .inr (.inr<|.inl (by rw[c3];exact x))
  refine .inr (.inr<|.inr ?_)
  cases q:h.get? T' with
  | none=>rfl
  | some o=>rw[aT6 q c1 c2 c3]at hn;cases hn
 .obtain⟨T2,y,_,_,z⟩:=bZ3 t;obtain rfl:=x'.one y;exact z
end
section
variable {M:Model}{A:Around}{E:Value->Shared->Prop}{s:Shared}{base:Heap}{env:Env}{outer:List Env}{L e:Addr}{cls a0:Value}{Q:Unit->Shared->Prop}
theorem cK2 (hfr:A.frames=some (env::outer))(hf:env.frame=some L)(F:FlyingW base (env::outer) e cls a0 s.heap)
  (hQ: ∀h',FlyingW base outer e cls a0 h'->aJ2 (frs (env::outer)) e s.heap h'->Q () {s with heap:=h'}):wpAny M A (leaving env<|.ref e) Q E s:=by
 obtain⟨f1,f2,f3,f4⟩:=F;obtain⟨T,x,hT,_,_⟩:=bZ3 (fl:= .none) f4;have stB:=aG4 (T:=T) f1 f3 f2 hT;refine wpAny_leaves_onW (base:=hid s.heap (env::outer) e T) hfr hf ⟨λb o q=>tX _ q,yH<|.inr<|.inl rfl,a28 f3,qM (fl:= .none) f4 x<|yH<|.inr<|.inr rfl⟩ λh' F' up=> ?_
 obtain⟨g1,g2,g3,g4⟩:=F';obtain⟨T',x',hT',_,_⟩:=bZ3 (fl:= .none) g4;exact hQ h' ⟨λb o q=>g1 b o (stB b o q),f2,yI stB g3,qM (fl:= .none) g4 x'<|b94 stB hT'⟩ (bZ4 (l':=outer) x g1 g4 up)
theorem cZ7 (hfr:A.frames=some (env::outer))(hf:env.frame=some L)(F:FlyingW base (env::outer) e cls a0 s.heap)
  (hQ: ∀h',HeldW base (env::outer) e cls a0 L h'->aJ2 (frs (env::outer)) e s.heap h'->Q () {s with heap:=h'}):wpAny M A (noteFrame (.ref e) env) Q E s:=by
 obtain⟨f1,f2,f3,f4⟩:=F;obtain⟨T,x,hT,_,_⟩:=bZ3 (fl:= .none) f4;have stB:=aG4 (T:=T) f1 f3 f2 hT;refine wpAny_looks_onW (base:=hid s.heap (env::outer) e T) hfr hf ⟨λb o q=>tX _ q,yH<|.inr<|.inl rfl,a28 f3,qM (fl:= .none) f4 x<|yH<|.inr<|.inr rfl⟩ λh' F' up=> ?_
 obtain⟨g1,g2,g3,g4⟩:=F';obtain⟨T',x',hT',_,_⟩:=bZ3 g4;exact hQ h' ⟨λb o q=>g1 b o (stB b o q),f2,yI stB g3,qM g4 x'<|b94 stB hT'⟩ (bZ4 (l':=outer) x g1 g4 up)
theorem cZ8 {l:List Env}(F:base.StaysIn s.heap/\base.get? e=none/\s.heap.FunFrames base l/\s.heap.TracedAtW base e cls a0 fl)
  (hQ: ∀h',FlyingW base l e cls a0 h'->aJ2 (frs l) e s.heap h'->Q () {s with heap:=h'}):wpAny M A (setFlight (.ref e) none) Q E s:=by
 obtain⟨f1,f2,f3,f4⟩:=F;obtain⟨T,x,hT,_,_⟩:=bZ3 f4;have stB:=aG4 (T:=T) f1 f3 f2 hT;refine wpAny_setFlight_noneW (base:=hid s.heap l e T) (λb o q=>tX _ q) (a28 f3) (qM f4 x<|yH<|.inr<|.inr rfl) λh' g1 g3 g4 up=> ?_
 obtain⟨T',x',hT',_,_⟩:=bZ3 (fl:= .none) g4;exact hQ h' ⟨λb o q=>g1 b o (stB b o q),f2,yI stB g3,qM (fl:= .none) g4 x'<|b94 stB hT'⟩ (bZ4 (l':=l) (fl:= .none) x g1 g4 λb o q n=>⟨o.slots,up b o q n⟩)
theorem bZ5 (hfr:A.frames=some (env::outer))(hl:s.heap.FunFrames base (env::outer))(hf:env.frame=some L)(he:s.heap.get? e=some oe)(hkb:base.StaysIn s.heap)(hen:base.get? e=none)(hd:oe.data= .fields vs)(h1:vs[1]? =some .none)(h0:vs[0]? =some a0)
  (hQ: ∀h',FlyingW base outer e oe.cls a0 h'->aJ2 (frs (env::outer)) e s.heap h'->Q () {s with heap:=h'}):wpAny M A (leaving env<|.ref e) Q E s:=by
 have stB:=aG4 (e:=e) (T:=e) hkb hl hen hen;have nt: ∀T,¬Tr s.heap e T:=by
  rintro T ⟨o,ws,k1,k2,k3⟩;rw[he]at k1;cases k1;rw[hd]at k2;cases k2;rw[h1]at k3;cases k3
 refine wpAny_leaving_firstW (base:=hid s.heap (env::outer) e e) hfr (a28 hl) hf he (λb o q=>tX _ q) (yH<|.inr<|.inl rfl) hd h1 h0 λh' F'=> ?_
 obtain⟨g1,⟨_,_,g3⟩,g4,up⟩:=F';obtain⟨T',x',hT',hne,hrec⟩:=bZ3 (fl:= .none) g4;refine hQ h' ⟨λb o q=>g1 b o (stB b o q),hen,yI stB g3,qM (fl:= .none) g4 x'<|b94 stB hT'⟩ ⟨λb o q k1 k2 _=>g1 b o (aT6 q k1 k2 k2),up,λT x2=> ?_,λT x2=> ?_⟩
 .obtain rfl:=x2.one x'
  by_cases c1:T∈frs (env::outer)
  .exact .inl c1
  refine .inr (.inr<|.inr ?_)
  cases q:s.heap.get? T with
  | none=>rfl
  | some o=>rw[aT6 q c1 hne hne]at hT';cases hT'
 .obtain rfl:=x2.one x';exact hrec
theorem cZ9 (hfr:A.frames=some (env::outer))(hf:env.frame=some L)(F:FlyingW base (env::outer) e cls a0 s.heap)
  (hQ: ∀h',FlyingW base outer e cls a0 h'->bM4 (frs (env::outer)) e s.heap h'->Q () {s with heap:=h'}):wpAny M A (leaving env<|.ref e) Q E s:=
 bJ (a26 (aT5 env<|.ref e)<|cK2 (Q:=λ_ s'=> ∃h',s'={s with heap:=h'}/\FlyingW base outer e cls a0 h'/\aJ2 (frs (env::outer)) e s.heap h') hfr hf F λh' a b=>⟨h',rfl,a,b⟩) (λ_ s' ⟨⟨h',q,a,b⟩,dk⟩=>by subst q;exact hQ h' a ⟨b,dk⟩) λ_ _ z=>z.1
theorem c80 (hfr:A.frames=some (env::outer))(hf:env.frame=some L)(F:FlyingW base (env::outer) e cls a0 s.heap)
  (hQ: ∀h',HeldW base (env::outer) e cls a0 L h'->bM4 (frs (env::outer)) e s.heap h'->Q () {s with heap:=h'}):wpAny M A (noteFrame (.ref e) env) Q E s:=
 bJ (a26 (bR9 (.ref e) env)<|cZ7 (Q:=λ_ s'=> ∃h',s'={s with heap:=h'}/\HeldW base (env::outer) e cls a0 L h'/\aJ2 (frs (env::outer)) e s.heap h') hfr hf F λh' a b=>⟨h',rfl,a,b⟩) (λ_ s' ⟨⟨h',q,a,b⟩,dk⟩=>by subst q;exact hQ h' a ⟨b,dk⟩) λ_ _ z=>z.1
theorem aT7 {l:List Env}(F:base.StaysIn s.heap/\base.get? e=none/\s.heap.FunFrames base l/\s.heap.TracedAtW base e cls a0 fl)
  (hQ: ∀h',FlyingW base l e cls a0 h'->bM4 (frs l) e s.heap h'->Q () {s with heap:=h'}):wpAny M A (setFlight (.ref e) none) Q E s:=
 bJ (a26 (a94 (.ref e) none)<|cZ8 (Q:=λ_ s'=> ∃h',s'={s with heap:=h'}/\FlyingW base l e cls a0 h'/\aJ2 (frs l) e s.heap h') F λh' a b=>⟨h',rfl,a,b⟩) (λ_ s' ⟨⟨h',q,a,b⟩,dk⟩=>by subst q;exact hQ h' a ⟨b,dk⟩) λ_ _ z=>z.1
theorem c81 (hfr:A.frames=some (env::outer))(hl:s.heap.FunFrames base (env::outer))(hf:env.frame=some L)(he:s.heap.get? e=some oe)(hkb:base.StaysIn s.heap)(hen:base.get? e=none)(hd:oe.data= .fields vs)(h1:vs[1]? =some .none)(h0:vs[0]? =some a0)
  (hQ: ∀h',FlyingW base outer e oe.cls a0 h'->bM4 (frs (env::outer)) e s.heap h'->Q () {s with heap:=h'}):wpAny M A (leaving env<|.ref e) Q E s:=
 bJ (a26 (aT5 env<|.ref e)<|bZ5 (Q:=λ_ s'=> ∃h',s'={s with heap:=h'}/\FlyingW base outer e oe.cls a0 h'/\aJ2 (frs (env::outer)) e s.heap h') hfr hl hf he hkb hen hd h1 h0 λh' a b=>⟨h',rfl,a,b⟩) (λ_ s' ⟨⟨h',q,a,b⟩,dk⟩=>by subst q;exact hQ h' a ⟨b,dk⟩) λ_ _ z=>z.1
end
structure Fly (base:Heap)(l:List Env)(e C:Addr)(H:Hp)(h:Heap):Prop where
 fl: ∃a0,FlyingW base l e (.ref C) a0 h
 he:H e=none
 ht: ∀T,Tr h e T->H T=none
structure bC4 (g:Heap)(e:Addr)(h:Heap):Prop where
 he:g.get? e=none
 ht: ∀T,Tr h e T->g.get? T=none
def XAt (h:Heap)(a:Addr)(o:Option Addr):Prop:= ∀d,o=some d-> ∃oe,h.get? a=some oe/\oe.dict=some d
theorem XAt.dk {o:Option Addr}(x:XAt h a o)(k:DK h h'):XAt h' a o:=λd q=>by
 obtain⟨oe,e1,e2⟩:=x d q;obtain⟨o',e3,e4⟩:=k a oe e1;exact⟨o',e3,e4.trans e2⟩
noncomputable def CXr (P:Program)(w:World)(base:Heap):CXT:=λouter H s E e s'=> ∃a C o H',e= .ref a/\s'.os=s.os/\AllBare s'.gens/\Un (frs outer) [] H H' s.heap s'.heap/\HOk P w H' s'.heap/\Fly base outer a C H' s'.heap/\bC4 s.heap a s'.heap/\XAt s'.heap a o/\E (.ref C) o H'
section
variable {P:Program}{w:World}{H H0:Hp}{h h':Heap}{fs:List Addr}{e:Addr}
theorem HOk.past (x:HOk P w H h)(p:bM4 fs e h h')(hf: ∀b∈fs,H b=none)(he:H e=none)(ht: ∀T,Tr h e T->H T=none):HOk P w H h':=λa o q=>
 (x a o q).stay (λb u hb r=>by
  have tracked:H b≠none:=by
   rcases hb with rfl|hb
   .rw[q];simp
   .rw[hb];simp
  exact p.keep b u r (λz=>tracked (hf b z)) (λz=>tracked (by rw[z];exact he)) λz=>tracked (ht b z)) (λ_ q=>q) λ_ _ q=>q
theorem HOk.there (x:HOk P w H h)(n:h.get? b=none):H b=none:=by
 cases q:H b with
 | none=>rfl
 | some o=>
  exfalso
  have hh: ∃ob,h.get? b=some ob:=by
   have y:=x b o q;cases o with
   | lst xs=>obtain⟨_,_,_,_,e⟩:=y;exact⟨_,e⟩
   | tup xs=>obtain⟨_,_,_,ob,e,_⟩:=y;exact⟨_,e⟩
   | dK kvs=>obtain⟨_,_,_,_,o,_,_,e,_⟩:=y;exact⟨_,e⟩
   | dT kvs=>obtain⟨_,_,_,_,o,_,_,e,_⟩:=y;exact⟨_,e⟩
   | set S n=>obtain⟨o,_,_,_,e,_⟩:=y;exact⟨_,e⟩
   | ins C dx fs=>obtain⟨_,_,_,e,_⟩:=y;exact⟨_,e⟩
   | own y'=>exact y
   | xd fs=>obtain⟨_,⟨_,_,_,e,_⟩,_⟩:=y;exact⟨_,e⟩
   | rng lo hi=>obtain⟨_,_,_,e⟩:=y;exact⟨_,e⟩
   | frz ob u=>obtain⟨e,_⟩:=y;exact⟨_,e⟩
   | tbl ps=>exact⟨_,(show h.get? b=some _ from y)⟩
   | met f y'=>exact⟨_,(show h.get? b=some _ from y)⟩
   | ext φ=>obtain⟨_,e,_⟩:=y;exact e
  obtain⟨ob,e⟩:=hh;rw[n]at e;cases e
theorem aG5 (x:HOk P w H h)(p:bM4 fs e h h')(hf: ∀b∈fs,H b=none)(he:H e=none)(ht: ∀T,Tr h e T->H T=none): ∀T,Tr h' e T->H T=none:=λT q=>by
 rcases p.tr T q with z|z|z|z
 .exact hf T z
 .rw[z];exact he
 .exact ht T z
 .exact x.there z
end
section
variable {X:Cx}{pins:List (Addr×Obj)}{σ:St}{H:Hp}{s:Shared}{h':Heap}{e:Addr}
theorem Un.past {fs fs':List Addr}{H0:Hp}{L:Addr}(u:Un fs [] H0 H g s.heap)(p:bM4 fs' e s.heap h')(hfs: ∀b∈fs',b=L\/b∈fs)(hL:g.get? L=none)(ne:g.get? e=none)(nt: ∀T,Tr s.heap e T->g.get? T=none)(hd: ∀b∈fs,∀o,s.heap.get? b=some o-> ∀vs,o.data≠ .fields vs):Un fs [] H0 H g h' where
 keep:=λb o q n hb hx=>p.keep b o (u.keep b o q n hb hx) (λz=>by
  rcases hfs b z with z|z
  .rw[z,hL]at q;cases q
  .exact hb z) (λz=>by rw[z,ne]at q;cases q) λz=>by rw[nt b z]at q;cases q
 slot:=λb o q n hb hx=>by
  obtain⟨sl,e1⟩:=u.slot b o q n hb hx;obtain⟨sl',e2⟩:=p.slot b _ e1 (hd b hb _ e1);exact⟨sl',e2⟩
 free:=u.free
 there:=λb o q hx=>by
  obtain⟨o',e1⟩:=u.there b o q hx
  by_cases c:b∈fs
  .obtain⟨sl,e2⟩:=p.slot b _ e1 (hd b c _ e1);exact⟨_,e2⟩
  .exact⟨o',p.keep b o' e1 (λz=>by
    rcases hfs b z with z|z
    .rw[z,hL]at q;cases q
    .exact c z) (λz=>by rw[z,ne]at q;cases q) λz=>by rw[nt b z]at q;cases q⟩
 tups:=u.tups
 frzs:=u.frzs
 tbls:=u.tbls
end
section
variable {P:Program}{w:World}{K:PySem.W.Frag}{mg:Str->Option Value}{base:Heap}{N:List Str}{qual:Str}{scope:Scope}{f:Addr}{cd:Value}{A:Around}{outer:List Env}{s0:Shared}{H0:Hp}{E:XK}{CX:CXT}
theorem dB7 {σ:St}{H:Hp}{o:Option Addr}(I:Inv (sY (CXr P w base) P w K mg base N qual scope f cd A outer s0 H0 E) pins σ H s')(F:Fly base (envOfC qual scope s0.heap.objs.size f cd::outer) a C H s'.heap)(nw:bC4 s0.heap a s'.heap)(xa:XAt s'.heap a o)(hE:E (.ref C) o H) :
  (sY (CXr P w base) P w K mg base N qual scope f cd A outer s0 H0 E).xe (.ref a) s':=by
 obtain⟨⟨a0,fl⟩,he,ht⟩:=F;have fr:(A.deeper<|envOfC qual scope s0.heap.objs.size f cd).frames=some (envOfC qual scope s0.heap.objs.size f cd::outer):=I.ok.frames;have sf: ∀b∈frs (envOfC qual scope s0.heap.objs.size f cd::outer),H b=none:=I.stkFree;have fm: ∀b∈frs (envOfC qual scope s0.heap.objs.size f cd::outer),b=s0.heap.objs.size\/b∈frs outer:=λb hb=>by
  unfold frs at hb⊢;rw[gZ]at hb;have e:(envOfC qual scope s0.heap.objs.size f cd).frame=some s0.heap.objs.size:=rfl;rw[e]at hb;exact aZ.mp hb
 show wpAny _ _ (leaving _<|.ref a) _ _ s'
 refine cZ9 fr (L:=s0.heap.objs.size) rfl fl λh' fl' p=> ?_
 have hd: ∀b∈frs outer,∀o,s'.heap.get? b=some o-> ∀vs,o.data≠ .fields vs:=λb hb o q=>by
  obtain⟨_,o',q',n⟩:=fl.2.2.1.mem (b:=b) (by
   unfold frs at hb;rw[gZ];have e:(envOfC qual scope s0.heap.objs.size f cd).frame=some s0.heap.objs.size:=rfl;rw[e];exact aZ.mpr (.inr hb))
  rw[q]at q';cases q';exact n
 have un:Un (frs outer) [] H0 H s0.heap h':=I.base.past p fm (kY<|aG _) nw.he nw.ht hd;refine⟨a,C,o,H,rfl,I.os,I.bare,un,I.hok.past p sf he ht,⟨⟨a0,fl'⟩,he,aG5 I.hok p sf he ht⟩,⟨nw.he,λT q=> ?_⟩,xa.dk p.dk,hE⟩
 rcases p.tr T q with z|z|z|z
 .rcases fm T z with z|z
  .rw[z];exact kY (aG _)
  .exfalso
   obtain⟨o,vs,q1,q2⟩:=p.rcd T q;obtain⟨_,o',q',n⟩:=fl'.2.2.1.mem (b:=T) z;rw[q1]at q';cases q';exact n vs q2
 .rw[z];exact nw.he
 .exact nw.ht T z
 .cases r:s0.heap.get? T with
  | none=>rfl
  | some o=>
   obtain⟨o',q'⟩:=I.base.there T o r (show T ∉ ([]:List Addr)by simp)
   rw[z]at q';cases q'
theorem dZ0:wL (CXr P w base) (sY (CXr P w base) P w K mg base N qual scope f cd A outer s0 H0 E) E:=by
 rintro pins σ H s e s' I ⟨a,C,o,H',rfl,ho,hb,un,hok,F,nw,xa,hE⟩;have I':=I.call' (s':=s') ho un hok hb (λb z=>absurd z ae)
 refine dB7 I' F ⟨?_,λT q=> ?_⟩ xa hE
 .cases r:s0.heap.get? a with
  | none=>rfl
  | some o=>
   obtain⟨o',q'⟩:=I.base.there a o r (show a ∉ ([]:List Addr)by simp)
   rw[nw.he]at q';cases q'
 .have:=nw.ht T q;cases r:s0.heap.get? T with
  | none=>rfl
  | some o=>
   obtain⟨o',q'⟩:=I.base.there T o r (show T ∉ ([]:List Addr)by simp)
   rw[this]at q';cases q'
end
structure XCls (h:Heap)(C:Addr)(bmB bm:List Value)(newId:String):Prop where
 ex: ∃(nm q:Str) (N:Addr) (bs:List Value) (hd:Bool) (sn:List Str) (sub:List Value) (ab:Bool) (col:Option Bool) (dd:Option Addr) (k0 k1 k2 k3 k5:Option Value) (mN:Str->Option Value),
  h.get? C=some (excClassObj nm q C N bs bm hd sn sub ab col dd k0 k1 k2 k3 k5 newId)/\h.Ns N mN/\mN "__init__"=none
 tl:OwnTail h bmB bm
theorem aT8 (X:K.In h)(q:excIn K C bmB newId=true): ∃bm,XCls h C bmB bm newId:=by
 unfold excIn at q;split at q
 .rename_i od ck slots look
  split at q
  .rename_i C2 tail a0 a1 a2 a3 nid a5 em es
   simp only[dZ,fO,aO6]at q;obtain⟨⟨⟨⟨⟨rfl,rfl⟩,nodel⟩,tk⟩,nk⟩,ni⟩:=q;obtain⟨c1,c2,c3,c4,c5,c6,c7,c8,c9,c10,c11⟩:=ck;dsimp only at em nodel nk ni;subst em nodel;obtain⟨sll⟩:=slots;simp only at es;subst es;exact⟨tail,⟨⟨_,_,_,_,_,_,_,_,_,_,_,_,_,_,_,_,X _ _ look,.of_isNs<|PySem.W.isNs_of_in X nk,PySem.W.nsMap_none_of_in X nk ni⟩,PySem.W.tail_of_in X tk⟩⟩
  .cases q
 .cases q
section
variable {X:Cx}{E:XK}{C:Addr}
def bC5 (X:Cx)(E:XK)(C:Addr):Prop:= ∀(pins:List (Addr×Obj)) (σ:St) (H:Hp) (s:Shared) (a:Addr) (oe:Obj) (vs:Array Value) (a0:Value) (o:Option Addr),Inv X pins σ H s->s.heap.get? a=some oe->oe.cls= .ref C->oe.data= .fields vs->vs[0]? =some a0->vs[1]? =some .none->H a=none->X.s₀.heap.get? a=none->XAt s.heap a o->E (.ref C) o H->X.xe (.ref a) s
theorem bC6 {cd:Value}{s0:Shared}{H0:Hp} :
  bC5 (sY (CXr P w base) P w K mg base N qual scope f cd A outer s0 H0 E) E C:=by
 intro pins σ H s a oe vs a0 o I he hc hd h0 h1 nH n0 xa hE;have fr:(A.deeper<|envOfC qual scope s0.heap.objs.size f cd).frames=some (envOfC qual scope s0.heap.objs.size f cd::outer):=I.ok.frames;have sf: ∀b∈frs (envOfC qual scope s0.heap.objs.size f cd::outer),H b=none:=I.stkFree;have fl0:s.heap.FunFrames base (envOfC qual scope s0.heap.objs.size f cd::outer):=I.stack
 have fe:(envOfC qual scope s0.heap.objs.size f cd).frame=some s0.heap.objs.size:=rfl;have fm: ∀b∈frs (envOfC qual scope s0.heap.objs.size f cd::outer),b=s0.heap.objs.size\/b∈frs outer:=λb hb=>by
  unfold frs at hb⊢;rw[gZ,fe]at hb;exact aZ.mp hb
 have nt: ∀T,¬Tr s.heap a T:=by
  rintro T ⟨o,ws,k1,k2,k3⟩;rw[he]at k1;cases k1;rw[hd]at k2;cases k2;rw[h1]at k3;cases k3
 have nb:base.get? a=none:=by
  cases q:base.get? a with
  | none=>rfl
  | some o=>rw[(I.ok.bs a o q).1]at n0;cases n0
 have st:base.StaysIn s.heap:=I.bk;show wpAny _ _ (leaving _<|.ref a) _ _ s;refine c81 fr fl0 (L:=s0.heap.objs.size) rfl he st nb hd h1 h0 λh' fl' p=> ?_
 rw[hc]at fl';have hdf: ∀b∈frs outer,∀o,s.heap.get? b=some o-> ∀vs,o.data≠ .fields vs:=λb hb o q=>by
  obtain⟨_,o',q',n⟩:=fl0.mem (b:=b) (by
   unfold frs at hb;rw[gZ,fe];exact aZ.mpr (.inr hb))
  rw[q]at q';cases q';exact n
 have un:Un (frs outer) [] H0 H s0.heap h':=I.base.past p fm (kY<|aG _) n0 (λT q=>absurd q (nt T)) hdf
 have ht: ∀T,Tr s.heap a T->H T=none:=λT q=>absurd q (nt T)
 refine⟨a,C,o,H,rfl,I.os,I.bare,un,I.hok.past p sf nH ht,⟨⟨a0,fl'⟩,nH,aG5 I.hok p sf nH ht⟩,⟨n0,λT q=> ?_⟩,xa.dk p.dk,hE⟩
 rcases p.tr T q with z|z|z|z
 .rcases fm T z with z|z
  .rw[z];exact kY (aG _)
  .exfalso
   obtain⟨o,ws,q1,q2⟩:=p.rcd T q;obtain⟨_,o',q',n⟩:=fl'.2.2.1.mem (b:=T) z;rw[q1]at q';cases q';exact n ws q2
 .rw[z];exact n0
 .exact absurd z (nt T)
 .cases r:s0.heap.get? T with
  | none=>rfl
  | some o=>
   obtain⟨o',q'⟩:=I.base.there T o r (show T ∉ ([]:List Addr)by simp)
   rw[z]at q';cases q'
def dB8 (C:Addr)(E:XK)(ta:TA):TS:=λ_ σ H=>ta σ H λvs H1=>vs.length<=sizeLine/\E (.ref C) none H1
theorem dB9 {ta:TA}{B:String}(FB:ExcBaseFacts B newId initId bmB)(q:excIn X.K C bmB newId=true)(hg:Gl X x)(hm:X.mg x=some (.ref C))(hc:X.calm=true)(ha:PA X (e::es) ta)(th:bC5 X E C)
  (he:↥(starEach (e::es) X.env=(false,eval e X.env)::starEach es X.env)) (hpl:↥((backTo cpos<|starEach es X.env).any (·.1)=false)) (hd:⇑((x==("__debug__":Str))=false)) (hex:↥(X.ex=[])) :
  PS X (.Raise (some<|.Call (.Name x np) (e::es) [] cpos) none pos) (dB8 C E ta):=by
 intro pins s σ H D I h;obtain⟨bm,⟨⟨nm,qn,N,bs,hdd,sn,sub,ab,col,dd,k0,k1,k2,k3,k5,mN,hC,hN,hni⟩,tl⟩⟩:=aT8 I.mod.kin q;have keepS: ∀{pins:List (Addr×Obj)} {σ:St} {H:Hp} {s2:Shared},Inv X pins σ H s2-> ∀b o,X.base.get? b=some o->s2.heap.get? b=some o:=λJ=>J.bk
 refine wpAny_Raise_call_subT (C:=C) (nm:=nm) (q:=qn) (N:=N) (bs:=bs) (bm:=bm) (hdct:=hdd) (sn:=sn) (sub:=sub) (ab:=ab) (col:=col) (dd:=dd) (k0:=k0) (k1:=k1) (k2:=k2) (k3:=k3) (k5:=k5) FB (mN:=mN) (tl.hasType FB.hasBase) (I.ok.hd hc) ?_ hni (nE I hg hm ⟨rfl,?_⟩ hd)
 .rw[he];show(false||(backTo cpos<|starEach es X.env).any (·.1))=false;rw[hpl];rfl
 .have hh:=ha cpos pins s σ H _ I h;rw[he]at hh⊢;refine aN1 (bJ hh (λus s2 ⟨vs,H1,I1,r1,q1⟩=>⟨rfl,by rw[<-r1.length];exact q1.1,keepS I1 _ _ hC,hN.keeps<|keepS I1,tl.keeps<|keepS I1,λh' a mk=> ?_⟩) λ_ _ y=>y)
  obtain⟨t,m1,m2,m3⟩:=mk.there;have I2:Inv X pins σ H1 {s2 with heap:=h'}:=I1.kept mk.keeps;refine th pins σ H1 _ a _ _ (.ref t) none I2 m1 rfl rfl rfl rfl (I1.hok.there mk.new) ?_ (λd z=>by cases z) q1.2
  cases r:X.s₀.heap.get? a with
  | none=>rfl
  | some o=>
   obtain⟨o',q'⟩:=I1.base.there a o r (by rw[hex];simp)
   rw[mk.new]at q';cases q'
end
section
variable {prog:Program}{w:World}{A:Around}{E:Value->Shared->Prop}{hp:Heap}{gn:Array GenState}{dr:Drawn}{tn:Nat}{os:OsState}
variable {nm qn:Str}{C N:Addr}{bs bm bmB:List Value}{hdd:Bool}{sn:List Str}{sub:List Value}{ab:Bool}{col:Option Bool}{dd:Option Addr}{k0 k1 k2 k3 k5:Option Value}{B newId initId:String}
theorem cK3 (F:ExcBaseFacts B newId initId bmB)(T:OwnTail hp bmB bm){mN:Str->Option Value}{oI:Obj}{Q:Fin->Shared->Prop}
  (hC:hp.get? C=some (excClassObj nm qn C N bs bm hdd sn sub ab col dd k0 k1 k2 k3 k5 newId)) (hN:hp.Ns N mN) (hini:mN "__init__"=some (.ref fI)) (hfun:hp.get? fI=some oI) (hcls:oI.cls= .type "function")
  (hgo: ∀h' e,MadeExcOf hp h' e (.ref C) us->wpAny (model prog w) A (call (.ref fI) (.ref e::us)) (λr s'=>r= .none/\Q (.done<|.ret<|.ref e) s') E ⟨h',gn,dr,tn,os⟩) (hus:us.length<=sizeLine) :
  wpAny (model prog w) A (Builtin.«type.__call__» ⟨.ref C::us,[]⟩) Q E ⟨hp,gn,dr,tn,os⟩:=by
 repeat (first
  | with_reducible refine kA hC ?_
  | with_reducible refine wpAny_madeBy_exc hC ?_
  | wp_step)
 refine codeAny_call_builtin_code (aO1 _ F.quiet) (wpAny_check_new_subT F T hC ?_)
 refine codeAny_exc_new_subT F T hC ?_ hus
 show wpAny _ _ _ _ _ _
 generalize ea:({cls:= .type "tuple",data:= .seq us.toArray}:Obj)=oa;generalize eb:({cls:= .ref C,data:= .fields #[.ref hp.objs.size,.none,.none,.none,.bool false,.none]}:Obj)=ob;have up: ∀b o,hp.get? b=some o->((hp.push oa).push ob).get? b=some o:=λb o q=>aV _ (aV _ q)
 have g1:=up _ _ hC;have g2:=up _ _ hfun;have g3:=hN.keeps up;have g4:((hp.push oa).push ob).get? (hp.objs.size+1)=some ob:=by
  subst ea eb
  heap_get
 have g5:((hp.push oa).push ob).get? hp.objs.size=some oa:=by
  subst ea;exact aV _ (Heap.get?_push_at rfl rfl)
 have g6:=T.keeps up;have me:(Value.ref C::bm).contains (.ref C)=true:=ae
 have ec:ob.cls= .ref C:=by rw[<-eb]
 unfold isInstance
 repeat (first
  | (with_reducible refine kA g4 ?_;rw[ec])
  | (with_reducible refine pT g1 ?_;rw[me])
  | wp_step)
 show wpAny _ _ (typeLookup (.ref C) _) _ _ _
 refine wpAny_typeLookup_tail g1 g3 g6 F.mroIs F.init.lookup ?_
 rw[hini];refine hX (a9 ?_);unfold bindSpecial;refine a9 (a10 (T:="function") ⟨_,g2,hcls⟩ ?_);rw[a7 ac]
 have mk:MadeExcOf hp ((hp.push oa).push ob) (hp.objs.size+1) (.ref C) us:=⟨up,kY<|uB _,hp.objs.size,by rw[g4,<-eb],kY<|aG _,by rw[g5,<-ea]⟩
 refine aK (a9<|bJ (hgo _ _ mk) (λr s' z=> ?_) λ_ _ z=>z)
 obtain⟨rfl,z⟩:=z
 wp_walk
 exact z
theorem xcall (F:ExcBaseFacts B newId initId bmB)(T:OwnTail hp bmB bm){mN:Str->Option Value}{oI:Obj}
  (hC:hp.get? C=some (excClassObj nm qn C N bs bm hdd sn sub ab col dd k0 k1 k2 k3 k5 newId)) (hN:hp.Ns N mN) (hini:mN "__init__"=some (.ref fI)) (hfun:hp.get? fI=some oI) (hcls:oI.cls= .type "function")
  (hgo: ∀h' e,MadeExcOf hp h' e (.ref C) us->wpAny (model prog w) (A.under<|.builtin "type.__call__" ⟨.ref C::us,[]⟩) (call (.ref fI) (.ref e::us)) (λr s'=>r= .none/\Q (.ref e) s') E ⟨h',gn,dr,tn,os⟩) (hus:us.length<=sizeLine) :
  wpAny (model prog w) A (call (.ref C) us) Q E ⟨hp,gn,dr,tn,os⟩:=by
 have t1:=tc_lookup;have t2:=tc_bind (.ref C);have t3:(⟨hp,gn,dr,tn,os⟩:Shared).TypeIs (.ref C) "type":=⟨_,hC,rfl⟩;refine nY (codeAny_of_tree ?_);show wpAny _ _ (callAny (.ref C) _) _ _ _
 repeat (any_goals (first
  | assumption
  | with_reducible refine kA hC ?_
  | wp_step))
 refine⟨rfl,?_⟩
 exact codeAny_call_builtin_at (aO1 _ af) entry_typeCall (wpAny_check_type_call_sub hC<|cK3 F T hC hN hini hfun hcls (λh' e mk=>hgo h' e mk) hus)
end
open Builtin Builtin.ObjectAttr
noncomputable def veMro:List Value:=[.type "ValueError",.type "Exception",.type "BaseException",.type "object"]
noncomputable def uN:List Value->Bool
 | []=>false
 | v::r=>(v::r)==veMro||match v with
  | .ref _=>uN r
  | _=>false
theorem b42 (self:Value): ∀{l:List Value},uN l=true->refuseLoop self "__setattr__" l=pure ()
 | v::r,e=>by
  unfold uN at e;rcases Bool.or_eq_true_iff.mp e with q|q
  .rw[fO.mp q];exact PySem.F.store_ValueError.passes self
  .split at q
   .rw[refuseLoop_ref];exact b42 self q
   .cases q
theorem bC7: ∀{l:List Value},uN l=true->l.contains (.type "object")=true/\l.isEmpty=false
 | v::r,e=>by
  refine⟨?_,rfl⟩
  unfold uN at e;rcases Bool.or_eq_true_iff.mp e with q|q
  .rw[fO.mp q];decide
  .split at q
   .rw[zS,(bC7 q).1,a12]
   .cases q
section
variable {K:PySem.W.Frag}{prog:Program}{w:World}{A:Around}{E:Value->Shared->Prop}{s:Shared}{x C:Addr}{mA:Str->Option Value}{ns:List Str}{name:Str}{v:Value}{cd:ClassData}
theorem xosa {R:Result->Shared->Prop}{tk:Tok}(X:K.In s.heap)(hc:PySem.W.clsIn K C=some cd)(hm:uN cd.mro=true)(hdct:cd.hasDict=true)(ht:PySem.W.findIn K (.ref C) name=some none)
  (I:s.heap.Inst x C mA) (hw:Within mA ns) (hsz:ns.length<=100) {od:Option Obj} {o:Obj} (hx:s.heap.get? x=some o) (J:InstAt s.heap x o C od)
  (hq: ∀h' tk,h'.Inst x C (λy=>if y=name then some v else mA y)->(∀b o,b≠x->(∀o0 dx,s.heap.get? x=some o0->o0.dict=some dx->b≠dx)->s.heap.get? b=some o->h'.get? b=some o)->
   (∀o0,s.heap.get? x=some o0-> ∃o1,h'.get? x=some o1/\o1.cls=o0.cls/\o1.data=o0.data/\ ∀dx,o1.dict=some dx->o0.dict=some dx\/(s.heap.objs.size<=dx))->R (.ok<|.ret .none) {s with heap:=h',toks:=tk}) :
  codeAny (model prog w) A (.call (.builtin "object.__setattr__") ⟨[.ref x,.str name tk,v],[]⟩) R s:=by
 have SF:=PySem.F.store_ValueError;have sub:PySem.W.Looks (model prog w) s.heap (isInstance (.ref x)<|.type "object") true:=J.type.andThen (PySem.W.looks_mroIn X (by unfold PySem.W.mroIn;rw[hc,bind_some,a6 (by rw[(bC7 hm).2];decide),(bC7 hm).1]))
 refine aN4 SF.slot.plain SF.entry (@PySem.W.check_slot (model prog w) _ _ s "object.__setattr__" "object" "__setattr__" (.ref x) [.str name tk,v] [] _ SF.kind SF.split sub (SF.args (.ref x) (.str name tk) v) ?_)
 have hmr:PySem.W.Looks (model prog w) s.heap (mroOf<|.ref C) cd.mro:=(aN7 X hc).andThen .now;rw[PySem.W.osa_eq,refuse_eq];refine a9 (a9<|J.type.here<|a9<|hmr.here ?_);rw[b42 _ hm];refine aK (a9<|J.type.here<|a9<|(PySem.W.looks_findIn X ht).here<|a9<|aK ?_);have lc:=aN7 (M:=model prog w) X hc;obtain⟨o',hx',hcl,hnc,hdd⟩:=I;rw[hx]at hx';cases hx';refine a9 (aK ?_);refine a9 ?_
 show wpAny _ _ (instanceDict x true) _ _ s
 unfold instanceDict;refine a9 (wpAny_loadPart hx ?_);rw[hcl];dsimp only;refine a9 (lc.here ?_);rw[hdct];rw[a6 ac]
 clear sub hmr lc;obtain⟨hp,gn,dr,tn,os⟩:=s;dsimp only at *;have put: ∀(h1:Heap) (dx:Addr) (o1:Obj),h1.get? x=some o1->o1.cls= .ref C->(∀c,o1.data≠ .cls c)->o1.dict=some dx->dx≠x->h1.Ns1 dx mA->o1.data=o.data->(∀b ob,b≠x->hp.get? b=some ob->h1.get? b=some ob)->(o.dict=some dx\/hp.objs.size<=dx)->
   wpAny (model prog w) A.in1 (storeInDict dx (.str name tk) name v) (λfin s'=>match fin with| .done f=>R (.ok f) s'| .again c'=>c'.quiet=true/\codeAny (model prog w) A c' R s') (λe s'=>R (.error e) s') ⟨h1,gn,dr,tn,os⟩:=by
  intro h1 dx o1 g1 g2 g3 g4 g5 g6 g7 g8 g9;unfold storeInDict newKeyGuard;refine a9 (aK<|a9<|wpAny_nsSet1 g6 λh' n' sb=> ?_)
  obtain⟨oD,eD,pD,q1,q2,q3⟩:=n'.count (Within.cons name v hw);have few:eD.size<=sizeLine:=by
   refine aI q3 ?_
   rw[dX,sizeLine_eq]
   lia
  refine a9 (wpAny_lookBehind q1 (by rw[q2];exact pastItsLine_dict (zW few)) ?_)
  have gx:h'.get? x=some o1:=(sb.2 x<|Ne.symm g5).trans g1;refine aK (hq h' _ ⟨o1,gx,g2,g3,.inr ⟨dx,g4,g5,n'⟩⟩ (λb ob k1 k2 k3=> ?_) λo0 k1=> ?_)
  .have nb:b≠dx:=by
    rcases g9 with z|z
    .exact k2 o dx hx z
    .intro q;have:=aW k3;rw[q]at this;exact absurd (b9 this z) (d3 _)
   exact(sb.2 b nb).trans (g8 b ob k1 k3)
  .rw[hx]at k1;cases k1;exact⟨o1,gx,by rw[g2,hcl],g7,λdx' z=>by rw[g4]at z;cases z;exact g9⟩
 rcases hdd with⟨hn,hmA⟩| ⟨dx,hdx,hne,hns⟩
 .rw[hn];dsimp only;rw[a6<|by simp[typeHasDict]]
  have ex: ∀d':Data,d'=o.data->wpAny (model prog w) A.in1 (match d' with
     | .cls c=>pure none
     | _=>do
      let d<-alloc {cls:=Value.type "dict",data:=Data.dict #[]}
      update x λo=>{cls:=o.cls,dict:=some d,data:=o.data,slots:=o.slots}
      dictMade (Value.ref C) x d) (λa s'=>wpAny (model prog w) A.in1 (match a with|some d=>storeInDict d (.str name tk) name v|none=>noDictFor (.ref x) (.ref C) name (none:Option Value).isSome) (λfin s'=>match fin with| .done f=>R (.ok f) s'| .again c'=>c'.quiet=true/\codeAny (model prog w) A c' R s') (λe s'=>R (.error e) s') s') (λe s'=>R (.error e) s') ⟨hp,gn,dr,tn,os⟩:=by
   intro d' ed;split
   .rename_i c
    exact absurd ed.symm (hnc c)
   .have x1:(hp.push {cls:= .type "dict",data:= .dict #[]}).get? x=some o:=aV _ hx;have xs:x≠hp.objs.size:=bF (aW hx);refine a9 (wpAny_alloc'<|a9<|wpAny_update' x1<|aK ?_);have alive:Obj.isFreed {cls:=o.cls,dict:=some hp.objs.size,data:=o.data,slots:=o.slots}=false:=by
     have:=(Heap.get?_some_iff.mp hx).2;obtain⟨c1,c2,c3,c4⟩:=o;cases c3<;>first|rfl|exact this
    have gd:((hp.push {cls:= .type "dict",data:= .dict #[]}).update x λo=>{cls:=o.cls,dict:=some hp.objs.size,data:=o.data,slots:=o.slots}).get? hp.objs.size=some {cls:= .type "dict",data:= .dict #[]}:=
     (zP _ _ _ _<|Ne.symm xs).trans (Heap.get?_push_at rfl rfl)
    refine put _ hp.objs.size {cls:=o.cls,dict:=some hp.objs.size,data:=o.data,slots:=o.slots} (pN _ x1 alive) hcl hnc rfl (Ne.symm xs) ?_ rfl (λb ob k1 k2=>(zP _ _ _ _ k1).trans (aV _ k2)) (.inr<|aG _)
    have e0:mA=λ_=>none:=funext hmA
    rw[e0];exact Heap.Ns1.of_empty ⟨_,#[],_,gd,rfl,λe he=>absurd he ae,λ_=>rfl⟩
  exact ex o.data rfl
 .rw[hdx];exact aK (put hp dx o hx hcl hnc hdx hne hns rfl (λb ob _ k=>k) (.inl hdx))
theorem xset {Q:Unit->Shared->Prop}(X:K.In s.heap)(hc:PySem.W.clsIn K C=some cd)(hm:uN cd.mro=true)(hdct:cd.hasDict=true)(hsa:PySem.W.findIn K (.ref C) "__setattr__"=some (some<|.builtin "object.__setattr__"))(ht:PySem.W.findIn K (.ref C) name=some none)
  (I:s.heap.Inst x C mA) (hw:Within mA ns) (hsz:ns.length<=100)
  (hq: ∀h' tk,h'.Inst x C (λy=>if y=name then some v else mA y)->(∀b o,b≠x->(∀o0 dx,s.heap.get? x=some o0->o0.dict=some dx->b≠dx)->s.heap.get? b=some o->h'.get? b=some o)->
   (∀o0,s.heap.get? x=some o0-> ∃o1,h'.get? x=some o1/\o1.cls=o0.cls/\o1.data=o0.data/\ ∀dx,o1.dict=some dx->o0.dict=some dx\/(s.heap.objs.size<=dx))->Q () {s with heap:=h',toks:=tk}) :
  wpAny (model prog w) A (setAttr (.ref x) name v) Q E s:=by
 have I':=I;obtain⟨o,hx,hcl,hnc,hdd⟩:=I;have J: ∃od,InstAt s.heap x o C od:=by
  rcases hdd with⟨e,_⟩| ⟨dx,e,_,od,es,ep,ge,_⟩
  .exact⟨none,hx,hcl,(by unfold PySem.W.notCls;split<;>first|rfl| (rename_i c q;exact absurd q (hnc c))),by rw[e];trivial⟩
  .exact⟨some od,hx,hcl,(by unfold PySem.W.notCls;split<;>first|rfl| (rename_i c q;exact absurd q (hnc c))),by rw[e];exact ge⟩
 obtain⟨od,J⟩:=J;refine PySem.W.set_plain X J hsa ?_;exact xosa (s:={s with toks:=s.toks+1}) X hc hm hdct ht I' hw hsz hx J λh' tk a b c=>hq h' tk a b c
end
structure c82 (K:PySem.W.Frag)(C fI:Addr)(fd:FuncData)(f1 f2:Str):Prop where
 ex: ∃(oc:Value) (od:Option Addr) (nm qual:Str) (params:Arguments) (scope:Scope) (kV doc pm:Value) (an:Option Addr) (cdv ct:Value) (osl:Array (Option Value)) (x0 x1 x2:Str) (p1 p2 p3 p4 p5 p6 p7 p8:Pos),
  fd=fnOf nm qual params [.Assign [.Attribute (.Name x0 p1) f1 p2] (.Name x1 p3) p4,.Assign [.Attribute (.Name x0 p5) f2 p6] (.Name x2 p7) p8] scope .none kV doc pm an cdv ct/\
  K.lookup fI=some ⟨oc,od,.func fd,osl⟩/\oc= .type "function"/\codeIn K cdv qual=true/\aY [x0,x1,x2] [x0,x1,x2] scope/\
  scope.names.lookup x0=some .local/\scope.names.lookup x1=some .local/\scope.names.lookup x2=some .local/\(x0==("__debug__":Str))=false/\(x1==("__debug__":Str))=false/\(x2==("__debug__":Str))=false/\Binds K fd [x0,x1,x2] []
 cls: ∃cd,PySem.W.clsIn K C=some cd/\uN cd.mro=true/\cd.hasDict=true
 sa:PySem.W.findIn K (.ref C) "__setattr__"=some (some<|.builtin "object.__setattr__")
 n1:PySem.W.findIn K (.ref C) f1=some none
 n2:PySem.W.findIn K (.ref C) f2=some none
def Laid (C e:Addr)(f1 f2:Str)(v1 v2:V)(s s':Shared):Prop:=s'.os=s.os/\AllBare s'.gens/\(∀b o,s.heap.get? b=some o->s'.heap.get? b=some o)/\
 ∃oe t d w1 w2,s'.heap.get? e=some oe/\oe.cls= .ref C/\oe.data= .fields #[.ref t,.none,.none,.none,.bool false,.none]/\oe.dict=some d/\d≠e/\s.heap.get? d=none/\RelV v1 w1/\RelV v2 w2/\s'.heap.Ns1 d (λy=>if y=f2 then some w2 else if y=f1 then some w1 else none)
section
variable {X:Cx}{pins:List (Addr×Obj)}{σ:St}{H:Hp}{s:Shared}{C fI e:Addr}{fd:FuncData}{f1 f2:Str}{h1:Heap}{u1 u2:Value}{v1 v2:V}{E:Value->Shared->Prop}{k:Nat}
theorem d00 (T:c82 X.K C fI fd f1 f2)(I:Inv X pins σ H s)(hr:gS (k+1) X.A)(mk:MadeExcOf s.heap h1 e (.ref C) [u1,u2])(r1:RelV v1 u1)(r2:RelV v2 u2) :
  wpAny (model X.prog X.w) (X.A.under<|.builtin "type.__call__" ⟨.ref C::[u1,u2],[]⟩) (call (.ref fI) (.ref e::[u1,u2])) (λr s'=>r= .none/\Laid C e f1 f2 v1 v2 s s') E {s with heap:=h1}:=by
 obtain⟨oc,od,nm,qual,params,scope,kV,doc,pm,an,cdv,ct,osl,x0,x1,x2,p1,p2,p3,p4,p5,p6,p7,p8,rfl,lk,_,hcd,S,l0,l1,l2,d0,d1,d2,hb⟩:=T.ex;obtain⟨cd,hc,hm,hdct⟩:=T.cls;have I1:Inv X pins σ H {s with heap:=h1}:=I.kept mk.keeps;have e0:=I1.env0.make C [u1,u2] [];have rm:=hr.make C [u1,u2] [];have KX:=I1.kIn;have lim:=I1.nolimit
 have us:Vals [V.ref e,v1,v2] [Value.ref e,u1,u2]:= .cons rfl (.cons r1<|.cons r2 .nil);have hkind: ∀y∈[x0,x1,x2].zip [Value.ref e,u1,u2],scope.names.lookup y.1=some .local\/(scope.names.lookup y.1=some .cell/\((cellsFrom (h1.objs.size+1) scope.names []).lookup y.1).isSome=true):=λ⟨n,v⟩ hy=>by
  have:=(a00 hy).1;simp at this;rcases this with rfl|rfl|rfl
  .exact .inl l0
  .exact .inl l1
  .exact .inl l2
 refine nY ?_
 have bd:=hb {s with heap:=h1} [Value.ref e,u1,u2] KX rfl;rw[jA]at bd;refine codeAny_call_function rm.depth (KX _ _ lk) rfl S.co S.gen rfl (PySem.W.codeRec_of KX hcd) (bd _ _ _ _ ?_);refine wpAny_newFunctionEnv_cells S.kind hkind λenv he s2 x=> ?_
 subst he;refine⟨lim.keeps x.toInCall.keep,codeAny_func ?_⟩;have J:Inv (sY CX0 X.prog X.w X.K X.mg X.base [x0,x1,x2] qual scope fI cdv (X.A.under<|.builtin "type.__call__" ⟨.ref C::[u1,u2],[]⟩) X.stack {s with heap:=h1} H E0) [] (start [x0,x1,x2] [V.ref e,v1,v2]) H s2:=bP9 S rm.hd e0 rfl us x;obtain⟨m,hn,hl⟩:=J.loc
 have look: ∀(i:Nat) (y:Str) (v:V),[x0,x1,x2][i]? =some y->(start [x0,x1,x2] [V.ref e,v1,v2])[i]? =some (some v)->scope.names.lookup y=some .local-> ∃u,RelV v u/\m y=some u:=λi y v q1 q2 q3=>by
  obtain⟨u,r,lo⟩:=hl i y v q1 q2 (.inl q3);rcases lo with⟨_,hm⟩| ⟨z,_⟩
  .exact⟨u,r,hm⟩
  .have z':scope.names.lookup y=some .cell\/scope.names.lookup y=some .free:=z;rw[q3]at z';rcases z' with z'|z'<;>cases z'
 obtain⟨w0,q0,m0⟩:=look 0 x0 (.ref e) rfl rfl l0;obtain⟨w1,q1,m1⟩:=look 1 x1 v1 rfl rfl l1;obtain⟨w2,q2,m2⟩:=look 2 x2 v2 rfl rfl l2;obtain rfl:w0=Value.ref e:=q0;have kk:=J.ok.kind;have kin:X.K.In s2.heap:=KX.keeps x.toInCall.keep;obtain⟨t,t1,t2,t3⟩:=mk.there;have ge:s2.heap.get? e=some {cls:= .ref C,data:= .fields #[.ref t,.none,.none,.none,.bool false,.none]}:=x.toInCall.keep _ _ t1
 have eL:e≠h1.objs.size:=bF (aW t1);have in0:s2.heap.Inst e C (λ_=>none):=⟨_,ge,rfl,(λc z=>by cases z),.inl ⟨rfl,λ_=>rfl⟩⟩
 refine pY (aL6<|nX (pQ kk l1 hn m1<|nX (pQ kk l0 hn m0 ?_) d0) d1)
 refine xset kin hc hm hdct T.sa T.n1 in0 (ns:=[]) (λn z=>absurd rfl z) ae λh3 tk3 in3 kp3 ob3=> ?_
 obtain⟨o3,g3,c3,dt3,dd3⟩:=ob3 _ ge;have keep3: ∀b o,b≠e->s2.heap.get? b=some o->h3.get? b=some o:=λb o n q=>kp3 b o n (λo0 dx z1 z2=>by rw[ge]at z1;cases z1;cases z2) q
 have hn3:h3.Ns h1.objs.size m:=by
  obtain⟨o,es,ep,z1,z2⟩:=hn;exact⟨o,es,ep,keep3 _ _ (Ne.symm eL) z1,z2⟩
 have keep3': ∀b o,s.heap.get? b=some o->h3.get? b=some o:=λb o q=>keep3 b o (λz=>by rw[z,mk.new]at q;cases q) (x.toInCall.keep _ _<|mk.keeps b o q)
 have kin3:X.K.In h3:=I.kIn.keeps keep3';refine pY (aL6<|nX (pQ kk l2 hn3 m2<|nX (pQ kk l0 hn3 m0 ?_) d0) d2);refine xset kin3 hc hm hdct T.sa T.n2 in3 (ns:=[f1]) (λn z=> ?_) ae λh4 tk4 in4 kp4 ob4=> ?_
 .by_cases c:n=f1
  .simp[c]
  .rw[a6 c]at z;exact absurd rfl z
 obtain⟨o4,g4,c4,dt4,dd4⟩:=ob4 _ g3;refine kC ?_;obtain⟨o5,g5,_,_,dd5⟩:=in4;rw[g4]at g5;cases g5;rcases dd5 with⟨_,no⟩| ⟨d,ed,de,nd⟩
 .have:=no f2;simp at this
 have dn:s.heap.get? d=none:=by
  cases q:s.heap.get? d with
  | none=>rfl
  | some o=>
   exfalso
   have a3:=aW (keep3' d o q);have a2:=aW (x.toInCall.keep _ _<|mk.keeps d o q);rcases dd4 d ed with z|z
   .rcases dd3 d z with z|z
    .cases z
    .exact absurd (b9 a2 z) (d3 _)
   .exact absurd (b9 a3 z) (d3 _)
 refine⟨rfl,J.os,J.bare,λb o q=> ?_,o4,t,d,w1,w2,g4,?_,?_,ed,de,dn,q1,q2,nd⟩
 .refine kp4 b o (λz=>by rw[z,mk.new]at q;cases q) (λo0 dx z1 z2=> ?_) (keep3' b o q)
  rw[g3]at z1;cases z1;rcases dd3 dx z2 with z|z
  .cases z
  .intro z';have:=aW (x.toInCall.keep _ _<|mk.keeps b o q);rw[z']at this;exact absurd (b9 this z) (d3 _)
 .rw[c4,c3]
 .rw[dt4,dt3]
end
noncomputable def a66 (K:PySem.W.Frag)(C fI:Addr)(bmB:List Value)(newId:String):Bool:=match K.lookup C with
 | some ⟨.type "type",_,.cls ck,sl⟩=>(match ck.mro,sl.toList with
  | .ref C2::tail,[_,_,_,_,some<|.builtin nid,_]=>C2==C&&nid==newId&& !ck.hasDel&&PySem.W.tailIn K bmB tail&&PySem.W.nsOkIn K ck.ns&&nsIn K ck.ns "__init__"==some (some<|.ref fI)
  | _,_=>false)
 | _=>false
theorem dR6 {N:Addr}{n:Str}(X:K.In h)(G:h.Ns N mg)(e:nsIn K N n=some (some v)):mg n=some v:=by
 obtain⟨ob,ents,np,look0,dat,_,find0⟩:=G;unfold nsIn at e;split at e
 .rename_i look
  have same:=X _ _ look;rw[look0]at same;cases same;cases dat;split at e
  .rename_i en found
   cases e;rw[<-find0];unfold nsFind findBy;rw[<-Array.find?_toList,found];rfl
  .split at e<;>cases e
 .cases e
structure XClsI (h:Heap)(C fI:Addr)(bmB bm:List Value)(newId:String):Prop where
 ex: ∃(nm q:Str) (N:Addr) (bs:List Value) (hd:Bool) (sn:List Str) (sub:List Value) (ab:Bool) (col:Option Bool) (dd:Option Addr) (k0 k1 k2 k3 k5:Option Value) (mN:Str->Option Value),
  h.get? C=some (excClassObj nm q C N bs bm hd sn sub ab col dd k0 k1 k2 k3 k5 newId)/\h.Ns N mN/\mN "__init__"=some (.ref fI)
 tl:OwnTail h bmB bm
theorem aT9 (X:K.In h)(q:a66 K C fI bmB newId=true): ∃bm,XClsI h C fI bmB bm newId:=by
 unfold a66 at q;split at q
 .rename_i od ck slots look
  split at q
  .rename_i C2 tail a0 a1 a2 a3 nid a5 em es
   simp only[dZ,fO,aO6]at q;obtain⟨⟨⟨⟨⟨rfl,rfl⟩,nodel⟩,tk⟩,nk⟩,ni⟩:=q;obtain⟨c1,c2,c3,c4,c5,c6,c7,c8,c9,c10,c11⟩:=ck;dsimp only at em nodel nk ni;subst em nodel;obtain⟨sll⟩:=slots;simp only at es;subst es;have nsk:h.Ns c4 (h.nsMap c4):= .of_isNs (PySem.W.isNs_of_in X nk);exact⟨tail,⟨⟨_,_,_,_,_,_,_,_,_,_,_,_,_,_,_,_,X _ _ look,nsk,dR6 X nsk ni⟩,PySem.W.tail_of_in X tk⟩⟩
  .cases q
 .cases q
section
variable {M:Model}{A:Around}{E:Value->Shared->Prop}{s:Shared}{env:Env}
variable {nm qn:Str}{C N:Addr}{bs bm:List Value}{hdd:Bool}{sn:List Str}{sub:List Value}{ab:Bool}{col:Option Bool}{dd:Option Addr}{k0 k1 k2 k3 k5:Option Value}{newId:String}
theorem xraise {x:Sem Value}{Q:Flow->Shared->Prop}(hbase:bm.contains (.type "BaseException")=true)(hh:A.handled=none)
  (h:wpAny M A x (λv s1=> ∃e oe vs,v= .ref e/\s1.heap.get? C=some (excClassObj nm qn C N bs bm hdd sn sub ab col dd k0 k1 k2 k3 k5 newId)/\s1.heap.get? e=some oe/\oe.cls= .ref C/\oe.data= .fields vs/\vs[1]? =some .none/\E (.ref e) s1) E s) :
  wpAny M A (raiseStmt env (some x) none) Q E s:=by
 have has:(Value.ref C::bm).contains (.type "BaseException")=true:=by rw[zS,hbase,a12]
 unfold raiseStmt;refine a9 (bJ h (λv s1 z=> ?_) λ_ _ y=>y)
 obtain⟨e,oe,vs,rfl,hC,he,hcl,hdt,h1,hE⟩:=z;obtain⟨hp,gn,dr,tn,os⟩:=s1;obtain⟨oc,od,odt,osl⟩:=oe;dsimp only at hcl hdt;subst hcl hdt
 repeat (first
  | with_reducible refine kA he ?_
  | with_reducible refine kA hC ?_
  | (with_reducible refine pT hC ?_;rw[has])
  | wp_step)
 rw[h1];refine aK (aK ?_);exact wpAny_raiseNew_none hh hE
end
section
variable {P:Program}{w:World}{H:Hp}{h h':Heap}{a:Addr}{o:HO}{fs ex:List Addr}
theorem HOk.laidN (x:HOk P w H h)(k: ∀b u,h.get? b=some u->h'.get? b=some u)(hn:H a=none)(new:rH P w (upd H a o) h' a o):HOk P w (upd H a o) h':=λb u e=>by
 by_cases hb:b=a
 .subst hb;rw[iZ]at e;cases e;exact new
 .rw[cL hb]at e;exact(x b u e).stay (λc v _ q=>k c v q) (λc q=>by rw[cL<|dD q hn];exact q) λc xs q=>by rw[cL<|dD q hn];exact q
theorem Un.laidN (k: ∀b u,h.get? b=some u->h'.get? b=some u)(hp:h.get? a=none)(hn:H a=none):Un fs ex H (upd H a o) h h' where
 keep:=λb u q _ _ _=>k b u q
 slot:=λb u q _ _ _=>⟨u.slots,k b u q⟩
 free:=λb u q n _=>by rw[cL (λz=>by rw[z,hp]at q;cases q)];exact n
 there:=λb u q _=>⟨u,k b u q⟩
 tups:=λb xs q=>by rw[cL<|dD q hn];exact q
 frzs:=λb u xs q=>by rw[cL<|dD q hn];exact q
 tbls:=λb ps q=>⟨#[],by rw[cL<|dD q hn,q];simp⟩
end
section
variable {X:Cx}{E:XK}{C fI:Addr}
def dR7 (C:Addr)(f1 f2:Str)(E:XK)(ta:TA):TS:=λ_ σ H=>ta σ H λvs H1=> ∃v1 v2,vs=[v1,v2]/\ ∀d,H1 d=none->E (.ref C) (some d) (upd H1 d<|.xd [(f1,v1),(f2,v2)])
theorem d01 {x:Str}{np cpos pos:Pos}{e1 e2:Expr}{ta:TA}{B newId initId:String}{bmB:List Value}{fd:FuncData}{f1 f2:Str}{k:Nat}(FB:ExcBaseFacts B newId initId bmB)(q:a66 X.K C fI bmB newId=true)(T:c82 X.K C fI fd f1 f2)(hr:gS (k+1) X.A)(hg:Gl X x)(hm:X.mg x=some (.ref C))(hc:X.calm=true)(ha:PA X [e1,e2] ta)(th:bC5 X E C)(hne:f1≠f2)
  (he:↥(starEach [e1,e2] X.env=(false,eval e1 X.env)::starEach [e2] X.env)) (hpl:↥((backTo cpos<|starEach [e2] X.env).any (·.1)=false)) (hd:⇑((x==("__debug__":Str))=false)) (hex:↥(X.ex=[])) :
  PS X (.Raise (some<|.Call (.Name x np) [e1,e2] [] cpos) none pos) (dR7 C f1 f2 E ta):=by
 intro pins s σ H D I h;obtain⟨bm,⟨⟨nm,qn,N,bs,hdd,sn,sub,ab,col,dd,k0,k1,k2,k3,k5,mN,hC,hN,hni⟩,tl⟩⟩:=aT9 I.mod.kin q;have keepS: ∀{pins:List (Addr×Obj)} {σ:St} {H:Hp} {s2:Shared},Inv X pins σ H s2-> ∀b o,X.base.get? b=some o->s2.heap.get? b=some o:=λJ=>J.bk
 rw[arm_exec_Raise];refine a9 (qB<|xraise (C:=C) (nm:=nm) (qn:=qn) (N:=N) (bs:=bs) (bm:=bm) (hdd:=hdd) (sn:=sn) (sub:=sub) (ab:=ab) (col:=col) (dd:=dd) (k0:=k0) (k1:=k1) (k2:=k2) (k3:=k3) (k5:=k5) (newId:=newId) (tl.hasType FB.hasBase) (I.ok.hd hc) ?_);refine a9 (bJ (wpAny_Call_ofName<|nE I hg hm ?_ hd) (λv s3 h3=>a9 (qB<|aK h3)) λ_ _ z=>z)
 have plain:(backTo cpos<|starEach [e1,e2] X.env).any (·.1)=false:=by
  rw[he];show(false||(backTo cpos<|starEach [e2] X.env).any (·.1))=false;rw[hpl];rfl
 have hh:=ha cpos pins s σ H _ I h;unfold callWith;rw[he]at hh plain⊢;refine a9 (hX<|aN1<|bJ hh (λus s2 z=>a9 (qB ?_)) λ_ _ z=>z)
 obtain⟨vs,H1,I1,r1,w1,w2,rfl,hE⟩:=z;simp only[plain];have hC2:=keepS I1 _ _ hC;obtain⟨u1,u2,rfl⟩: ∃u1 u2,us=[u1,u2]:=by
  have e:=r1.length
  match us,e with
  | [a,b],_=>exact⟨a,b,rfl⟩
 obtain⟨q1,q2⟩:RelV w1 u1/\RelV w2 u2:=by
  cases r1 with
  | cons a r=>
   cases r with
   | cons b _=>exact⟨a,b⟩
 obtain⟨oc,od,_,_,_,_,_,_,_,_,_,_,osl,_,_,_,_,_,_,_,_,_,_,_,efd,lk,oce,_⟩:=T.ex;have gf:=I1.kIn _ _ lk;obtain⟨hp,gn,dr,tn,os⟩:=s2;refine a9 (wpAny_keeperOf_exc hC2 ?_);refine a9 (xcall FB (tl.keeps<|keepS I1) hC2 (hN.keeps<|keepS I1) hni gf oce (λh' a mk=> ?_) (by simp;decide))
 refine bJ (d00 T I1 hr mk q1 q2) (λr s' z=> ?_) λ_ _ z=>z
 obtain⟨rfl,z1,z2,z3,oe,t,d,y1,y2,z4,z5,z6,ed,de,dn,x1,x2,nd⟩:=z;refine⟨rfl,a9<|hX<|wpAny_point<|aK ?_⟩;have dH:H1 d=none:=I1.hok.there dn;have I2:Inv X pins σ (upd H1 d<|.xd [(f1,w1),(f2,w2)]) s':=by
  obtain⟨hp',gn',dr',tn',os'⟩:=s';obtain rfl:os'=os:=z1;refine I1.call (h':=hp') (g':=gn') (d':=dr') (t':=tn') (ch:=[]) (Un.laidN z3 dn dH) (I1.hok.laidN z3 dH ?_) z2 (λb z=>absurd z ae)
  refine⟨_,nd,λf=> ?_⟩
  simp only[dA,List.lookup_nil]
  by_cases c1:f=f1
  .subst c1;rw[aO9,a6 hne,a7 rfl];exact x1
  .rw[show(f==f1)=false from pR.mpr c1]
   by_cases c2:f=f2
   .subst c2;rw[aO9,a7 rfl];exact x2
   .rw[show(f==f2)=false from pR.mpr c2,a6 c2,a6 c1]
    exact trivial
 refine⟨a,oe,_,rfl,z3 _ _ hC2,z4,z5,z6,rfl,?_⟩
 refine th pins σ _ s' a oe _ (.ref t) (some d) I2 z4 z5 z6 rfl rfl (by rw[cL<|Ne.symm de];exact I1.hok.there mk.new) ?_ (λd' e=>by cases e;exact⟨oe,z4,ed⟩) (hE d dH)
 cases r:X.s₀.heap.get? a with
 | none=>rfl
 | some o=>
  obtain⟨o',q'⟩:=I1.base.there a o r (by rw[hex];simp)
  rw[mk.new]at q';cases q'
end
end L2
namespace M
abbrev XP:=Str->List D->Prop
abbrev ΦX:=List D->(B->Prop)->XP->Prop
noncomputable def a95 (n:Str):List Str:=if n="FallsApart" then ["left","right"]else if n="NotWhole" then ["prime","number"]else []
noncomputable def XR (K:PySem.W.Frag)(A:AS)(H:Hp)(n:Str)(ds:List D):Option Addr->Prop
 | none=>a95 n=[]
 | some d=> ∃vs,¬A d/\H d=some (.xd<|(a95 n).zip vs)/\(a95 n).length=vs.length/\bS K A H ds vs
theorem XR.mono {K:PySem.W.Frag}{A A':AS}{H H':Hp}{n:Str}{ds:List D}(p:mK A H A' H'): ∀{o:Option Addr},XR K A H n ds o->XR K A' H' n ds o
 | none,h=>h
 | some d,⟨vs,h1,h2,h3,h4⟩=>⟨vs,(p d _ h1 h2).1,(p d _ h1 h2).2,h3,h4.mono p⟩
noncomputable def spX (K:PySem.W.Frag)(mg:Str->Option Value)(φ:ΦX):Sp:=λvs H Q E=> ∃A ds Q0 Ex,(∀a,A a->H a≠none)/\bS K A H ds vs/\φ ds Q0 Ex/\(∀b v H',Q0 b->iE H H'->qJ K A H H' b v->Q v H')/\ ∀n C es o H',Ex n es->mg n=some (.ref C)->iE H H'->XR K A H' n es o->E (.ref C) o H'
structure FnX (P:Program)(w:World)(K:PySem.W.Frag)(mg:Str->Option Value)(base:Heap)(x:Str)(ps:List Str)(k:Nat)(φ:ΦX):Prop where
 ex: ∃f fd,rW P w K mg base (CXr P w base) k f fd ps (spX K mg φ)/\Binds K fd ps []/\keepIn K (.ref f)=true/\mg x=some (.ref f)
abbrev USX:=XP->US
def lSX (K:PySem.W.Frag)(mg:Str->Option Value)(E:XK)(t:USX):TS:=λD σ H=> ∃C ρ D0 Ex,EOk K C ρ σ H/\t Ex D0 ρ/\DOk K C D0 D/\ ∀n Cl es o H',Ex n es->mg n=some (.ref Cl)->iE C.H0 H'->XR K C.A0 H' n es o->E (.ref Cl) o H'
def bZ6 (X:Cx)(E:XK)(st:Stmt)(t:USX):Prop:=PS X st (lSX X.K X.mg E t)
def yJ (X:Cx)(E:XK)(sts:List Stmt)(t:USX):Prop:=PSs X sts (lSX X.K X.mg E t)
section
variable {X:Cx}{E:XK}{st:Stmt}{sts:List Stmt}{t u:USX}{e:Expr}{es:List Expr}{pos:Pos}
theorem vY {t:US}(h:PUS X st t):bZ6 X E st (λ_=>t):=sQ h λD σ H ⟨C,ρ,D0,Ex,I,h,k,_⟩=>⟨C,ρ,D0,I,h,k⟩
theorem dC0 {t:US}(h:pF X sts t):yJ X E sts (λ_=>t):=bB5 h λD σ H ⟨C,ρ,D0,Ex,I,h,k,_⟩=>⟨C,ρ,D0,I,h,k⟩
theorem a29 (h1:bZ6 X E st t)(h2:yJ X E sts u):yJ X E (st::sts) (λEx=>aT (t Ex) (u Ex)):=
 bB5 (yD h1 h2) λD σ H ⟨C,ρ,D0,Ex,I,h,k,kx⟩=>⟨C,ρ,{D0 with nx:=u Ex D0},Ex,I,h,⟨λρ' σ' H' q I'=>⟨C,ρ',D0,Ex,I',q,k,kx⟩,k.rt,k.bk,k.ct⟩,kx⟩
theorem a96 (h1:bZ6 X E st t):yJ X E [st] t:=bW4 h1
theorem bC8:yJ X E [] (λ_=>dN):=dC0 bX7
theorem c83 {a b:List Stmt}{tc:UT}(hc:PUT X c tc)(ha:yJ X E a t)(hb:yJ X E b u):bZ6 X E (.If c a b pos) (λEx=>fX tc (t Ex) (u Ex)):=
 sQ (dY2 hc ha hb) λD σ H ⟨C,ρ,D0,Ex,I,h,k,kx⟩=>⟨C,ρ,_,I,h,λc ρ1 H1 q f s=>by
  have I1:=(I.frz f).same s;cases c with
  | true=>
   dsimp only at q⊢;rw[a7 rfl]at q⊢;exact⟨C,ρ1,D0,Ex,I1,q,k,kx⟩
  | false=>
   dsimp only at q⊢;rw[a6 ac]at q⊢
   exact⟨C,ρ1,D0,Ex,I1,q,k,kx⟩⟩
def bZ7 (φ:ΦX)(t:UA)(Ex:XP):UE:=λρ Q=>t ρ λds ρ1=>φ ds (λb=>Q b ρ1) Ex
theorem spX_of {φ:ΦX}{C:C0}{ρ ρ1:Ev}{σ:L2.St}{H H1:Hp}{ds:List D}{vs:List V}{Q0:B->Prop}{Ex:XP}{Q:VK}(I:EOk X.K C ρ σ H)(f:Frz ρ ρ1)(s:iE H H1)(r:bS X.K (Av C ρ1 σ) H1 ds vs)(q:φ ds Q0 Ex)(kq: ∀b v H',Q0 b->iE H1 H'->qJ X.K (Av C ρ1 σ) H1 H' b v->Q v H')(kx: ∀n Cl es o H',Ex n es->X.mg n=some (.ref Cl)->iE C.H0 H'->XR X.K C.A0 H' n es o->E (.ref Cl) o H'):spX X.K X.mg φ (vs++[]) H1 Q E:=by
 have I1:=(I.frz f).same s;rw[jA];exact⟨Av C ρ1 σ,ds,Q0,Ex,λa z=>I1.avSome z,r,q,kq,λn Cl es o H' ex hm s' x=>kx n Cl es o H' ex hm (I1.ext.trans s') (x.mono<|.sub (.refl _) λa z=> .inl z)⟩
theorem cR0 {ps:List Str}{φ:ΦX}{t:UA}(F:FnX X.prog X.w X.K X.mg X.base x ps k φ)(hr:gS k' X.A)(hk:k<=k')(hp:wL (CXr X.prog X.w X.base) X E)(hg:Gl X x)(ha:PUA X (e::es) t)(hdb:⇑((x==("__debug__":Str))=false))
  (he:↥(starEach (e::es) X.env=(false,eval e X.env)::starEach es X.env)) (hpl:↥((backTo cpos<|starEach es X.env).any (·.1)=false)) (hs:↥(swapsWith (.Call (.Name x p) (e::es) [] cpos) none pos.line X.env=pure false)) :
  bZ6 X E (.Expr (.Call (.Name x p) (e::es) [] cpos) pos) (λEx=>aT3 (bZ7 φ t Ex)):=by
 obtain⟨f,fd,G,b,kp,m⟩:=F.ex;exact sQ (bW5 (cP7 G (hr.mono hk) hg m kp b .nil hp ha hdb he hpl) hs) λD σ H ⟨C,ρ,D0,Ex,I,h,k,kx⟩=>⟨C,ρ,_,I,h,λds ρ1 vs H1 q f s r=>spX_of I f s r q (λb v H' q' s' r'=>k.nx _ _ _ q' (((I.frz f).same s).same s')) kx⟩
def aZ2 (x:Str)(t:UA)(Ex:XP):US:=λ_ ρ=>t ρ λds _=>ds.length<=sizeLine/\Ex x []
theorem lRaise {t:UA}(hm:X.mg x=some (.ref C))(hk:a95 x=[])(D:aS5)(σ:L2.St)(H:Hp)(h:lSX X.K X.mg E (λEx=>aZ2 x t Ex) D σ H):dB8 C E (lA X.K t) D σ H:=by
 obtain⟨C0,ρ,D0,Ex,I,h,k,kx⟩:=h;exact⟨C0,ρ,_,I,h,λds ρ1 vs H1 q f s r=>⟨by rw[<-r.length];exact q.1,kx x C [] none H1 q.2 hm (I.ext.trans s) hk⟩⟩
def aU0 (x:Str)(t1 t2:UE)(Ex:XP):US:=λ_ ρ=>t1 ρ λa ρ1=>t2 ρ1 λb _=>Ex x [a.d,b.d]
theorem bC9 {t:UA}{B:String}(FB:ExcBaseFacts B newId initId bmB)(q:excIn X.K C bmB newId=true)(hg:Gl X x)(hm:X.mg x=some (.ref C))(hc:X.calm=true)(ha:PUA X (e::es) t)(th:bC5 X E C)(hk:a95 x=[])
  (he:↥(starEach (e::es) X.env=(false,eval e X.env)::starEach es X.env)) (hpl:↥((backTo cpos<|starEach es X.env).any (·.1)=false)) (hd:⇑((x==("__debug__":Str))=false)) (hex:↥(X.ex=[])) :
  bZ6 X E (.Raise (some<|.Call (.Name x np) (e::es) [] cpos) none pos) (λEx=>aZ2 x t Ex):=sQ (dB9 FB q hg hm hc ha th he hpl hd hex) (lRaise hm hk)
theorem bS0 {e1 e2:Expr}{t1 t2:UE}{B:String}(FB:ExcBaseFacts B newId initId bmB)(q:a66 X.K C fI bmB newId=true)(T:c82 X.K C fI fd f1 f2)(hr:gS (k+1) X.A)(hg:Gl X x)(hm:X.mg x=some (.ref C))(hc:X.calm=true)(ha:PUA X [e1,e2] (a8 t1<|a8 t2 aM))(th:bC5 X E C)(hk:a95 x=[f1,f2])(hne:f1≠f2)
  (he:↥(starEach [e1,e2] X.env=(false,eval e1 X.env)::starEach [e2] X.env)) (hpl:↥((backTo cpos<|starEach [e2] X.env).any (·.1)=false)) (hd:⇑((x==("__debug__":Str))=false)) (hex:↥(X.ex=[])) :
  bZ6 X E (.Raise (some<|.Call (.Name x np) [e1,e2] [] cpos) none pos) (λEx=>aU0 x t1 t2 Ex):=by
 refine sQ (d01 FB q T hr hg hm hc ha th hne he hpl hd hex) λD σ H ⟨C0,ρ,D0,Ex,I,h,k,kx⟩=> ?_
 refine⟨C0,ρ,λds _=> ∃a b,ds=[a,b]/\Ex x ds,I,?_,λds ρ' vs H' ⟨a,b,q1,q2⟩ f s r=> ?_⟩
 .have e9: ∀(z y:M.B) (ρ2:Ev),(∃a b,[z.d,y.d]=[a,b]/\Ex x [z.d,y.d])=Ex x [z.d,y.d]:=λz y ρ2=>propext ⟨λ⟨_,_,_,w⟩=>w,λw=>⟨_,_,rfl,w⟩⟩
  show t1 ρ λz ρ1=>t2 ρ1 λy ρ2=> ∃a b,[z.d,y.d]=[a,b]/\Ex x [z.d,y.d]
  have:=h;unfold aU0 at this;simp only[e9 _ _ ρ];exact this
 .subst q1;obtain⟨v1,vr,rfl,r1,r2⟩:=r.uncons;obtain⟨v2,vr2,rfl,r3,r4⟩:=r2.uncons;cases r4.unnil;refine⟨v1,v2,rfl,λd hd=> ?_⟩
  have I1:=(I.frz f).same s;have s2:iE H' (upd H' d<|.xd [(f1,v1),(f2,v2)]):=λb o z=>by rw[cL<|dD z hd];exact z
  have na: ∀a,C0.A0 a->a≠d:=λa z e=>I1.avSome (.inl z) (by rw[e];exact hd)
  refine kx x C _ (some d) _ q2 hm (I1.ext.trans s2) ⟨[v1,v2],λz=>na d z rfl,?_,by rw[hk];rfl,(bS.cons r1<|.cons r3 .nil).mono λb o n z=>⟨λw=>n (.inl w),s2 b o z⟩⟩
  rw[iZ,hk];rfl
theorem dC1 {st:Stmt}{ps:List Str}{φ:ΦX}(F:Fun K x qual st f fd)(S:aY N ps (aF st))
  (len: ∀ds Q Ex,φ ds Q Ex->ds.length=ps.length) {t:USX}
  (der: ∀(cdv:Value) (A:Around) (outer:List Env) (s:Shared) (H:Hp) (E:XK),gS k (A.deeper<|envOfC qual (aF st) s.heap.objs.size f cdv)->yJ (sY (CXr P w base) P w K mg base N qual (aF st) f cdv A outer s H E) E (dY st) t)
  (rd: ∀ds Q Ex,φ ds Q Ex->t Ex {nx:=λ_=>Q (.pu .non),rt:=Q} (init N ds)) :
  rW P w K mg base (CXr P w base) (k+1) f fd ps (spX K mg φ):=by
 obtain⟨oc,od,kV,doc,pm,an,cdv,ct,osl,rfl,lk,hcd⟩:=F.ex;refine d69 lk hcd S (λvs H Q E h=> ?_) λA outer s H vs Q E hr h=> ?_
 .obtain⟨A,ds,Q0,Ex,_,r,h,_⟩:=h;rw[<-r.length];exact len ds Q0 Ex h
 .obtain⟨A',ds,Q0,Ex,hA,r,h,q,qx⟩:=h;refine⟨_,der cdv A outer s H E hr,⟨H,A'⟩,init N ds,_,Ex,bY4 hA r,rd ds Q0 Ex h,⟨λρ σ H' z I=> ?_,λb v H' z s r=>q b v H' z s r,λ_ _ _ z=>z.elim,λ_ _ _ z=>z.elim⟩,qx⟩
  exact q _ _ H' z I.ext (show Rep _ _ _ _ _ by simp only[Rep])
theorem FnX.mk' {st:Stmt}{ps:List Str}{φ:ΦX}(F:Fun K x qual st f fd)(m:mg x=some (.ref f))(b:Binds K fd ps [])(S:aY N ps (aF st))
  (len: ∀ds Q Ex,φ ds Q Ex->ds.length=ps.length) {t:USX}
  (der: ∀(cdv:Value) (A:Around) (outer:List Env) (s:Shared) (H:Hp) (E:XK),gS k (A.deeper<|envOfC qual (aF st) s.heap.objs.size f cdv)->yJ (sY (CXr P w base) P w K mg base N qual (aF st) f cdv A outer s H E) E (dY st) t)
  (rd: ∀ds Q Ex,φ ds Q Ex->t Ex {nx:=λ_=>Q (.pu .non),rt:=Q} (init N ds)):FnX P w K mg base x ps (k+1) φ:=
 ⟨f,fd,dC1 F S len der rd,b,F.kp,m⟩
end
end M
section
namespace L2
section
variable {X:Cx}{pins:List (Addr×Obj)}{σ:St}{H:Hp}{s:Shared}{h':Heap}{e:Addr}
theorem Inv.past (I:Inv X pins σ H s)(p:bM4 (frs X.stack) e s.heap h')(hstk:X.stack=X.env::X.outer)(hfr:X.env.frame=some X.env.locals)(hex:X.ex=[])(gs: ∀b o,X.s₀.heap.get? b=some o-> ∃o',g.get? b=some o')(gp: ∀q∈X.pn++pins,∃o',g.get? q.1=some o')(ne:g.get? e=none)(nt: ∀T,Tr s.heap e T->g.get? T=none)(he:H e=none)(ht: ∀T,Tr s.heap e T->H T=none):Inv X pins σ H {s with heap:=h'}:=by
 have none0: ∀b,g.get? b=none->X.s₀.heap.get? b=none:=λb q=>by
  cases r:X.s₀.heap.get? b with
  | none=>rfl
  | some o=>obtain⟨o',q'⟩:=gs b o r;rw[q]at q';cases q'
 have fm: ∀b∈frs X.stack,b=X.env.locals\/b∈X.fs:=λb hb=>by
  rw[hstk]at hb;unfold Cx.fs;unfold frs at hb⊢;rw[gZ,hfr]at hb;exact aZ.mp hb
 have hL:X.s₀.heap.get? X.env.locals=none:=kY I.ok.above;have hd: ∀b∈X.fs,∀o,s.heap.get? b=some o-> ∀vs,o.data≠ .fields vs:=λb hb o q=>by
  have fl:=I.stack;rw[hstk]at fl;obtain⟨_,o',q',n⟩:=fl.mem (b:=b) (by
   unfold Cx.fs frs at hb;rw[gZ,hfr];exact aZ.mpr (.inr hb))
  rw[q]at q';cases q';exact n
 have hb0:=I.base;rw[hex]at hb0;have un:=hb0.past p fm hL (none0 e ne) (λT q=>none0 T (nt T q)) hd
 have cellS: ∀c v,s.heap.IsCell c v->h'.IsCell c v:=λc v ⟨o,q1,q2⟩=>by
  obtain⟨sl,q3⟩:=p.slot c o q1 (λvs z=>by rw[q2]at z;cases z)
  exact⟨_,q3,q2⟩
 refine⟨I.ok,I.os,I.bare,by rw[hex];exact un,?_,λx c q=> ?_,I.free,I.freeC,λq hq=> ?_,I.hok.past p I.stkFree he ht,I.len⟩
 .obtain⟨m,hn,hl⟩:=I.loc;refine⟨m,p.slot.ns hn,λi x v a b c=> ?_⟩
  obtain⟨u,r,lo⟩:=hl i x v a b c;refine⟨u,r,?_⟩;rcases lo with z| ⟨z1,c,z2,z3⟩
  .exact .inl z
  .exact .inr ⟨z1,c,z2,cellS c _ z3⟩
 .obtain⟨v,z⟩:=I.cell x c q;exact⟨v,cellS c v z⟩
 .obtain⟨z1,z2,z3,z4,z5⟩:=I.pin q hq;obtain⟨o',g1⟩:=gp q hq;refine⟨p.keep q.1 q.2 z1 (λz=> ?_) (λz=>by rw[z,ne]at g1;cases g1) (λz=>by rw[nt _ z]at g1;cases g1),z2,z3,z4,z5⟩
  rcases fm _ z with y|y
  .exact z3 y
  .exact z4 y
end
noncomputable abbrev Cx.inX (X:Cx)(e:Addr):Cx:={X with A:=X.A.mark (some<|.ref e),calm:=false,xe:=λ_ _=>False}
theorem Cx.Ok.inX {X:Cx}(ok:X.Ok)(e:Addr):(X.inX e).Ok:=
 ⟨ok.mod,ok.kind,ok.glob,ok.blt,ok.above,ok.inj,ok.has,ok.cab,(λz=>by cases z),ok.frames,ok.stk,ok.exf,ok.bs,ok.bsz,ok.noex,ok.exfs,ok.funs,ok.frf⟩
section
variable {X:Cx}{pins:List (Addr×Obj)}{σ:St}{H:Hp}{s:Shared}{e:Addr}
theorem Inv.inX (I:Inv X pins σ H s)(e:Addr):Inv (X.inX e) pins σ H s:=⟨I.ok.inX e,I.os,I.bare,I.base,I.loc,I.cell,I.free,I.freeC,I.pin,I.hok,I.len⟩
theorem Cx.Ok.outX {X:Cx}{Y:Cx}(okY:Y.Ok){e:Addr}(ok:(X.inX e).Ok)(hd:X.calm=true->X.A.handled=none):X.Ok:=
 ⟨ok.mod,ok.kind,ok.glob,ok.blt,ok.above,ok.inj,ok.has,ok.cab,hd,ok.frames,ok.stk,ok.exf,ok.bs,ok.bsz,ok.noex,ok.exfs,ok.funs,ok.frf⟩
theorem Inv.outX (I:Inv (X.inX e) pins σ H s)(hd:X.calm=true->X.A.handled=none):Inv X pins σ H s:=⟨I.ok.outX I.ok hd,I.os,I.bare,I.base,I.loc,I.cell,I.free,I.freeC,I.pin,I.hok,I.len⟩
theorem SP.outX {D:aS5}{f:Flow}(h:SP (X.inX e) pins D f s')(hd:X.calm=true->X.A.handled=none):SP X pins D f s':=by
 cases f with
 | next=>obtain⟨σ',H',I,q⟩:=h;exact⟨σ',H',I.outX hd,q⟩
 | brk=>obtain⟨σ',H',I,q⟩:=h;exact⟨σ',H',I.outX hd,q⟩
 | cont=>obtain⟨σ',H',I,q⟩:=h;exact⟨σ',H',I.outX hd,q⟩
 | ret u=>obtain⟨v,σ',H',I,r,q⟩:=h;exact⟨v,σ',H',I.outX hd,r,q⟩
theorem dC2 {M:Model}{hp:Heap}{gn:Array GenState}{dr:Drawn}{tn:Nat}{os:OsState}{Q:Bool->Shared->Prop}
  {nm qn:Str} {N:Addr} {bs bm:List Value} {hdd:Bool} {sn:List Str} {sub:List Value} {ab:Bool} {col:Option Bool} {dd:Option Addr} {k0 k1 k2 k3 k5:Option Value} {newId:String}
  {nm' qn':Str} {N':Addr} {bs' bm':List Value} {hdd':Bool} {sn':List Str} {sub':List Value} {ab':Bool} {col':Option Bool} {dd':Option Addr} {k0' k1' k2' k3' k5':Option Value} {newId':String}
  (hC:hp.get? C=some (excClassObj nm qn C N bs bm hdd sn sub ab col dd k0 k1 k2 k3 k5 newId)) (hR:hp.get? R=some (excClassObj nm' qn' R N' bs' bm' hdd' sn' sub' ab' col' dd' k0' k1' k2' k3' k5' newId'))
  (he:hp.get? e=some oe) (hcl:oe.cls= .ref C) (hb:bm'.contains (.type "BaseException")=true) (hr:(Value.ref C::bm).contains (.ref R)=true) (hq:Q true ⟨hp,gn,dr,tn,os⟩) :
  wpAny M A (excMatches (.ref e)<|.ref R) Q E ⟨hp,gn,dr,tn,os⟩:=by
 have t1:(Value.ref R::bm').contains (.type "BaseException")=true:=by rw[zS,hb,a12]
 have t2:=tc_notTuple;unfold excMatches
 repeat (first
  | (with_reducible refine kA he ?_;rw[hcl])
  | with_reducible refine kA hR ?_
  | (with_reducible refine pT hR ?_;rw[t1])
  | (with_reducible refine pT hC ?_;rw[hr])
  | wp_step)
 exact hq
end
theorem bC4.past {fs:List Addr}{e:Addr}(n:bC4 g e h)(p:bM4 fs e h h')(gh: ∀b o,g.get? b=some o-> ∃o',h.get? b=some o')(hf: ∀b∈fs,∀o,h'.get? b=some o-> ∀vs,o.data≠ .fields vs):bC4 g e h':=by
 refine⟨n.he,λT q=> ?_⟩
 rcases p.tr T q with z|z|z|z
 .obtain⟨o,vs,q1,q2⟩:=p.rcd T q;exact absurd q2 (hf T z o q1 vs)
 .rw[z];exact n.he
 .exact n.ht T z
 .cases r:g.get? T with
  | none=>rfl
  | some o=>obtain⟨o',q'⟩:=gh T o r;rw[z]at q';cases q'
theorem a30 {fs:List Addr}{e:Addr}(n:bC4 g e h)(p:bM4 fs e h h')(gh: ∀b o,g.get? b=some o-> ∃o',h.get? b=some o')(hf: ∀b∈fs,∀o,h.get? b=some o-> ∀vs,o.data≠ .fields vs): ∀b o,g.get? b=some o-> ∃o',h'.get? b=some o':=λb o q=>by
 obtain⟨o',q'⟩:=gh b o q
 by_cases c:b∈fs
 .obtain⟨sl,z⟩:=p.slot b o' q' (hf b c o' q');exact⟨_,z⟩
 .exact⟨o',p.keep b o' q' c (λz=>by rw[z,n.he]at q;cases q) λz=>by rw[n.ht b z]at q;cases q⟩
theorem c84 {l:List Env}(f:h.FunFrames base l): ∀b∈frs l,∀o,h.get? b=some o-> ∀vs,o.data≠ .fields vs:=λb hb o q=>by
 obtain⟨_,o',q',n⟩:=f.mem (b:=b) hb;rw[q]at q';cases q';exact n
def rL (CX:CXT)(X:Cx)(E:XK)(pins:List (Addr×Obj))(σ:St):Prop:= ∀(H:Hp) (s:Shared) (e:Value) (s':Shared),Inv X pins σ H s->CX X.stack H s E e s'->X.xe e s'
def rZ (K:PySem.W.Frag)(R C:Addr)(bmB:List Value)(newId:String):Prop:=(excIn K C bmB newId=true\/ ∃fI,a66 K C fI bmB newId=true)/\ ∃cd,PySem.W.clsIn K C=some cd/\cd.mro.contains (.ref R)=true
theorem underX (X:K.In h)(u:rZ K R C bmB newId): ∃(nm q:Str) (N:Addr) (bs bm:List Value) (hd:Bool) (sn:List Str) (sub:List Value) (ab:Bool) (col:Option Bool) (dd:Option Addr) (k0 k1 k2 k3 k5:Option Value),
  h.get? C=some (excClassObj nm q C N bs bm hd sn sub ab col dd k0 k1 k2 k3 k5 newId)/\(Value.ref C::bm).contains (.ref R)=true:=by
 obtain⟨a,cd,hc,hr⟩:=u;have has: ∃(nm q:Str) (N:Addr) (bs bm:List Value) (hd:Bool) (sn:List Str) (sub:List Value) (ab:Bool) (col:Option Bool) (dd:Option Addr) (k0 k1 k2 k3 k5:Option Value),h.get? C=some (excClassObj nm q C N bs bm hd sn sub ab col dd k0 k1 k2 k3 k5 newId):=by
  rcases a with a| ⟨fI,a⟩
  .obtain⟨bm,⟨⟨nm,qn,N,bs,hdd,sn,sub,ab,col,dd,k0,k1,k2,k3,k5,mN,hC,_⟩,_⟩⟩:=aT8 X a;exact⟨nm,qn,N,bs,bm,hdd,sn,sub,ab,col,dd,k0,k1,k2,k3,k5,hC⟩
  .obtain⟨bm,⟨⟨nm,qn,N,bs,hdd,sn,sub,ab,col,dd,k0,k1,k2,k3,k5,mN,hC,_⟩,_⟩⟩:=aT9 X a;exact⟨nm,qn,N,bs,bm,hdd,sn,sub,ab,col,dd,k0,k1,k2,k3,k5,hC⟩
 obtain⟨nm,qn,N,bs,bm,hdd,sn,sub,ab,col,dd,k0,k1,k2,k3,k5,hC⟩:=has;refine⟨nm,qn,N,bs,bm,hdd,sn,sub,ab,col,dd,k0,k1,k2,k3,k5,hC,?_⟩;unfold PySem.W.clsIn at hc;split at hc
 .rename_i look
  have same:=X _ _ look;rw[hC]at same;cases hc
  injection same with same
  injection same with _ _ same _
  injection same with same
  rw[<-same]at hr;exact hr
 .cases hc
section
variable {X:Cx}
def tTry (K:PySem.W.Frag)(R:Addr)(bmB:List Value)(newId:String)(tb:XK->TS)(th:TS):TS:=λD σ H=> ∃E,tb E D σ H/\ ∀C o H',E (.ref C) o H'->rZ K R C bmB newId/\th D σ H'
theorem ps_try {body:List Stmt}{b0:Stmt}{suite:List Stmt}{r:Str}{rp hpos pos:Pos}{R:Addr}{B newId initId:String}{bmB:List Value}{tb:XK->TS}{th:TS}(FB:ExcBaseFacts B newId initId bmB)(hstk:X.stack=X.env::X.outer)(hfr:X.env.frame=some X.env.locals)(hex:X.ex=[])(hc:X.calm=true)
  (hbody: ∀(xe:Value->Shared->Prop) (E:XK) (pins:List (Addr×Obj)) (s:Shared) (σ:St) (H:Hp) (D:aS5),Inv (X.wish xe) pins σ H s->rL (CXr X.prog X.w X.base) (X.wish xe) E pins σ->tb E D σ H->wpAny (model X.prog X.w) X.A (execs body X.env) (SP (X.wish xe) pins D) xe s)
  (hsuite: ∀a,PSs (X.inX a) (b0::suite) th) (hg:Gl X r) (hm:X.mg r=some (.ref R)) (hR:excIn X.K R bmB newId=true) (hd:⇑((r==("__debug__":Str))=false)) :
  PS X (.Try body [.ExceptHandler (some<|.Name r rp) none (b0::suite) hpos] [] [] pos) (tTry X.K R bmB newId tb th):=by
 rintro pins s σ H D I ⟨E,hb,hx⟩;refine wpAny_Try_except ?_;have goX:rL (CXr X.prog X.w X.base) (X.wish λe s1=>wpAny (model X.prog X.w) X.A (noteFrame e X.env) (λ_ s2=>wpAny (model X.prog X.w) X.A (setFlight e none) (λ_ s3=>wpAny (model X.prog X.w) X.A (handleBy e X.env [.ExceptHandler (some<|.Name r rp) none (b0::suite) hpos]) (SP X pins D) X.xe s3) X.xe s2) X.xe s1) E pins σ:=by
  rintro H1 s1 e s' J ⟨a,C,o',H',rfl,ho,hbr,un,hok,⟨⟨a0,fl⟩,fe,ft⟩,nw,_,hE⟩;have J0:=J.unwish;have J1:Inv X pins σ H' s':=J0.call' ho un hok hbr (λb z=>absurd z ae)
  obtain⟨under,hth⟩:=hx C o' H' hE;have fl':FlyingW X.base X.stack a (.ref C) a0 s'.heap:=fl;have frs':=J1.ok.frames;have g0: ∀b o,s1.heap.get? b=some o-> ∃o',s'.heap.get? b=some o':=λb o q=>un.there b o q ae
  have gs: ∀b o,X.s₀.heap.get? b=some o-> ∃o',s1.heap.get? b=some o':=λb o q=>J0.base.there b o q (by rw[hex];simp)
  have gp: ∀q∈X.pn++pins,∃o',s1.heap.get? q.1=some o':=λq hq=>⟨_,(J0.pin q hq).1⟩
  show wpAny _ _ (noteFrame (.ref a) X.env) _ _ s'
  rw[hstk]at fl' frs';refine c80 frs' hfr fl' λh2 held p2=> ?_
  rw[<-hstk]at p2 held fl';have J2:=J1.past (g:=s1.heap) p2 hstk hfr hex gs gp nw.he nw.ht fe ft;have n2:=nw.past p2 g0 (c84 held.2.2.1);have g2:=a30 nw p2 g0 (c84 fl'.2.2.1);have t2:=aG5 J1.hok p2 J1.stkFree fe ft;refine aT7 held λh3 fl3 p3=> ?_
  have J3:=J2.past (g:=s1.heap) p3 hstk hfr hex gs gp n2.he n2.ht fe t2;have n3:=n2.past p3 g2 (c84 fl3.2.2.1);have g3:=a30 n2 p3 g2 (c84 held.2.2.1);have t3:=aG5 J2.hok p3 J2.stkFree fe t2;obtain⟨oe,he,hcl⟩:=fl3.there;obtain⟨nm,qn,N,bs,bm,hdd,sn,sub,ab,col,dd,k0,k1,k2,k3,k5,hC,hin⟩:=underX J3.kIn under
  obtain⟨bm',⟨⟨nm',qn',N',bs',hdd',sn',sub',ab',col',dd',k0',k1',k2',k3',k5',mN',hRo,_⟩,tl'⟩⟩:=aT8 J3.kIn hR;refine zQ (zN<|nE (X:=X.inX a) (J3.inX a) hg hm ?_ hd) (by intro q;cases q)
  refine dC2 hC hRo he hcl (tl'.hasType FB.hasBase) hin ?_
  refine codeAny_handlers_suite (aT7 fl3 λh4 fl4 p4=> ?_)
  have J4:=J3.past (g:=s1.heap) p4 hstk hfr hex gs gp n3.he n3.ht fe t3;exact bJ (hsuite a pins _ σ H' D (J4.inX a) hth) (λf s2 q=>q.outX λ_=>J4.ok.hd hc) λ_ _ z=>z.elim
 refine bJ (hbody _ E pins s σ H D (I.wish _) goX hb) (λf s1 q=> ?_) λ_ _ z=>z
 have q':=q.unwish;cases f with
 | next=>exact kC q'
 | ret v=>exact q'
 | brk=>exact q'
 | cont=>exact q'
end
section
variable {X:Cx}{CX:CXT}{k:Nat}{f C:Addr}{fd:FuncData}{ps:List Str}{sp:Sp}{dvs:List V}{ds:List Value}{E:XK}{x:Str}{p pos:Pos}{e:Expr}{es:List Expr}{t:TA}
theorem d02 {pins:List (Addr×Obj)}{σ:St}{H:Hp}{s:Shared}{Q:VK}{us:List Value}{vs:List V}(M:Mk X.K C f)(F:rW X.prog X.w X.K X.mg X.base CX k f fd ps sp)(hr:gS (k+1) X.A)(hb:Binds X.K fd ps [])
  (hx:rL CX X E pins σ) (I:Inv X pins σ H s) (r:Vals vs us)
  (h: ∀x dx,H x=none->H dx=none->dx≠x->sp (.ref x::vs) (upd (upd H dx<|.own x) x<|.ins C dx []) (λv H2=>v= .non/\Q (.ref x) H2) E) :
  wpAny (model X.prog X.w) X.A (call (.ref C) us) (EP X pins σ Q) X.xe s:=by
 have hq:=h (s.heap.objs.size+1) s.heap.objs.size (I.hok.fresh<|uB _) (I.hok.fresh<|aG _) (bF<|pZ _);have I2:=Inv.made (C:=C) I;have r2:Vals (V.ref (s.heap.objs.size+1)::vs) (Value.ref (s.heap.objs.size+1)::us):= .cons rfl r;have hl:(Value.ref (s.heap.objs.size+1)::us++[]).length=ps.length:=by
  have e:=r2.length;rw[F.len _ _ _ _ hq]at e;rw[jA];exact e.symm
 have bd:=hb (s:={s with heap:=(s.heap.push {cls:= .type "dict",data:= .dict #[]}).push (instObj C s.heap.objs.size)}) (Value.ref (s.heap.objs.size+1)::us) I2.kIn hl;rw[jA]at bd;refine nY (c56 (f:=f) I.kIn M.makes M.init (fO.mp M.fn) (qE (F.run _ X.stack _ _ ⟨Value.ref (s.heap.objs.size+1)::us,[]⟩ (Value.ref (s.heap.objs.size+1)::us) _ _ E (hr.make C us [])
  (I2.env0.make C us []) bd r2 hq) λr s' hq'=> ?_))
 cases r with
 | error e=>exact hx _ _ e s' I2 hq'
 | ok fl=>
  cases fl with
  | ret u=>
   obtain⟨v,H',I3,rv,ev,q3⟩:=I2.after hq';subst ev;exact⟨rv,⟨V.ref<|s.heap.objs.size+1,H',I3,rfl,q3⟩⟩
  | next=>exact False.elim hq'
  | brk=>exact False.elim hq'
  | cont=>exact False.elim hq'
theorem dR8 {σ:St}{H:Hp}{Q:VK}(M:Mk X.K C f)(F:rW X.prog X.w X.K X.mg X.base CX k f fd ps sp)(hr:gS (k+1) X.A)(hg:Gl X x)(hm:X.mg x=some (.ref C))(hb:Binds X.K fd ps [])(hx:rL CX X E pins σ)
  (ha:PA X (e::es) t) (I:Inv X pins σ H s) (h:cP6 C sp [] E t σ H Q) (hdb:(x==("__debug__":Str))=false) (he:starEach (e::es) X.env=(false,eval e X.env)::starEach es X.env) (hpl:(backTo pos<|starEach es X.env).any (·.1)=false) :
  wpAny (model X.prog X.w) X.A (eval (.Call (.Name x p) (e::es) [] pos) X.env) (EP X pins σ Q) X.xe s:=by
 refine nM (nE I hg hm ?_ hdb)
 refine zR (h₀:=X.base) I.ok.mod.kin M.kp (thn (ha pos pins s σ H _ I h) λus s1 ⟨vs,H1,I1,r,q⟩=>⟨I1.kIn,?_⟩) he hpl
 exact d02 M F hr hb hx I1 r λx dx a b c=>by have:=q x dx a b c;rw[jA]at this;exact this
end
end L2
namespace M
section
variable {X:Cx}{e:Expr}{es:List Expr}{pos:Pos}{te:UE}{K:PySem.W.Frag}{A:AS}{H:Hp}
def a97 (f:Str)(t:UE):UE:=λρ Q=>t ρ λb ρ1=>match b.d with
 | .obj _ ks l=>(match(ks.zip l).lookup f with
  | some d=>Q (.pu d) ρ1
  | none=>False)
 | _=>False
theorem bS.field {f:Str}{d:D}: ∀{ks:List Str} {l:List D} {vs:List V},bS K A H l vs->(ks.zip l).lookup f=some d-> ∃v,(ks.zip vs).lookup f=some v/\Rep K A H d v/\f∈ks
 | [],_,_,_,h=>by simp at h
 | _::_,[],_,_,h=>by simp at h
 | q::ks,a::l,vs,r,h=>by
  obtain⟨v,vr,rfl,r1,r2⟩:=r.uncons;rw[aO0,dA]at h;rw[aO0,dA];cases c:f==q with
  | true=>
   rw[c]at h;cases h;exact⟨v,rfl,r1,by rw[fO.mp c];simp⟩
  | false=>
   rw[c]at h;obtain⟨w,h1,h2,h3⟩:=bS.field r2 h;exact⟨w,h1,h2,eM _ h3⟩
theorem sA {f:Str}(he:PU X e te)(hb:↥(attributeBase e f X.env (eval e X.env)=eval e X.env)):PU X (.Attribute e f pos) (a97 f te):=
 iT (pe_fld he hb) λσ H Q ⟨C,ρ,Q0,I,h,k⟩=>⟨C,ρ,_,I,h,λb ρ1 v H1 q fz s r=>by
  have rr:=r.rep λa z=>I.avF fz z
  cases ed:b.d with
  | obj C' ks l=>
   rw[ed]at rr q;dsimp only at q;cases el:(ks.zip l).lookup f with
   | none=>rw[el]at q;exact q.elim
   | some d=>
    rw[el]at q;simp only[Rep]at rr;obtain⟨a,dx,vs,rfl,n,c,hl,rl,ok⟩:=rr;obtain⟨w,h1,h2,h3⟩:=rl.field el;exact⟨a,C',dx,ks.zip vs,w,rfl,c,ok.1,ok.2 f h3,h1,k _ ρ1 w H1 q fz s h2⟩
  | _=>rw[ed]at q;exact q.elim⟩
abbrev ΦM:=List D->(List D->Prop)->XP->Prop
noncomputable def spI (K:PySem.W.Frag)(mg:Str->Option Value)(C:Addr)(ks:List Str)(φ:ΦM):Sp:=λvs H Q E=> ∃(x dx:Addr) (vs':List V) (A:AS) (ds:List D) (Q0:List D->Prop) (Ex:XP),vs=V.ref x::vs'/\H x=some (.ins C dx [])/\H dx=some (.own x)/\ ¬A x/\ ¬A dx/\(∀a,A a->H a≠none)/\bS K (λb=>A b\/b=x) H ds vs'/\φ ds Q0 Ex/\
 (∀l ws H',Q0 l->(∀b o,b≠x->H b=some o->H' b=some o)->H' x=some (.ins C dx<|ks.zip ws)->ks.length=ws.length->bS K (λb=>A b\/b=x) H' l ws->Q .non H')/\
 ∀n Cl es o H',Ex n es->mg n=some (.ref Cl)->(∀b o,b≠x->H b=some o->H' b=some o)->XR K A H' n es o->E (.ref Cl) o H'
structure MkX (P:Program)(w:World)(K:PySem.W.Frag)(mg:Str->Option Value)(base:Heap)(x:Str)(k:Nat)(ks:List Str)(φ:ΦM):Prop where
 ex: ∃C f fd ps,Mk K C f/\OkC K C ks/\rW P w K mg base (CXr P w base) k f fd ps (spI K mg C ks φ)/\Binds K fd ps []/\mg x=some (.ref C)
theorem dZ1 {φ:ΦM}{t:UA}{E:XK}{C0:C0}{ρ:Ev}{σ:L2.St}{Q:VK}{Q0:Ev->List D->Prop}{Ex:Ev->XP}(ok:OkC X.K C ks)(I:EOk X.K C0 ρ σ H)(h:t ρ λds ρ1=>φ ds (Q0 ρ1) (Ex ρ1))
  (kq: ∀l ρ1 v H',Q0 ρ1 l->Frz ρ ρ1->iE H H'->Rep X.K (Av C0 ρ1 σ) H' (.obj C ks l) v->Q v H') (kx: ∀n Cl ρ1 es o H',Ex ρ1 n es->X.mg n=some (.ref Cl)->EOk X.K C0 ρ1 σ H'->XR X.K (Av C0 ρ1 σ) H' n es o->E (.ref Cl) o H') :
  cP6 C (spI X.K X.mg C ks φ) [] E (lA X.K t) σ H Q:=by
 refine⟨C0,ρ,_,I,h,λds ρ1 vs H1 q f s r x dx nx nd ne=> ?_⟩
 have I1:=(I.frz f).same s;have hA: ∀a,Av C0 ρ1 σ a->H1 a≠none:=λa z=>I1.avSome z
 have s3:iE H1 (upd (upd H1 dx<|.own x) x<|.ins C dx []):=λb o z=>by
  rw[cL<|dD z nx,cL<|dD z nd];exact z
 have back: ∀H',(∀b o,b≠x->upd (upd H1 dx<|.own x) x (.ins C dx []) b=some o->H' b=some o)->iE H1 H':=λH' z b o q'=>z b o (dD q' nx) (s3 b o q')
 rw[jA];refine⟨x,dx,vs,Av C0 ρ1 σ,ds,Q0 ρ1,Ex ρ1,rfl,iZ,by rw[cL ne];exact iZ,λz=>hA x z nx,λz=>hA dx z nd,λa z q'=> ?_,r.mono<|mK.fresh s3 nx,q,λl ws H' q0 kp hx hl rl=>⟨rfl,?_⟩,λn Cl es o H' ex hm kp xr=> ?_⟩
 .cases e':H1 a with
  | none=>exact hA a z e'
  | some o=>rw[s3 a o e']at q';cases q'
 .refine kq l ρ1 _ H' q0 f (s.trans<|back H' kp) ?_
  simp only[Rep];exact⟨x,dx,ws,rfl,λz=>hA x z nx,hx,hl,rl.mono<|.sub (.refl _) λa z=> .inl z,ok⟩
 .exact kx n Cl ρ1 es o H' ex hm (I1.same<|back H' kp) xr
def dC3 (ks:List Str)(φ:ΦM)(t:UA):UE:=λρ Q=>t ρ λds ρ1=>φ ds (λl=> ∀C,Q (.pu<|.obj C ks l) ρ1) λ_ _=>False
theorem dR9 {φ:ΦM}{t:UA}(F:MkX X.prog X.w X.K X.mg X.base x k ks φ)(hr:gS (k'+1) X.A)(hk:k<=k')(hg:Gl X x)(ha:PUA X (e::es) t)(hdb:⇑((x==("__debug__":Str))=false))
  (he:↥(starEach (e::es) X.env=(false,eval e X.env)::starEach es X.env)) (hpl:↥((backTo pos<|starEach es X.env).any (·.1)=false)):PU X (.Call (.Name x p) (e::es) [] pos) (dC3 ks φ t):=by
 obtain⟨C,f,fd,ps,M,ok,G,b,m⟩:=F.ex;have hp:wL (CXr X.prog X.w X.base) X (λ_ _ _=>False):=by
  rintro pins σ H s e s' I ⟨_,_,_,_,_,_,_,_,_,_,_,_,z⟩;exact z.elim
 refine iT (dN9 M (G.mono hk) hr hg m b .nil hp ha hdb he hpl) λσ H Q ⟨C0,ρ,Q0,I,h,k⟩=> ?_
 exact dZ1 (Q0:=λρ1 l=> ∀C,Q0 (.pu<|.obj C ks l) ρ1) (Ex:=λ_ _ _=>False) ok I h (λl ρ1 v H' q f s r=>k _ ρ1 v H' (q C) f s r) λn Cl ρ1 es o H' z=>z.elim
def dC4 (i:Nat)(ks:List Str)(φ:ΦM)(t:UA)(names:List Str)(th:US):US:=λE ρ=>t ρ λds ρ1=>φ ds (λl=> ∀C,E.nx<|ρ1.set i<|some<|.pu<|.obj C ks l) λn _=>n∈names/\th E ρ1
theorem dS0 {φ:ΦM}{apos rp hpos:Pos}{t:UA}{b0:Stmt}{suite:List Stmt}{th:US}{B:String}(i:Nat)(names:List Str)(FB:ExcBaseFacts B newId initId bmB)(F:MkX X.prog X.w X.K X.mg X.base x k ks φ)(hr:gS (k'+1) X.A)(hk:k<=k')(hstk:X.stack=X.env::X.outer)(hfr:X.env.frame=some X.env.locals)(hex:X.ex=[])(hc:X.calm=true)
  (hg:Gl X x) (ha: ∀xe,PUA (X.wish xe) (e::es) t) (hN:X.N.Nodup) (hi:X.N[i]? =some y) (hy:Loc X.env.scope y) (hsuite: ∀a,pF (X.inX a) (b0::suite) th) (hgr:Gl X r) (hmr:X.mg r=some (.ref R)) (hR:excIn X.K R bmB newId=true) (hu: ∀n∈names,∀C,X.mg n=some (.ref C)->rZ X.K R C bmB newId)
  (hl: ∀pins σ H s,Inv X pins σ H s->i<σ.length) (hdb:⇑((x==("__debug__":Str))=false)) (hd:⇑((r==("__debug__":Str))=false))
  (he:↥(starEach (e::es) X.env=(false,eval e X.env)::starEach es X.env)) (hpl:↥((backTo cpos<|starEach es X.env).any (·.1)=false)) (hs:↥(swapsWith (.Call (.Name x p) (e::es) [] cpos) (some<|.Name y py) apos.line X.env=pure false)) (hf:X.fn y=true\/X.env.scope.names.lookup y=some .local:=by walk_at "z") :
  PUS X (.Try [.Assign [.Name y py] (.Call (.Name x p) (e::es) [] cpos) apos] [.ExceptHandler (some<|.Name r rp) none (b0::suite) hpos] [] [] pos) (dC4 i ks φ t names th):=by
 obtain⟨C,f,fd,ps,M,ok,G,b,m⟩:=F.ex;intro pins s σ H D J q;refine ps_try (R:=R) (tb:=λE=>dM9 (cP6 C (spI X.K X.mg C ks φ) [] E<|lA X.K t) (aS6 i)) (th:=lS X.K th) FB hstk hfr hex hc (λxe E pins s σ H D I pa h=> ?_) hsuite hgr hmr hR hd pins s σ H D J ?_
 .refine pY (aO3 (thn (dR8 (X:=X.wish xe) M (G.mono hk) hr hg m b pa (ha xe) I h hdb he hpl) λv s1 ⟨y',H1,I1,r1,q1⟩=> ?_) hs)
  exact yC (X:=X.wish xe) I1 hN hi hy r1 (λs2 I2=>kC ⟨_,H1,I2,q1⟩) hf
 .obtain⟨C0,ρ,D0,I,h,k⟩:=q;refine⟨λcls _ H'=> ∃n Cl ρ1,cls=Value.ref Cl/\X.mg n=some (.ref Cl)/\n∈names/\th D0 ρ1/\EOk X.K C0 ρ1 σ H',?_,?_⟩
  .exact dZ1 (Q0:=λρ1 l=> ∀C,D0.nx<|ρ1.set i<|some<|.pu<|.obj C ks l) (Ex:=λρ1 n _=>n∈names/\th D0 ρ1) ok I h
    (λl ρ1 v H' q f s1 r=>k.nx _ _ _ (q C) ((I.frz f).store s1 (show qJ X.K (Av C0 ρ1 σ) H H' (.pu<|.obj C ks l) v from r)<|hl pins σ H s J)) λn Cl ρ1 es o H' z hm' I' _=>⟨n,Cl,ρ1,rfl,hm',z.1,z.2,I'⟩
  .rintro Cl o H' ⟨n,Cl',ρ1,e1,hm',hn,ht,I'⟩;cases e1;exact⟨hu n hn Cl hm',C0,ρ1,D0,I',ht,k⟩
end
section
variable {K:PySem.W.Frag}{C:C0}{ρ ρ':Ev}{σ:L2.St}{H H':Hp}
theorem EOk.poke {x:Addr}{o:HO}(I:EOk K C ρ σ H)(ax:C.A0 x)(hx: ∀vs,C.H0 x≠some (.lst vs)):EOk K ⟨λb=>if b=x then some o else C.H0 b,C.A0⟩ ρ σ (upd H x o):=by
 have ne: ∀a,C.H0 a=none->a≠x:=λa z e=>by subst e;exact I.a0 a ax z
 have P:mK (Av C ρ σ) H (Av ⟨λb=>if b=x then some o else C.H0 b,C.A0⟩ ρ σ) (upd H x o):=λb u nb e=>⟨nb,by rw[cL λz=>nb (by subst z;exact .inl ax)];exact e⟩
 refine⟨I.len,?_,?_,I.inj,?_,?_,?_⟩
 .intro i d h;obtain⟨v,h1,h2⟩:=I.pu i d h;exact⟨v,h1,h2.mono P⟩
 .intro i l h;obtain⟨a,vs,h1,h2,h3,h4⟩:=I.ow i l h;have na:=ne a h3;exact⟨a,vs,h1,by rw[cL na];exact h2,by show(if a=x then some o else C.H0 a)=none;rw[a6 na];exact h3,h4.mono P⟩
 .intro i l h;obtain⟨a,vs,h1,h2,h3,h4⟩:=I.bo i l h;have na:a≠x:=λz=>by subst z;exact hx vs h3
  exact⟨a,vs,h1,h2,by show(if a=x then some o else C.H0 a)=_;rw[a6 na];exact h3,h4.mono P⟩
 .intro b u h
  by_cases c:b=x
  .subst c;have h':(if b=b then some o else C.H0 b)=some u:=h;rw[a7 rfl]at h';rw[iZ];exact h'
  .have h':(if b=x then some o else C.H0 b)=some u:=h;rw[a6 c]at h';rw[cL c];exact I.ext b u h'
 .intro a z;show(if a=x then some o else C.H0 a)≠none;split
  .simp
  .exact I.a0 a z
theorem bD0 {x Cl:Addr}{fs:List (Str×V)}{f:Str}{te:UE}{Q0:B->Ev->Prop}{D:aS5}(I:EOk K C ρ σ H)(ax:C.A0 x)(hx:H x=some (.ins Cl dx fs))(h0:ρ[0]? =some (some<|.pu<|.adr x))(cl:Cls K Cl)(na:a83 K Cl f)(hf:fs.length<1000)(h:te ρ Q0)
  (k: ∀b ρ1 w H',Q0 b ρ1->ρ1[0]? =some (some<|.pu<|.adr x)->(∀a o,a≠x->H a=some o->H' a=some o)->H' x=some (.ins Cl dx<|vQ f w fs)->(∃C1:C0,C1.A0=C.A0/\EOk K C1 ρ1 σ H')->Rep K C.A0 H' b.d w->(∀d v,Rep K C.A0 H d v->Rep K C.A0 H' d v)->D.nx σ H') :
  d65 K (a82 0) (lE K te) f D σ H:=by
 refine⟨C,ρ,Q0,I,h,λb ρ1 w H1 q fz s r=> ?_⟩
 have I1:=(I.frz fz).same s;have h1:ρ1[0]? =some (some<|.pu<|.adr x):=by
  rcases fz.2 0 with z| ⟨l,z,_⟩
  .rw[z];exact h0
  .rw[h0]at z;cases z
 obtain⟨v,e1,e2⟩:=I1.pu 0 _ h1;simp only[Rep]at e2;subst e2;have hx1:=s _ _ hx;have nl: ∀vs,C.H0 x≠some (.lst vs):=λvs z=>by
  have:=I.ext x _ z;rw[hx]at this;cases this
 have P:mK C.A0 H1 C.A0 (upd H1 x<|.ins Cl dx<|vQ f w fs):=mK.upd ax;refine⟨.ref x,e1,x,Cl,dx,fs,rfl,hx1,cl,na,hf,k b ρ1 w _ q h1 (λa o ne e=>by rw[cL ne];exact s a o e) iZ ⟨⟨λb=>if b=x then some (.ins Cl dx<|vQ f w fs)else C.H0 b,C.A0⟩,rfl,I1.poke (o:= .ins Cl dx (vQ f w fs)) ax nl⟩ ?_ λd v r'=> ?_⟩
 .exact((r.rep λa z=>I.avF fz z).mono<|.sub (.refl _) λa z=> .inl z).mono P
 .exact(r'.mono<|.same s).mono P
end
section
variable {X:Cx}{E:XK}{st:Stmt}{sts:List Stmt}{t u:USX}{tS:TS}
theorem dS1 (h1:bZ6 X E st t)(h2:PSs X sts tS):PSs X (st::sts) (λD=>lSX X.K X.mg E t {D with nx:=tS D}):=yD h1 h2
theorem b95 (h1:bZ6 X E st t)(h2:PSs X sts (λD=>lSX X.K X.mg E u {D with nx:=tS D})):PSs X (st::sts) (λD=>lSX X.K X.mg E (λEx=>aT (t Ex) (u Ex)) {D with nx:=tS D}):=
 bB5 (yD h1 h2) λD σ H ⟨C,ρ,D0,Ex,I,h,k,kx⟩=>⟨C,ρ,{D0 with nx:=u Ex D0},Ex,I,h,⟨λρ' σ' H' q I'=>⟨C,ρ',D0,Ex,I',q,k,kx⟩,k.rt,k.bk,k.ct⟩,kx⟩
def tS3 (K:PySem.W.Frag)(f1 f2 f3:Str)(t1 t2 t3:UE):TS:=tSeq (d65 K (a82 0) (lE K t1) f1) (tSeq (d65 K (a82 0) (lE K t2) f2)<|d65 K (a82 0) (lE K t3) f3)
end
theorem dC5 {Cl:Addr}{ps:List Str}{φ:ΦM}{f3:Str}{t1 t2 t3:UE}(F:Fun K x qual st f fd)(S:aY N ps (aF st))(ok:OkC K Cl [f1,f2,f3])(n1:f1≠f2)(n2:f1≠f3)(n3:f2≠f3)
  (len: ∀ds Q Ex,φ ds Q Ex->ds.length+1=ps.length) (hN:N≠[]) {t:USX}
  (der: ∀(cdv:Value) (A:Around) (outer:List Env) (s:Shared) (H:Hp) (E:XK),gS k (A.deeper<|envOfC qual (aF st) s.heap.objs.size f cdv)->
   PSs (sY (CXr P w base) P w K mg base N qual (aF st) f cdv A outer s H E) (dY st) (λD=>lSX K mg E t {D with nx:=tS3 K f1 f2 f3 t1 t2 t3 D}))
  (rd: ∀a ds Q Ex,φ ds Q Ex->t Ex {nx:=λρ=>ρ[0]? =some (some<|.pu<|.adr a)/\t1 ρ λb1 ρ1=>t2 ρ1 λb2 ρ2=>t3 ρ2 λb3 _=>Q [b1.d,b2.d,b3.d],rt:=λ_=>False} (init N (.adr a::ds))) :
  rW P w K mg base (CXr P w base) (k+1) f fd ps (spI K mg Cl [f1,f2,f3] φ):=by
 obtain⟨oc,od,kV,doc,pm,an,cdv,ct,osl,rfl,lk,hcd⟩:=F.ex;refine d69 lk hcd S (λvs H Q E h=> ?_) λA outer s H vs Q E hr h=> ?_
 .obtain⟨x,dx,vs',A,ds,Q0,Ex,rfl,_,_,_,_,_,r,h,_⟩:=h;have:=len ds Q0 Ex h;rw[dX,<-r.length];exact this
 .obtain⟨x,dx,vs',A',ds,Q0,Ex,rfl,hx,hdx,nx,nd,hA,r,h,q,qx⟩:=h;have hA2: ∀a,(A' a\/a=x)->H a≠none:=λa z=>by
   rcases z with z|rfl
   .exact hA a z
   .rw[hx];simp
  have r2:bS K (λb=>A' b\/b=x) H (.adr x::ds) (.ref x::vs'):= .cons (by simp only[Rep]) r
  refine⟨_,der cdv A outer s H E hr,⟨H,λb=>A' b\/b=x⟩,init N (.adr x::ds),_,Ex,bY4 hA2 r2,rd x ds Q0 Ex h,⟨λρ σ H' z I=> ?_,λ_ _ _ z=>z.elim,λ_ _ _ z=>z.elim,λ_ _ _ z=>z.elim⟩,λn Cl' es o H' ex hm sm xr=>qx n Cl' es o H' ex hm (λb o _ e=>sm b o e) (xr.mono<|.sub (.refl _) λa z=> .inl z)⟩
  obtain⟨z0,z⟩:=z;have hx':H' x=some (.ins Cl dx []):=I.ext x _ hx;refine bD0 (C:=⟨H,λb=>A' b\/b=x⟩) I (.inr rfl) hx' z0 ok.1 (ok.2 f1 ae) ac z ?_
  rintro b1 ρ1 w1 H1 z1 z0 k1 x1 ⟨C1,a1,I1⟩ r1 m1;refine bD0 (C:=C1) I1 (by rw[a1];exact .inr rfl) x1 z0 ok.1 (ok.2 f2 ae) (show 1<1000 by decide) z1 ?_
  rintro b2 ρ2 w2 H2 z2 z0 k2 x2 ⟨C2,a2,I2⟩ r2 m2;refine bD0 (C:=C2) I2 (by rw[a2,a1];exact .inr rfl) x2 z0 ok.1 (ok.2 f3 ae) (by simp[vQ,n1]) z2 ?_
  rintro b3 ρ3 w3 H3 z3 z0 k3 x3 ⟨C3,a3,I3⟩ r3 m3;rw[a1]at m2 r2;rw[a2,a1]at m3 r3;refine q [b1.d,b2.d,b3.d] [w1,w2,w3] H3 z3 (λb o ne e=>k3 b o ne (k2 b o ne<|k1 b o ne<|I.ext b o e)) ?_ rfl (.cons (m3 _ _<|m2 _ _ r1)<|.cons (m3 _ _ r2)<|.cons r3 .nil)
  rw[x3];simp[vQ,n1,n2,n3]
def bZ8 (s:Stmt):List Stmt:=match s with
 | .ClassDef _ _ _ b _ _ _ _ _ _ _=>b
 | _=>[]
section
variable {P:Program}{w:World}{K:PySem.W.Frag}{mg:Str->Option Value}{base:Heap}
theorem cR1 {an:Option Addr}{osl:Array (Option Value)}{kV doc pm cdv ct:Value}{nm:Str}{x0 x1 x2:Str}{p1 p3 p4 p5 p6 p7 p8:Pos}
  (l:K.lookup fI=some ⟨.type "function",od,.func<|fnOf nm qual (jK st) (dY st) (aF st) .none kV doc pm an cdv ct,osl⟩) (c:codeIn K cdv qual=true) (k:keepIn K (.ref fI)=true)
  (hb:dY st=[.Assign [.Attribute (.Name x0 p1) f1 p2] (.Name x1 p3) p4,.Assign [.Attribute (.Name x0 p5) f2 p6] (.Name x2 p7) p8]) (S:aY [x0,x1,x2] [x0,x1,x2] (aF st))
  (l0:(aF st).names.lookup x0=some .local) (l1:(aF st).names.lookup x1=some .local) (l2:(aF st).names.lookup x2=some .local) (d0:(x0==("__debug__":Str))=false) (d1:(x1==("__debug__":Str))=false) (d2:(x2==("__debug__":Str))=false)
  (bd: ∀(kV doc pm:Value) (an:Option Addr) (cdv ct:Value) (us:List Value),us.length=[x0,x1,x2].length->bindArgs (fnOf nm qual (jK st) (dY st) (aF st) .none kV doc pm an cdv ct) ⟨us,[]⟩=pure ([x0,x1,x2].zip us))
  {cd:ClassData} (hc:PySem.W.clsIn K C=some cd) (hm:uN cd.mro=true) (hd:cd.hasDict=true) (sa:PySem.W.findIn K (.ref C) "__setattr__"=some (some<|.builtin "object.__setattr__")) (n1:PySem.W.findIn K (.ref C) f1=some none) (n2:PySem.W.findIn K (.ref C) f2=some none) :
  c82 K C fI (fnOf nm qual (jK st) (dY st) (aF st) .none kV doc pm an cdv ct) f1 f2:=
 ⟨⟨_,od,nm,qual,jK st,aF st,kV,doc,pm,an,cdv,ct,osl,x0,x1,x2,p1,p2,p3,p4,p5,p6,p7,p8,by rw[hb],l,rfl,c,S,l0,l1,l2,d0,d1,d2,(aY3 (st:=st) l c k).binds bd⟩,⟨cd,hc,hm,hd⟩,sa,n1,n2⟩
theorem yK {cd:ClassData}(h:excIn K C bmB newId=true\/ ∃fI,a66 K C fI bmB newId=true)(hc:PySem.W.clsIn K C=some cd)(hm:cd.mro.contains (.ref R)=true):rZ K R C bmB newId:=⟨h,cd,hc,hm⟩
theorem Fn.mkA {ps:List Str}(F:Fun K y qual st f fd)(m:mg x=some (.ref f))(b:Binds K fd ps [])(S:aY N ps (aF st))
  (len: ∀ds Q,φ ds Q->ds.length=ps.length) {t:US}
  (der: ∀(cdv:Value) (A:Around) (outer:List Env) (s:Shared) (H:Hp) (E:XK),gS k (A.deeper<|envOfC qual (aF st) s.heap.objs.size f cdv)->pF (sY CX0 P w K mg base N qual (aF st) f cdv A outer s H E).nox (dY st) t)
  (rd: ∀ds Q,φ ds Q->t {nx:=λ_=>Q (.pu .non),rt:=Q} (init N ds)):Fn P w K mg base x ps (k+1) φ:=
 ⟨f,fd,bY5 F S len λcdv A outer s H E hr=>⟨t,der cdv A outer s H E hr,rd⟩,b,F.kp,m⟩
end
end M
end
section
namespace L2
open PySem PySem.Spec PySem.W PySem.Calls PyProof.Rows Builtin Builtin.ObjectAttr Builtin.Getset_descriptor
section
variable {prog:Program}{w:World}{A:Around}{E:Value->Shared->Prop}{s:Shared}{K:Frag}{x D:Addr}{ox:Obj}{a g:Value}{name:Str}
theorem cR2 {M:Model}(hx:h.get? x=some ox)(hc:ox.cls= .ref D):Looks M h (typeOf<|.ref x) (.ref D):=by
 rw[<-hc];exact(Looks.ld hx).andThen .now
theorem dS2 {M:Model}(X:K.In h)(ha:findIn K (.ref D) name=some (some a))(hg:specialIn K a "__get__"=some (some g))(ht:takesIn K a=some true):Looks M h (find (.ref x) (.ref D) name) (.bind g a):=by
 have u3:Looks M h (dataDescriptor? (some a)<|some g) (some (g,a)):=(looks_takesIn X ht).andThen .now;have u2:Looks M h (getOf<|some a) (some g):=looks_specialIn X hg;exact(looks_findIn X ha).andThen (u2.andThen<|u3.andThen<|Looks.tag .now)
theorem dS3 {Q:Option Value->Shared->Prop}(X:K.In s.heap)(hx:s.heap.get? x=some ox)(hc:ox.cls= .ref D)(hg:findIn K (.ref D) "__getattribute__"=some (some<|.builtin "BaseException.__getattribute__"))(hh:findIn K (.ref D) "__getattr__"=some none)(ha:findIn K (.ref D) "__class__"=some (some<|.builtin "object.__class__"))
  (hn:specialIn K (.builtin "object.__class__") "__get__"=some (some<|.builtin "getset_descriptor.__get__")) (ht:takesIn K (.builtin "object.__class__")=some true) (hm:mroIn K D (.type "object")=some true) (hb:mroIn K D (.type "BaseException")=some true) (h:Q (some<|.ref D) {s with toks:=s.toks+1}) :
  wpAny (model prog w) A (getAttr? (.ref x) "__class__") Q E s:=by
 obtain⟨hp,gn,dr,tn,os⟩:=s;have v0:=cR2 (M:=model prog w) hx hc;have v1:=looks_findIn (M:=model prog w) X hg;have v2:=dS2 (M:=model prog w) (x:=x) X ha hn ht;have v3:=looks_findIn (M:=model prog w) X hh;have v4:=looks_mroIn (M:=model prog w) X hm;have v5:=looks_mroIn (M:=model prog w) X hb
 have v6:Looks (model prog w) hp (bindSpecial (.builtin "BaseException.__getattribute__")<|.ref x) (.builtin "BaseException.__getattribute__",[.ref x]):=Looks.of_pure (PySem.F.excAttr_ValueError.ga.bind<|.ref x);unfold getAttr? getAttrBy?;unfold getAttrBy;refine a9 (wpAny_mkText<|a9<|nU<|hX<|a9<|v0.at<|a9<|v1.at ?_);show wpAny _ _ (getAttrByItsOwn _ _ _ _ _ _) _ _ _
 unfold getAttrByItsOwn hookBefore;refine a9 (v3.at<|a9<|nU<|hX ?_);show wpAny _ _ (boundAndCalled _ _ _) _ _ _;unfold boundAndCalled;refine a9 (v6.at ?_);have bk:builtinKind "BaseException.__getattribute__"=some .slot:=af
 have hsp:splitId "BaseException.__getattribute__"=some ("BaseException","__getattribute__"):=af
 have har:=F.args_bexc_ga (.ref x) (.str "__class__" tn);refine nY (aN4 PySem.F.excAttr_ValueError.ga.plain F.entry_bexc_ga ?_);simp only[checkBuiltinCall,bk,hsp];refine a9 ?_;unfold isInstance;have w1:=looks_findIn (M:=model prog w) X ha;have w2:Looks (model prog w) hp (getOf<|some<|.builtin "object.__class__") (some<|.builtin "getset_descriptor.__get__"):=looks_specialIn X hn
 have w3:Looks (model prog w) hp (dataDescriptor? (some<|.builtin "object.__class__")<|some<|.builtin "getset_descriptor.__get__") (some (.builtin "getset_descriptor.__get__",.builtin "object.__class__")):=(looks_takesIn X ht).andThen .now
 repeat (any_goals (first|assumption|with_reducible refine v0.at ?_|with_reducible refine v5.at ?_|with_reducible refine w1.at ?_|with_reducible refine w2.at ?_|with_reducible refine w3.at ?_|wp_step))
 refine aN4 KF.slot_gs.plain KF.entry_gs ?_
 refine KF.slot_gs.check _ _ _ _ _ _ _ _ KF.type_class (KF.args_gs _ _ _) ?_
 unfold Builtin.«getset_descriptor.__get__»; unfold descrGet;rw[dga_obj];refine a9 ?_;refine aK ?_;unfold descrGetter;unfold descrCheckInstance descrNameAndClass;unfold isInstance;simp only[KF.owner_class]
 repeat lk
 refine⟨aO1 _ af,?_⟩
 refine codeAny_builtin KF.entry_class ?_
 unfold Builtin.«object.__class__»; unfold shownTypeOf
 repeat lk
 repeat (first|exact h|wp_step)
structure bZ9 (K:Frag)(C:Addr):Prop where
 ci:(clsIn K C).isSome=true
 ga:findIn K (.ref C) "__getattribute__"=some (some<|.builtin "BaseException.__getattribute__")
 gh:findIn K (.ref C) "__getattr__"=some none
 ha:findIn K (.ref C) "__class__"=some (some<|.builtin "object.__class__")
 hn:specialIn K (.builtin "object.__class__") "__get__"=some (some<|.builtin "getset_descriptor.__get__")
 tk:takesIn K (.builtin "object.__class__")=some true
 hm:mroIn K C (.type "object")=some true
 hb:mroIn K C (.type "BaseException")=some true
theorem c85 (k:bZ9 K C):KitX K (.ref x) (.ref C) (λh=> ∃o,h.get? x=some o/\o.cls= .ref C) where
 ty:=λ_ _ _ ⟨_,h1,h2⟩=>cR2 h1 h2
 it:=λM h X _=>by
  obtain⟨cd,e⟩:=zF.mp k.ci;unfold clsIn at e;split at e
  .rename_i look
   intro A' Q' E' s' keep q;unfold isType loadHead;exact a9 (wpAny_loadPart (keep _ _<|X _ _ look)<|aK q)
  .cases e
 ne:=λh tp dd its n sl X at_=>by
  obtain⟨cd,e⟩:=zF.mp k.ci;rw[Bool.eq_false_iff];intro q;cases (fO.mp q:Value.ref C= .ref tp);unfold clsIn at e;split at e
  .rename_i look
   cases (X _ _ look).symm.trans at_
  .cases e
 ca:=λX ⟨_,h1,h2⟩ q=>dS3 X h1 h2 k.ga k.gh k.ha k.hn k.tk k.hm k.hb q
end
end L2
namespace M
def XD (a:Addr)(oe:Obj)(x:D):Prop:=x= .adr a\/ ∃d ks l,x= .xob a d ks l/\oe.dict=some d/\ ∀c,oe.data≠ .cls c
theorem XD.rep {A:AS}{H:Hp}{x:D}{v:V}(h:XD a oe x)(r:Rep K A H x v):v= .ref a:=by
 rcases h with rfl| ⟨d,ks,l,rfl,_⟩
 .simpa only[Rep]using r
 .simp only[Rep]at r;obtain⟨vs,e,_⟩:=r;exact e
def gIs (x d:D)(b:Bool):List D->(B->Prop)->Prop:=λds Q=>ds=[x,d]/\Q (.pu<|.bl b)
def clsV:D->Option (V×Value)
 | .adr R=>some (.ref R,.ref R)
 | .ty T=>some (.ty T,.type T)
 | _=>none
section
variable {X:Cx}{a C:Addr}{oe:Obj}{e0 d:D}{v:V}{u:Value}{b:Bool}
theorem cu_is (k:bZ9 X.K C)(hp:(a,oe)∈X.pn)(hc:oe.cls= .ref C)(h0:XD a oe e0)(hd:clsV d=some (v,u))(e:kitOne X.K (.ref C) u=some b):sP X (.builtin "isinstance") (gIs e0 d b):=by
 intro A H ds vs Q0 Q hA r ⟨g1,g2⟩ q;subst g1;obtain⟨x,vr,rfl,r1,r2⟩:=r.uncons;obtain⟨y,vr2,rfl,r3,r4⟩:=r2.uncons;cases r4.unnil;have ex:x= .ref a:=h0.rep r1;have ey:y=v/\ ∀z,RelV v z->z=u:=by
  cases d with
  | adr R=>cases hd;exact⟨by simpa only[Rep]using r3,λz h=>h⟩
  | ty T=>cases hd;exact⟨by simpa only[Rep]using r3,λz h=>h⟩
  | _=>cases hd
 obtain⟨rfl,ey⟩:=ey;subst ex;refine⟨λxs H Q=>xs=[.ref a,y]/\Q (.bl b) H,?_,rfl,q _ _ H g2 (.refl _) kP⟩
 rintro pins s σ H' xs us Q' I rv ⟨rfl,hq⟩;obtain⟨w1,w2,rfl,q1,q2⟩:=vals2 rv;obtain rfl:w1=Value.ref a:=q1;obtain rfl:=ey _ q2;have pin:=I.pin (a,oe) (eE.mpr<|.inl hp);exact PySem.W.kia_one (c85 k) I.kIn ⟨_,pin.1,hc⟩ e (λz=>nomatch z) λtk=>⟨.bl b,H',I.tok _,rfl,hq⟩
end
end M
end
section
namespace L2
section
variable {X:Cx}{pins:List (Addr×Obj)}{σ:St}{H:Hp}{s:Shared}
theorem b96 {M:Model}{Q:Unit->Shared->Prop}(I:Inv X pins σ H s)(hN:X.N.Nodup)(hi:X.N[i]? =some y)(hy:X.env.scope.names.lookup y=some .local)
  (h: ∀s',Inv X pins (σ.set i none) H s'->Q () s'):wpAny M A (do bindName X.env y .none;unbindBehindTheSuite X.env y pos) Q E s:=by
 obtain⟨m,hn,hl⟩:=id I.loc;have lt: ∀{b:Addr} {o:Obj},X.s₀.heap.get? b=some o->b≠X.env.locals:=λe=>bF (b9 (aW e) I.ok.above)
 have iσ:i<σ.length:=by rw[I.len];exact(jY.mp hi).1
 refine wpAny_nameGoes_keeps hy hn (by rw[I.ok.kind];rfl) λh' v hn' hs=>h _ ⟨I.ok,I.os,I.bare,⟨λb o e n hb hx=>(hs.2 b<|lt e).trans (I.base.keep b o e n hb hx),λb o e n hb hx=> ?_,I.base.free,λb o e hx=> ?_,I.base.tups,I.base.frzs,I.base.tbls⟩,⟨_,hn',λj z v' e1 e2 e3=> ?_⟩,λz c e=> ?_,I.free,I.freeC,λp hp=> ?_,λb ob e=> ?_,by simpa using I.len⟩
 .obtain⟨sl,e1⟩:=I.base.slot b o e n hb hx;exact⟨sl,(hs.2 b<|lt e).trans e1⟩
 .obtain⟨o',e1⟩:=I.base.there b o e hx;exact⟨o',(hs.2 b<|lt e).trans e1⟩
 .by_cases hj:j=i
  .subst hj;rw[zI iσ]at e2;cases e2
  .rw[pP<|Ne.symm hj]at e2;obtain⟨u',r',q⟩:=hl j z v' e1 e2 e3;refine⟨u',r',?_⟩;rcases q with⟨k,e⟩| ⟨k,c,e,t⟩
   .have ne:z≠y:=λe=>hj (bB0 hN e1<|e▸hi)
    exact .inl ⟨k,by simp[ne,e]⟩
   .exact .inr ⟨k,c,e,t.sameBut hs<|I.cne z c e⟩
 .obtain⟨w',t⟩:=I.cell z c e;exact⟨w',t.sameBut hs<|I.cne z c e⟩
 .obtain⟨e,n,ne,nf,d⟩:=I.pin p hp;exact⟨(hs.2 p.1 ne).trans e,n,ne,nf,d⟩
 .refine(I.hok b ob e).stay (λc w' hc q=>(hs.2 c ?_).trans q) (λ_ q=>q) λ_ _ q=>q
  intro z;subst z;have fr:=I.free;rcases hc with hc|hc
  .subst hc;rw[fr]at e;cases e
  .rw[fr]at hc;cases hc
def a98 (K:PySem.W.Frag)(R C:Addr)(bmB:List Value)(newId:String)(b:Bool):Prop:=(excIn K C bmB newId=true\/ ∃fI,a66 K C fI bmB newId=true)/\ ∃cd,PySem.W.clsIn K C=some cd/\cd.mro.contains (.ref R)=b
theorem dC6 {N:Addr}{nm q:Str}{bs bm:List Value}{hd:Bool}{sn:List Str}{sub:List Value}{ab:Bool}{col:Option Bool}{dd:Option Addr}{k0 k1 k2 k3 k5:Option Value}{cd:ClassData}(X:K.In h)
  (hC:h.get? C=some (excClassObj nm q C N bs bm hd sn sub ab col dd k0 k1 k2 k3 k5 newId)) (hc:PySem.W.clsIn K C=some cd):cd.mro=Value.ref C::bm:=by
 unfold PySem.W.clsIn at hc;split at hc
 .rename_i look
  have same:=X _ _ look;rw[hC]at same;cases hc
  injection same with same
  injection same with _ _ same _
  injection same with same
  rw[<-same]
 .cases hc
theorem underB {b:Bool}(X:K.In h)(u:a98 K R C bmB newId b): ∃(nm q:Str) (N:Addr) (bs bm:List Value) (hd:Bool) (sn:List Str) (sub:List Value) (ab:Bool) (col:Option Bool) (dd:Option Addr) (k0 k1 k2 k3 k5:Option Value),
  h.get? C=some (excClassObj nm q C N bs bm hd sn sub ab col dd k0 k1 k2 k3 k5 newId)/\(Value.ref C::bm).contains (.ref R)=b:=by
 obtain⟨a,cd,hc,hr⟩:=u;rcases a with a| ⟨fI,a⟩
 .obtain⟨bm,⟨⟨nm,qn,N,bs,hdd,sn,sub,ab,col,dd,k0,k1,k2,k3,k5,mN,hC,_⟩,_⟩⟩:=aT8 X a;exact⟨nm,qn,N,bs,bm,hdd,sn,sub,ab,col,dd,k0,k1,k2,k3,k5,hC,by rw[<-dC6 X hC hc];exact hr⟩
 .obtain⟨bm,⟨⟨nm,qn,N,bs,hdd,sn,sub,ab,col,dd,k0,k1,k2,k3,k5,mN,hC,_⟩,_⟩⟩:=aT9 X a;exact⟨nm,qn,N,bs,bm,hdd,sn,sub,ab,col,dd,k0,k1,k2,k3,k5,hC,by rw[<-dC6 X hC hc];exact hr⟩
def XOk (K:PySem.W.Frag)(C:Addr)(bmB:List Value)(newId:String):Prop:=excIn K C bmB newId=true\/ ∃fI,a66 K C fI bmB newId=true
theorem xok_of (X:K.In h)(a:XOk K C bmB newId): ∃(nm q:Str) (N:Addr) (bs bm:List Value) (hd:Bool) (sn:List Str) (sub:List Value) (ab:Bool) (col:Option Bool) (dd:Option Addr) (k0 k1 k2 k3 k5:Option Value),
  h.get? C=some (excClassObj nm q C N bs bm hd sn sub ab col dd k0 k1 k2 k3 k5 newId)/\OwnTail h bmB bm:=by
 rcases a with a| ⟨fI,a⟩
 .obtain⟨bm,⟨⟨nm,qn,N,bs,hdd,sn,sub,ab,col,dd,k0,k1,k2,k3,k5,mN,hC,_⟩,tl⟩⟩:=aT8 X a;exact⟨nm,qn,N,bs,bm,hdd,sn,sub,ab,col,dd,k0,k1,k2,k3,k5,hC,tl⟩
 .obtain⟨bm,⟨⟨nm,qn,N,bs,hdd,sn,sub,ab,col,dd,k0,k1,k2,k3,k5,mN,hC,_⟩,tl⟩⟩:=aT9 X a;exact⟨nm,qn,N,bs,bm,hdd,sn,sub,ab,col,dd,k0,k1,k2,k3,k5,hC,tl⟩
theorem c00 {M:Model}{A:Around}{E:Value->Shared->Prop}{s:Shared}{e C R:Addr}{oe:Obj}{Q:Bool->Shared->Prop}{b:Bool}{K:PySem.W.Frag}{B newId initId:String}{bmB:List Value}(FB:ExcBaseFacts B newId initId bmB)(X:K.In s.heap)(u:a98 K R C bmB newId b)(hR:XOk K R bmB newId)
  (he:s.heap.get? e=some oe) (hcl:oe.cls= .ref C) (hq:Q b s):wpAny M A (excMatches (.ref e)<|.ref R) Q E s:=by
 obtain⟨nm,qn,N,bs,bm,hdd,sn,sub,ab,col,dd,k0,k1,k2,k3,k5,hC,hin⟩:=underB X u;obtain⟨nm',qn',N',bs',bm',hdd',sn',sub',ab',col',dd',k0',k1',k2',k3',k5',hRo,tl'⟩:=xok_of X hR;have hb:=tl'.hasType FB.hasBase;obtain⟨hp,gn,dr,tn,os⟩:=s;have t1:(Value.ref R::bm').contains (.type "BaseException")=true:=by rw[zS,hb,a12]
 have t2:=tc_notTuple;unfold excMatches
 repeat (first
  | (with_reducible refine kA he ?_;rw[hcl])
  | with_reducible refine kA hRo ?_
  | (with_reducible refine pT hRo ?_;rw[t1])
  | (with_reducible refine pT hC ?_;rw[hin])
  | wp_step)
 cases b with
 | true=>repeat (first|exact hq|wp_step)
 | false=>repeat (first|exact hq|wp_step)
end
section
variable {X:Cx}
noncomputable abbrev Cx.asX (X:Cx)(a:Addr)(oe:Obj):Cx:={X.inX a with pn:=(a,oe)::X.pn}
def aG6 (i:Nat)(D:aS5):aS5:={D with nx:=λσ H=>D.nx (σ.set i none) H,bk:=λσ H=>D.bk (σ.set i none) H,ct:=λσ H=>D.ct (σ.set i none) H}
end
section
variable {X:Cx}{CX:CXT}{k:Nat}{f:Addr}{fd:FuncData}{ps:List Str}{sp:Sp}{E:XK}{x:Str}{p pos:Pos}{e:Expr}{es:List Expr}{t:TA}
theorem dS4 {pins:List (Addr×Obj)}{σ:St}{H:Hp}{s:Shared}{Q:VK}(F:rW X.prog X.w X.K X.mg X.base CX k f fd ps sp)(hr:gS k X.A)(hg:Gl X x)(hm:X.mg x=some (.ref f))(hk:keepIn X.K (.ref f)=true)(hb:Binds X.K fd ps [])(hx:rL CX X E pins σ)
  (ha:PA X (e::es) t) (I:Inv X pins σ H s) (h:cP5 sp [] E t σ H Q) (hdb:(x==("__debug__":Str))=false) (he:starEach (e::es) X.env=(false,eval e X.env)::starEach es X.env) (hpl:(backTo pos<|starEach es X.env).any (·.1)=false) :
  wpAny (model X.prog X.w) X.A (eval (.Call (.Name x p) (e::es) [] pos) X.env) (EP X pins σ Q) X.xe s:=by
 refine nM (nE I hg hm ?_ hdb)
 refine zR (h₀:=X.base) I.ok.mod.kin hk (thn (ha pos pins s σ H _ I h) λus s1 ⟨vs,H1,I1,r,q⟩=>⟨I1.kIn,?_⟩) he hpl
 have r2:Vals (vs++[]) (us++[]):=r.append .nil;have hl:(us++[]).length=ps.length:=by rw[<-r2.length];exact F.len _ _ _ _ q
 refine nY (qE (F.run X.A X.stack s1 H1 ⟨us,[]⟩ (us++[]) (vs++[]) Q E hr I1.env0 (hb s1 us I1.kIn hl) r2 q) λr s' hq=> ?_)
 cases r with
 | error e=>exact hx H1 s1 e s' I1 hq
 | ok fl=>
  cases fl with
  | ret u=>exact I1.after hq
  | next=>exact False.elim hq
  | brk=>exact False.elim hq
  | cont=>exact False.elim hq
end
end L2
namespace M
abbrev USY:=(Str->List D->Ev->Prop)->US
def lSY (K:PySem.W.Frag)(mg:Str->Option Value)(E:XK)(t:USY):TS:=λD σ H=> ∃C ρ D0 Ex,EOk K C ρ σ H/\t Ex D0 ρ/\DOk K C D0 D/\ ∀n Cl es o ρ1 H',Ex n es ρ1->mg n=some (.ref Cl)->EOk K C ρ1 σ H'->XR K (Av C ρ1 σ) H' n es o->E (.ref Cl) o H'
def PUY (X:Cx)(body:List Stmt)(t:USY):Prop:= ∀(xe:Value->Shared->Prop) (E:XK) (pins:List (Addr×Obj)) (s:Shared) (σ:L2.St) (H:Hp) (D:aS5),Inv (X.wish xe) pins σ H s->rL (CXr X.prog X.w X.base) (X.wish xe) E pins σ->lSY X.K X.mg E t D σ H->wpAny (model X.prog X.w) X.A (execs body X.env) (SP (X.wish xe) pins D) xe s
def cK4 (φ:ΦX)(t:UA)(Ex:Str->List D->Ev->Prop):UE:=λρ Q=>t ρ λds ρ1=>φ ds (λb=>Q b ρ1) λn es=>Ex n es ρ1
section
variable {X:Cx}{e c:Expr}{es:List Expr}{a b:List Stmt}{pos:Pos}{t u:USY}{tc:UT}{K:PySem.W.Frag}{C:C0}{ρ:Ev}{σ:L2.St}{H:Hp}
theorem EOk.gone (I:EOk K C ρ σ H)(i:Nat):EOk K C (ρ.set i none) (σ.set i none) H:=by
 have at_: ∀{j:Nat} {b:B},(ρ.set i none)[j]? =some (some b)->j≠i/\ρ[j]? =some (some b):=λ{j b} e=>by
  by_cases c:j=i
  .subst c
   by_cases l:j<ρ.length
   .rw[zI l]at e;cases e
   .rw[iJ (by rw[fB];omega)]at e;cases e
  .rw[pP<|Ne.symm c]at e;exact⟨c,e⟩
 have own: ∀a,Av C (ρ.set i none) (σ.set i none) a->Av C ρ σ a:=λa z=>by
  rcases z with z| ⟨j,l,e1,e2⟩
  .exact .inl z
  .obtain⟨n,e1⟩:=at_ e1;rw[pP<|Ne.symm n]at e2;exact .inr ⟨j,l,e1,e2⟩
 have pr:mK (Av C ρ σ) H (Av C (ρ.set i none)<|σ.set i none) H:=λb o n q=>⟨λz=>n (own b z),q⟩
 have sg: ∀{j:Nat},j≠i->(σ.set i none)[j]? =σ[j]? :=λn=>pP (Ne.symm n)
 refine⟨by simpa using I.len,λj d e=> ?_,λj l e=> ?_,λj j' l l' a e1 e2 e3 e4=> ?_,λj l e=> ?_,I.ext,I.a0⟩
 .obtain⟨n,e⟩:=at_ e;obtain⟨v,e1,r⟩:=I.pu j d e;exact⟨v,by rw[sg n];exact e1,r.mono pr⟩
 .obtain⟨n,e⟩:=at_ e;obtain⟨a,vs,e1,e2,e3,r⟩:=I.ow j l e;exact⟨a,vs,by rw[sg n];exact e1,e2,e3,r.mono pr⟩
 .obtain⟨n1,e1⟩:=at_ e1;obtain⟨n2,e2⟩:=at_ e2;rw[sg n1]at e3;rw[sg n2]at e4;exact I.inj j j' l l' a e1 e2 e3 e4
 .obtain⟨n,e⟩:=at_ e;obtain⟨a,vs,e1,e2,e3,r⟩:=I.bo j l e;exact⟨a,vs,by rw[sg n];exact e1,e2,e3,r.mono pr⟩
def aU1 (i:Nat)(E:UD):UD:={E with nx:=λρ=>E.nx (ρ.set i none),bk:=λρ=>E.bk (ρ.set i none),ct:=λρ=>E.ct (ρ.set i none)}
def mkX (n:Str)(mk:Addr->Addr->List D->D):Prop:=(a95 n=[]/\mk=λa _ _=> .adr a)\/(a95 n≠[]/\mk=λa d es=> .xob a d (a95 n) es)
theorem aJ3:bootBuiltins "ValueError"=some (.type "ValueError"):=af
def cK5 (x:D)(i:Nat)(b:Bool):UE:=λρ Q=>ρ[i]? =some (some<|.pu x)/\Q (.pu<|.bl b) ρ
theorem aP8 (hg:Gl X r)(hm:X.mg r=some (.ref R))(hd:⇑((r==("__debug__":Str))=false)):PU X (.Name r p) (uC<|.adr R):=b91 (bW3 (v:= .ref R) hg hm rfl hd) λA H=>by simp only[Rep]
theorem dC7 {x:Addr}{e0:D}{C:Addr}{d:D}{v:V}{w:Value}{o:Bool}{pr:Pos}(i:Nat)(k:bZ9 X.K C)(hp:(x,oe)∈X.pn)(hc:oe.cls= .ref C)(h0:XD x oe e0)(hy:PE X (.Name y py) (a82 i))(hr:PU X (.Name r pr) (uC d))(hv:clsV d=some (v,w))(hk:kitOne X.K (.ref C) w=some o)
  (hg:Gl X "isinstance") (hm:X.mg "isinstance"=none) (he:↥(starEach [.Name y py,.Name r pr] X.env=(false,eval (.Name y py) X.env)::starEach [.Name r pr] X.env)) (he2:↥(starEach [.Name r pr] X.env=(false,eval (.Name r pr) X.env)::starEach [] X.env)) (hpl:↥((backTo pos<|starEach [.Name r pr] X.env).any (·.1)=false)) :
  PU X (.Call (.Name "isinstance" p) [.Name y py,.Name r pr] [] pos) (cK5 e0 i o):=
 iT (eJ (cu_is k hp hc h0 hv hk) hg hm boot_isinstance (aB (cJ i hy) (aB hr aA he2) he) ac ac he hpl) λσ H Q ⟨C0,ρ,Q0,I,⟨h1,h2⟩,kk⟩=>⟨C0,ρ,Q0,I,by
  simp only[aR,a8,aC,a85,h1,uC,aM,B.d]
  first|exact⟨rfl,h2⟩|exact⟨trivial,h2⟩,kk⟩
end
end M
end
namespace L2
section
variable {P:Program}{w:World}{K:PySem.W.Frag}{mg:Str->Option Value}{base:Heap}{N:List Str}{qual:Str}{scope:Scope}{f:Addr}{cd:Value}{A:Around}{outer:List Env}{s0:Shared}{H0:Hp}{E:XK}{CX:CXT}
def Holds (X:Cx)(E:XK):Prop:= ∀(pins:List (Addr×Obj)) (σ:St) (H:Hp) (s:Shared) (a C L:Addr) (a0:Value) (o:Option Addr),Inv X pins σ H s->X.env.frame=some L->HeldW X.base X.stack a (.ref C) a0 L s.heap->H a=none->(∀T,Tr s.heap a T->H T=none)->bC4 X.s₀.heap a s.heap->XAt s.heap a o->E (.ref C) o H->X.xe (.ref a) s
end
end L2
namespace M
end M
section
namespace L2
end L2
namespace M
section
variable {X:Cx}{a C:Addr}{oe:Obj}{e0 d:D}{v:V}{u:Value}{b:Bool}{pos:Pos}
theorem c86 {K:PySem.W.Frag}{A:AS}{H:Hp}: ∀{rs:List Addr} {vs:List V},bS K A H (rs.map .adr) vs->vs=rs.map .ref
 | [],vs,r=>r.unnil
 | R::rs,vs,r=>by
  obtain⟨x,vr,rfl,r1,r2⟩:=bS.uncons r;rw[c86 r2];have:x= .ref R:=by simpa only[Rep]using r1
  rw[this];rfl
theorem c87: ∀{rs:List Addr} {us:List Value},Vals (rs.map V.ref) us->us=rs.map .ref
 | [],us,r=>by cases r;rfl
 | R::rs,us,r=>by
  cases r with
  | cons h t=>
   rename_i w ws
   have e:w=Value.ref R:=h;rw[e,c87 t];rfl
theorem cu_isT {rs:List Addr}(k:bZ9 X.K C)(hp:(a,oe)∈X.pn)(hc:oe.cls= .ref C)(h0:XD a oe e0)(e:kitAny X.K (.ref C) (rs.map .ref)=some b):sP X (.builtin "isinstance") (gIs e0 (.tup<|rs.map .adr) b):=by
 intro A H ds vs Q0 Q hA r ⟨g1,g2⟩ q;subst g1;obtain⟨x,vr,rfl,r1,r2⟩:=r.uncons;obtain⟨y,vr2,rfl,r3,r4⟩:=r2.uncons;cases r4.unnil;have ex:x= .ref a:=h0.rep r1;subst ex;simp only[Rep]at r3;obtain⟨tp,ws,rfl,c,rs'⟩:=r3;have ew:=c86 rs';subst ew;have sq:SqT X.K H tp (rs.map V.ref):=c.imp cT id
 refine⟨λxs H Q=> ∃tp,xs=[.ref a,.ref tp]/\SqT X.K H tp (rs.map V.ref)/\Q (.bl b) H,?_,⟨tp,rfl,sq,q _ _ H g2 (.refl _) kP⟩⟩
 rintro pins s σ H' xs us Q' I rv ⟨tp,rfl,sq,hq⟩;obtain⟨w1,w2,rfl,q1,q2⟩:=vals2 rv;obtain rfl:w1=Value.ref a:=q1;obtain rfl:w2=Value.ref tp:=q2;obtain⟨its,hv,it,_⟩:=I.tuple sq;have ei:=c87 hv;subst ei;obtain⟨⟨c,dd,dt,sl⟩,ho,h1,n,h2⟩:=it;cases h1;cases h2;have pin:=I.pin (a,oe) (eE.mpr<|.inl hp)
 exact PySem.W.kia_tup (c85 k) I.kIn ⟨_,pin.1,hc⟩ ho e (λz=>nomatch z) λtk=>⟨.bl b,H',I.tok _,rfl,hq⟩
theorem cR3 {x:Addr}{rs:List Addr}{o:Bool}{eT:Expr}{te:UE}(i:Nat)(k:bZ9 X.K C)(hp:(x,oe)∈X.pn)(hc:oe.cls= .ref C)(h0:XD x oe e0)(hy:PE X (.Name y py) (a82 i))(hr:PU X eT te)(hte: ∀ρ Q,Q (.pu<|.tup<|rs.map .adr) ρ->te ρ Q)(hk:kitAny X.K (.ref C) (rs.map .ref)=some o)
  (hg:Gl X "isinstance") (hm:X.mg "isinstance"=none) (he:↥(starEach [.Name y py,eT] X.env=(false,eval (.Name y py) X.env)::starEach [eT] X.env)) (he2:↥(starEach [eT] X.env=(false,eval eT X.env)::starEach [] X.env)) (hpl:↥((backTo pos<|starEach [eT] X.env).any (·.1)=false)) :
  PU X (.Call (.Name "isinstance" p) [.Name y py,eT] [] pos) (cK5 e0 i o):=
 iT (eJ (cu_isT k hp hc h0 hk) hg hm boot_isinstance (aB (cJ i hy) (aB hr aA he2) he) ac ac he hpl) λσ H Q ⟨C0,ρ,Q0,I,⟨h1,h2⟩,kk⟩=>⟨C0,ρ,Q0,I,by
  simp only[aR,a8,aC,a85,h1,aM,B.d];refine hte _ _ ?_
  first|exact⟨rfl,h2⟩|exact⟨trivial,h2⟩,kk⟩
end
end M
end
section
namespace L2
section
variable {X:Cx}
def tTryM (C1 C2:Addr)(i:Nat)(tb:XK->TS)(th1 th2:Addr->Option Addr->TS):TS:=λD σ H=> ∃E,tb E D σ H/\ ∀C o H',E (.ref C) o H'->
 (C=C1/\ ∀a,th1 a o (aG6 i D) (σ.set i<|some<|.ref a) H')\/(C=C2/\ ∀a,th2 a o (aG6 i D) (σ.set i<|some<|.ref a) H')
theorem dS5 {body:List Stmt}{b0 c0:Stmt}{suite1 suite2:List Stmt}{r1 r2 y:Str}{rp1 rp2 hp1 hp2 pos:Pos}{C1 C2 R1 R2:Addr}{B newId initId:String}{bmB:List Value}{tb:XK->TS}{th1 th2:Addr->Option Addr->TS}{i:Nat}(FB:ExcBaseFacts B newId initId bmB)(hstk:X.stack=X.env::X.outer)(hfr:X.env.frame=some X.env.locals)(hex:X.ex=[])(hc:X.calm=true)
  (hbody: ∀(xe:Value->Shared->Prop) (E:XK) (pins:List (Addr×Obj)) (s:Shared) (σ:St) (H:Hp) (D:aS5),Inv (X.wish xe) pins σ H s->rL (CXr X.prog X.w X.base) (X.wish xe) E pins σ->tb E D σ H->wpAny (model X.prog X.w) X.A (execs body X.env) (SP (X.wish xe) pins D) xe s)
  (hs1: ∀a oe o,oe.cls= .ref C1->(∀d,o=some d->oe.dict=some d)->(∀c,oe.data≠ .cls c)->PSs (X.asX a oe) (b0::suite1) (th1 a o)) (hs2: ∀a oe o,oe.cls= .ref C2->(∀d,o=some d->oe.dict=some d)->(∀c,oe.data≠ .cls c)->PSs (X.asX a oe) (c0::suite2) (th2 a o)) (hg1:Gl X r1) (hm1:X.mg r1=some (.ref R1)) (hR1:XOk X.K R1 bmB newId) (hg2:Gl X r2) (hm2:X.mg r2=some (.ref R2)) (hR2:XOk X.K R2 bmB newId)
  (hu:a98 X.K R1 C1 bmB newId true) (hu2:a98 X.K R2 C2 bmB newId true) (nu:a98 X.K R1 C2 bmB newId false) (hN:X.N.Nodup) (hi:X.N[i]? =some y) (hy:X.env.scope.names.lookup y=some .local) (hd1:⇑((r1==("__debug__":Str))=false)) (hd2:⇑((r2==("__debug__":Str))=false)) :
  PS X (.Try body [.ExceptHandler (some<|.Name r1 rp1) (some y) (b0::suite1) hp1,.ExceptHandler (some<|.Name r2 rp2) (some y) (c0::suite2) hp2] [] [] pos) (tTryM C1 C2 i tb th1 th2):=by
 rintro pins s σ H D I ⟨E,hb,hx⟩;refine wpAny_Try_except ?_
 have goX:rL (CXr X.prog X.w X.base) (X.wish λe s1=>wpAny (model X.prog X.w) X.A (noteFrame e X.env) (λ_ s2=>wpAny (model X.prog X.w) X.A (setFlight e none) (λ_ s3=>wpAny (model X.prog X.w) X.A (handleBy e X.env [.ExceptHandler (some<|.Name r1 rp1) (some y) (b0::suite1) hp1,.ExceptHandler (some<|.Name r2 rp2) (some y) (c0::suite2) hp2]) (SP X pins D) X.xe s3) X.xe s2) X.xe s1) E pins σ:=by
  rintro H1 s1 e s' J ⟨a,C,o',H',rfl,ho,hbr,un,hok,⟨⟨a0,fl⟩,fe,ft⟩,nw,xa,hE⟩;have J0:=J.unwish;have J1:Inv X pins σ H' s':=J0.call' ho un hok hbr (λb z=>absurd z ae)
  have fl':FlyingW X.base X.stack a (.ref C) a0 s'.heap:=fl;have frs':=J1.ok.frames;have g0: ∀b o,s1.heap.get? b=some o-> ∃o',s'.heap.get? b=some o':=λb o q=>un.there b o q ae
  have gs: ∀b o,X.s₀.heap.get? b=some o-> ∃o',s1.heap.get? b=some o':=λb o q=>J0.base.there b o q (by rw[hex];simp)
  have gp: ∀q∈X.pn++pins,∃o',s1.heap.get? q.1=some o':=λq hq=>⟨_,(J0.pin q hq).1⟩
  show wpAny _ _ (noteFrame (.ref a) X.env) _ _ s'
  rw[hstk]at fl' frs';refine c80 frs' hfr fl' λh2 held p2=> ?_
  rw[<-hstk]at p2 held fl';have J2:=J1.past (g:=s1.heap) p2 hstk hfr hex gs gp nw.he nw.ht fe ft;have n2:=nw.past p2 g0 (c84 held.2.2.1);have g2:=a30 nw p2 g0 (c84 fl'.2.2.1);have t2:=aG5 J1.hok p2 J1.stkFree fe ft;refine aT7 held λh3 fl3 p3=> ?_
  have J3:=J2.past (g:=s1.heap) p3 hstk hfr hex gs gp n2.he n2.ht fe t2;have n3:=n2.past p3 g2 (c84 fl3.2.2.1);have g3:=a30 n2 p3 g2 (c84 held.2.2.1);have t3:=aG5 J2.hok p3 J2.stkFree fe t2;obtain⟨oe,he,hcl⟩:=fl3.there
  have fin: ∀{b su hp R} {th:Addr->Option Addr->TS},(∀a oe o,oe.cls= .ref C->(∀d,o=some d->oe.dict=some d)->(∀c,oe.data≠ .cls c)->PSs (X.asX a oe) (b::su) (th a o))->(∀a,th a o' (aG6 i D) (σ.set i<|some<|.ref a) H')->(∀f s,wpAny (model X.prog X.w) X.A (do bindName X.env y .none;unbindBehindTheSuite X.env y hp) (λ_ s=>SP X pins D f s) X.xe s->R (.ok f) s)->codeAny (model X.prog X.w) (X.A.mark<|some<|.ref a) (.handlers (.ref a) [.ExceptHandler none (some y) (b::su) hp] X.env) R {s' with heap:=h3}:=by
   intro b su hp R th hs hth hR;refine codeAny_handlers_suite_as (aT7 fl3 λh4 fl4 p4=> ?_)
   have J4:=J3.past (g:=s1.heap) p4 hstk hfr hex gs gp n3.he n3.ht fe t3;obtain⟨oe4,he4,hcl4⟩:=fl4.there;have xa4: ∀d,o'=some d->oe4.dict=some d:=λd q=>by
    obtain⟨o5,e1,e2⟩:=((xa.dk p2.dk).dk p3.dk).dk p4.dk d q;rw[he4]at e1;cases e1;exact e2
   have nc4: ∀c,oe4.data≠ .cls c:=λc z=>by
    obtain⟨_,_,_,oe5,vs5,_,_,_,he5,_,hd5,_⟩:=fl4;rw[he5]at he4;cases he4;rw[hd5]at z;cases z
   have notF:a ∉ frs X.stack:=λz=>by
    obtain⟨_,o',q',n⟩:=fl4.2.2.1.mem (b:=a) z;obtain⟨_,_,_,oe5,vs5,_,_,_,he5,_,hd5,_⟩:=fl4;rw[he5]at q';cases q';exact n vs5 hd5
   have hin: ∀b,b∈frs X.stack↔b=X.env.locals\/b∈X.fs:=λb=>by
    rw[hstk];unfold Cx.fs frs;rw[gZ,hfr];exact aZ
   have J5:Inv (X.asX a oe4) pins σ H' {s' with heap:=h4}:=by
    have K4:=J4.inX a;refine⟨⟨K4.ok.mod,K4.ok.kind,K4.ok.glob,K4.ok.blt,K4.ok.above,K4.ok.inj,K4.ok.has,K4.ok.cab,K4.ok.hd,K4.ok.frames,K4.ok.stk,K4.ok.exf,K4.ok.bs,K4.ok.bsz,K4.ok.noex,K4.ok.exfs,K4.ok.funs,K4.ok.frf⟩,K4.os,K4.bare,K4.base,K4.loc,K4.cell,K4.free,K4.freeC,λp hp=> ?_,K4.hok,K4.len⟩
    rcases aZ.mp (show p∈(a,oe4)::(X.pn++pins)from hp)with rfl|hp
    .refine⟨he4,fe,λz=>notF ((hin a).mpr<|.inl z),λz=>notF ((hin a).mpr<|.inr z),λv z=> ?_⟩
     obtain⟨_,_,_,oe5,vs5,_,_,_,he5,_,hd5,_⟩:=fl4;rw[he5]at he4;cases he4;rw[hd5]at z;cases z
    .exact K4.pin p hp
   refine yC (X:=X.asX a oe4) J5 hN hi (.inl hy) (show RelV (.ref a) (.ref a)from rfl) (λs6 J6=> ?_) (.inr hy)
   have out: ∀{σ':St} {H2:Hp} {s7:Shared},Inv (X.asX a oe4) pins σ' H2 s7->Inv X pins σ' H2 s7:=λz=>
    Inv.outX (e:=a) ⟨⟨z.ok.mod,z.ok.kind,z.ok.glob,z.ok.blt,z.ok.above,z.ok.inj,z.ok.has,z.ok.cab,z.ok.hd,z.ok.frames,z.ok.stk,z.ok.exf,z.ok.bs,z.ok.bsz,z.ok.noex,z.ok.exfs,z.ok.funs,z.ok.frf⟩,z.os,z.bare,z.base,z.loc,z.cell,z.free,z.freeC,λp hp=>z.pin p (eM _ hp),z.hok,z.len⟩ λ_=>J4.ok.hd hc
   refine bJ (hs a oe4 o' hcl4 xa4 nc4 pins _ _ H' (aG6 i D) J6<|hth a) (λf s7 q=> ?_) λ_ _ z=>z.elim
   refine hR f s7 ?_
   cases f with
   | next=>obtain⟨σ',H2,I7,q⟩:=q;exact b96 (out I7) hN hi hy λs8 I8=>⟨_,H2,I8,q⟩
   | brk=>obtain⟨σ',H2,I7,q⟩:=q;exact b96 (out I7) hN hi hy λs8 I8=>⟨_,H2,I8,q⟩
   | cont=>obtain⟨σ',H2,I7,q⟩:=q;exact b96 (out I7) hN hi hy λs8 I8=>⟨_,H2,I8,q⟩
   | ret u=>obtain⟨v,σ',H2,I7,r,q⟩:=q;exact b96 (out I7) hN hi hy λs8 I8=>⟨v,_,H2,I8,r,q⟩
  rcases hx C o' H' hE with⟨rfl,hth⟩| ⟨rfl,hth⟩
  .refine zQ (zN<|nE (X:=X.inX a) (J3.inX a) hg1 hm1 ?_ hd1) (by intro q;cases q)
   refine c00 FB J3.kIn hu hR1 he hcl ?_
   exact fin hs1 hth λ_ _ z=>z
  .refine zQ (zN<|nE (X:=X.inX a) (J3.inX a) hg1 hm1 ?_ hd1) (by intro q;cases q)
   refine c00 FB J3.kIn nu hR1 he hcl ?_
   refine zQ (zN<|nE (X:=X.inX a) (J3.inX a) hg2 hm2 ?_ hd2) (by intro q;cases q)
   refine c00 FB J3.kIn hu2 hR2 he hcl ?_
   exact fin hs2 hth λ_ _ z=>z
 refine bJ (hbody _ E pins s σ H D (I.wish _) goX hb) (λf s1 q=> ?_) λ_ _ z=>z
 have q':=q.unwish;cases f with
 | next=>exact kC q'
 | ret v=>exact q'
 | brk=>exact q'
 | cont=>exact q'
end
end L2
namespace M
section
variable {X:Cx}{e c:Expr}{es:List Expr}{a b:List Stmt}{pos:Pos}{t u:USY}{tc:UT}{K:PySem.W.Frag}
def cK6 (i:Nat)(n1 n2:Str)(mk1 mk2:Addr->Addr->List D->D)(tb:USY)(th1 th2:D->US):US:=λE ρ=>tb (λn es ρ1=>(n=n1/\ ∀a d,th1 (mk1 a d es) (aU1 i E)<|ρ1.set i<|some<|.pu<|mk1 a d es)\/(n=n2/\ ∀a d,th2 (mk2 a d es) (aU1 i E)<|ρ1.set i<|some<|.pu<|mk2 a d es)) E ρ
theorem dC8 {b0 c0:Stmt}{suite1 suite2:List Stmt}{r1 r2:Str}{rp1 rp2 hp1 hp2:Pos}{R1 R2:Addr}{B:String}{tb:USY}{th1 th2:D->US}{mk1 mk2:Addr->Addr->List D->D}(i:Nat)(hmk1:mkX r1 mk1)(hmk2:mkX r2 mk2)(FB:ExcBaseFacts B newId initId bmB)(hstk:X.stack=X.env::X.outer)(hfr:X.env.frame=some X.env.locals)(hex:X.ex=[])(hc:X.calm=true)
  (hbody:PUY X body tb) (hs1: ∀a oe x,oe.cls= .ref R1->XD a oe x->pF (X.asX a oe) (b0::suite1) (th1 x)) (hs2: ∀a oe x,oe.cls= .ref R2->XD a oe x->pF (X.asX a oe) (c0::suite2) (th2 x)) (hg1:Gl X r1) (hm1:X.mg r1=some (.ref R1)) (hR1:XOk X.K R1 bmB newId) (hg2:Gl X r2) (hm2:X.mg r2=some (.ref R2)) (hR2:XOk X.K R2 bmB newId)
  (hu:rZ X.K R1 R1 bmB newId) (hu2:rZ X.K R2 R2 bmB newId) (nu:a98 X.K R1 R2 bmB newId false) (hN:X.N.Nodup) (hi:X.N[i]? =some y) (hy:X.env.scope.names.lookup y=some .local) (hl: ∀pins σ H s,Inv X pins σ H s->i<σ.length) (hd1:⇑((r1==("__debug__":Str))=false)) (hd2:⇑((r2==("__debug__":Str))=false)) :
  PUS X (.Try body [.ExceptHandler (some<|.Name r1 rp1) (some y) (b0::suite1) hp1,.ExceptHandler (some<|.Name r2 rp2) (some y) (c0::suite2) hp2] [] [] pos) (cK6 i r1 r2 mk1 mk2 tb th1 th2):=by
 intro pins s σ H D J ⟨C0,ρ,D0,I,h,k⟩;have lay: ∀{R:Addr} {b:Stmt} {suite:List Stmt} {th:M.D->US},(∀a oe x,oe.cls= .ref R->XD a oe x->pF (X.asX a oe) (b::suite) (th x))-> ∀(a:Addr) (oe:Obj) (o:Option Addr),oe.cls= .ref R->(∀d,o=some d->oe.dict=some d)->(∀c,oe.data≠ .cls c)->PSs (X.asX a oe) (b::suite) (λD σ H=> ∃x,(x= .adr a\/ ∃d ks l,x= .xob a d ks l/\o=some d)/\lS X.K (th x) D σ H):=by
  intro R b suite th hs a oe o ho hod hnc;rintro pins s σ H D J ⟨x,hx,hl⟩;refine hs a oe x ho ?_ pins s σ H D J hl;rcases hx with rfl| ⟨d,ks,l,rfl,e⟩
  .exact .inl rfl
  .exact .inr ⟨d,ks,l,rfl,hod d e,hnc⟩
 refine dS5 (C1:=R1) (C2:=R2) (R1:=R1) (R2:=R2) (i:=i) (tb:=λE=>lSY X.K X.mg E tb) (th1:=λa o D σ H=> ∃x,(x= .adr a\/ ∃d ks l,x= .xob a d ks l/\o=some d)/\lS X.K (th1 x) D σ H) (th2:=λa o D σ H=> ∃x,(x= .adr a\/ ∃d ks l,x= .xob a d ks l/\o=some d)/\lS X.K (th2 x) D σ H) FB hstk hfr hex hc hbody (lay hs1) (lay hs2) hg1 hm1 hR1 hg2 hm2 hR2 hu hu2 nu hN hi hy hd1 hd2 pins s σ H D J ?_
 have fin:DOk X.K C0 (aU1 i D0) (aG6 i D):=⟨λρ' σ' H2 q I2=>k.nx _ _ _ q (I2.gone i),k.rt,λρ' σ' H2 q I2=>k.bk _ _ _ q (I2.gone i),λρ' σ' H2 q I2=>k.ct _ _ _ q (I2.gone i)⟩
 have land: ∀{r:Str} {mk:Addr->Addr->List M.D->M.D} {th:M.D->US} {es:List M.D} {ρ1:Ev} {o:Option Addr} {H':Hp},mkX r mk->EOk X.K C0 ρ1 σ H'->XR X.K (Av C0 ρ1 σ) H' r es o->(∀a d,th (mk a d es) (aU1 i D0)<|ρ1.set i<|some<|.pu<|mk a d es)-> ∀a,∃x,(x= .adr a\/ ∃d ks l,x= .xob a d ks l/\o=some d)/\lS X.K (th x) (aG6 i D) (σ.set i<|some<|.ref a) H':=by
  intro r mk th es ρ1 o H' hmk I' xr ht a;rcases hmk with⟨hk,rfl⟩| ⟨hk,rfl⟩
  .exact⟨.adr a,.inl rfl,C0,_,aU1 i D0,I'.store (.refl _) (show qJ X.K (Av C0 ρ1 σ) H' H' (.pu<|.adr a) (.ref a)from by simp only[qJ,Rep])<|hl pins σ H s J,ht a a,fin⟩
  .cases o with
   | none=>exact absurd xr hk
   | some d=>
    refine⟨.xob a d (a95 r) es,.inr ⟨d,_,_,rfl,rfl⟩,C0,_,aU1 i D0,I'.store (.refl _) (show qJ X.K (Av C0 ρ1 σ) H' H' (.pu<|.xob a d (a95 r) es) (.ref a)from ?_)<|hl pins σ H s J,ht a d,fin⟩
    obtain⟨vs,x1,x2,x3,x4⟩:=xr;simp only[qJ,Rep];exact⟨vs,trivial,x1,x2,x3,x4⟩
 refine⟨λcls o H'=> ∃n Cl es ρ1,cls=Value.ref Cl/\X.mg n=some (.ref Cl)/\((n=r1/\ ∀a d,th1 (mk1 a d es) (aU1 i D0)<|ρ1.set i<|some<|.pu<|mk1 a d es)\/(n=r2/\ ∀a d,th2 (mk2 a d es) (aU1 i D0)<|ρ1.set i<|some<|.pu<|mk2 a d es))/\EOk X.K C0 ρ1 σ H'/\XR X.K (Av C0 ρ1 σ) H' n es o,?_,?_⟩
 .exact⟨C0,ρ,D0,_,I,h,k,λn Cl es o ρ1 H' ex hm I' xr=>⟨n,Cl,es,ρ1,rfl,hm,ex,I',xr⟩⟩
 .rintro Cl o H' ⟨n,Cl',es,ρ1,e1,hm,ex,I',xr⟩;cases e1;rcases ex with⟨rfl,ht⟩| ⟨rfl,ht⟩
  .rw[hm1]at hm;cases hm;exact .inl ⟨rfl,land hmk1 I' xr ht⟩
  .rw[hm2]at hm;cases hm;exact .inr ⟨rfl,land hmk2 I' xr ht⟩
end
section
variable {X:Cx}{e:Expr}{es:List Expr}{pos:Pos}
theorem uy_set {ps:List Str}{φ:ΦX}{t:UA}(i:Nat)(F:FnX X.prog X.w X.K X.mg X.base x ps k φ)(hr:gS k' X.A)(hk:k<=k')(hg:Gl X x)(ha: ∀xe,PUA (X.wish xe) (e::es) t)(hN:X.N.Nodup)(hi:X.N[i]? =some y)(hy:Loc X.env.scope y)
  (hl: ∀pins σ H s,Inv X pins σ H s->i<σ.length) (hdb:⇑((x==("__debug__":Str))=false))
  (he:↥(starEach (e::es) X.env=(false,eval e X.env)::starEach es X.env)) (hpl:↥((backTo cpos<|starEach es X.env).any (·.1)=false)) (hs:↥(swapsWith (.Call (.Name x p) (e::es) [] cpos) (some<|.Name y pos') pos.line X.env=pure false))
  (hf:X.fn y=true\/X.env.scope.names.lookup y=some .local:=by walk_at "z") :
  PUY X [.Assign [.Name y pos'] (.Call (.Name x p) (e::es) [] cpos) pos] (λEx=>bG i (cK4 φ t Ex)):=by
 rintro xe E pins s σ H D I pa ⟨C,ρ,D0,Ex,I0,h,k,kx⟩;obtain⟨f,fd,G,b,kp,m⟩:=F.ex;refine pY (aO3 (thn (dS4 (X:=X.wish xe) (Q:=λv H1=>D.nx (σ.set i<|some v) H1) G (hr.mono hk) hg m kp b pa (ha xe) I ⟨C,ρ,_,I0,h,λds ρ1 vs H1 q f s r=> ?_⟩ hdb he hpl) λv s1 ⟨y',H1,I1,r1,q1⟩=>yC (X:=X.wish xe) I1 hN hi hy r1 (λs2 I2=>kC ⟨_,H1,I2,q1⟩) hf) hs)
 have I1:=(I0.frz f).same s;show spX X.K X.mg φ (vs++[]) H1 _ E;rw[jA];exact⟨Av C ρ1 σ,ds,_,_,λa z=>I1.avSome z,r,q,λb v H' q' s' r'=>k.nx _ _ _ q' (I1.store s' r'<|hl pins σ H _ I.unwish),λn Cl es o H' ex hm s' xr=>kx n Cl es o ρ1 H' ex hm (I1.same s') xr⟩
end
end M
end
end
open L2
section
open PySem L2 M
local macro_rules| `(tactic| left)=> `(tactic| simp only[uSlT,gSlT,dB0,cQ8,dB1,bM1,D.isN,dB5,cK4,cK6,cK5,aU1,cJ6,aZ2,aU0,bZ7,aT,bG,cV,rJ,fX,dQ,uOp,uC,aC,a85,aX,bQ3,uV,uIx,gIx,lZ,oO,aR,a8,aM,gT,i5,aP4,uJ,pG,fY,M.gSub,fL,aS9,kW,aT0,gI2,wP,iV,isB,B.d,bX5,uOr,aY4,d78,d79,bU,dN,c64,uSl,jI,gU,gSl,cY2,gMax,gMin,bY2,cA,aT2,d87,g1,g2,dP2,bQ5,uIf,cY3,cY4,aT3,d82,sS,fJ,sR,fP,b39,bR5,dA2,cZ4,dA1,fG,dP6,rK,a75,dP7,bind_some,Option.bind_none,map_some,Option.map_none,Option.join,tU,List.getElem?_cons_succ,bA7,bA8,dX,bA9,gC,nS,nT,aO6,aM3,cU,dC,reduceCtorEq])
namespace M
variable {j x b m a c z w s a' b' c':Int}{i k last t0 n e U:Nat}{ui:UI}{g f v u y:Nat->Int}{tb:US}{ρ:Ev}{ws l r p:List Int}{js:List Nat}{cap:List (Option Nat)}{te:UE}{Q:B->Ev->Prop}{t:Nat->Nat->Int}{neg:Bool}{F:Nat×(Nat->Int)}{P:Int->Prop}
def a99:Φ:=λds Q=> ∃c k p:Int,ds=[.int c,.int k,.int p]/\0<=k/\k<4294967296/\0<p/\ ∀r:Int,0<=r->r<p->Q (.pu<|.int r)
def bD1:US:=(aT (bG 3<|uOp kW (uOp fL (uOp fY (uOp fY (uOp fY (aC 0)<|uOp fL (uOp fL (uC<|.int 7)<|aC 1)<|aC 1)<|uOp fL (uC<|.int 13)<|aC 1)<|uC<|.int 5)<|uC<|.int 48271)<|uC<|.int 2147483647)<|aT (bG 3<|uOp kW (uOp fL (aC 3)<|aC 3)<|uC<|.int 2147483629)<|cV<|uOp kW (uOp fL (aC 3)<|uC<|.int 39373)<|aC 2)
theorem d5 (i:Int)(h:0<j):i.fmod j=i%j:=Int.fmod_eq_emod_of_nonneg i (Int.le_of_lt h)
theorem uO (i:Int)(h:0<j):i.fdiv j=i/j:=Int.fdiv_eq_ediv_of_nonneg i (Int.le_of_lt h)
theorem cmR {i:Int}(h1: -18446744073709551616<j)(h2:j<18446744073709551616):cG7 i j\/(Sm i/\Sm j):= .inl (.inr ⟨h1,h2⟩)
theorem cmL {i:Int}(h1: -18446744073709551616<i)(h2:i<18446744073709551616):cG7 i j\/(Sm i/\Sm j):= .inl (.inl ⟨h1,h2⟩)
theorem dC9: ∀ds Q,a99 ds Q->bD1 {nx:=λ_=>Q (.pu .non),rt:=Q} (init ["c","k","p","f"] ds):=by
 rintro ds Q ⟨c,k,p,rfl,h0,h1,hp,h⟩;unfold bD1;show(aT _ _:US) _ [some<|.pu<|.int c,some<|.pu<|.int k,some<|.pu<|.int p,none];left;rw[d5 _ (by decide:(0:Int)<2147483647),d5 _ (by decide:(0:Int)<2147483629),d5 _ hp]
 refine⟨cmL ac ac,cmR aa aa,cmL ac ac,cmR ac ac,ac,cmR aa aa,ac,cmR ac ac,aa,?_⟩
 exact h _ (dL _ aa) (dJ _ hp)
theorem bP {g:UG}{D:UD}(n:Nat)(it:Nat->M.D)(ρ1:Ev)(hui: ∀Q:Nat->(Nat->M.D)->Ev->Prop,Q n it ρ1->ui ρ Q)(Pv:Nat->Ev->Prop)(h0:Pv 0 ρ1)
  (hs: ∀i ρ,i<n->Pv i ρ->g (.pu<|it i) ρ λρ2=>tb {D with nx:=Pv (i+1),ct:=Pv (i+1),bk:=D.nx} ρ2) (hd: ∀ρ,Pv n ρ->D.nx ρ):jJ ui g tb D ρ:=hui _ ⟨Pv,h0,hs,hd⟩
theorem cR4 (h:i<ws.length):atI (ws.map D.int) (0+(i:Int))=some (.int ws[i]):=by
 rw[bQ];exact d4 (by rw[bO,aS h];rfl)
def Below (xs ws:List Int):Prop:=xs.length=ws.length/\ ∀(j:Nat) (x w:Int),xs[j]? =some x->ws[j]? =some w->0<=x/\x<w
theorem cpl {i:Int}(h1:0<=j)(h2:j<=1000000)(h3:i.natAbs<2^64):dN2 i j:=⟨h1,h2,h3⟩
def lF:Φ:=λds Q=> ∃(c:Int) (ws:List Int) (p:Int),ds=[.int c,.lst<|ws.map .int,.int p]/\ws.length<=1000/\0<p/\(∀w∈ws,0<w/\w<18446744073709551616)/\ ∀xs:List Int,Below xs ws->Q (.ow<|xs.map .int)
def bD2:US:=(aT (bG 3<|uC<|.int 0)<|aT (fX (dQ<|uOp (wP λi j=>decide (j<=i)) (aC 0)<|uOp aT0 (uC<|.int 10)<|uC<|.int 18) (bG 3<|uOp M.gSub (aC 0)<|uOp aT0 (uC<|.int 10)<|uC<|.int 18) dN)<|aT (bG 4<|gT aM)<|aT (jJ (fP<|a8 (lZ<|aX 1) aM) (bU 5)<|fX (dQ<|uOp (wP λi j=>decide (j<i)) (aC 3)<|uC<|.int 1) (aT (aP4 4<|uOp kW (aC 3)<|uIx (aX 1)<|aC 5)<|bG 3<|uOp aS9 (aC 3)<|uIx (aX 1)<|aC 5)<|aP4 4<|uOp kW (aR a99<|a8 (aC 0)<|a8 (aC 5)<|a8 (aC 2) aM)<|uIx (aX 1)<|aC 5)<|rJ 4)
theorem aP9 {i:Int}(h1: -18446744073709551616<i)(h2:i<18446744073709551616):Sm i:=by
 unfold Sm;have h3:i.natAbs<18446744073709551616:=aa
 exact b9 h3 af
theorem bD3 {xs:List Int}(h: ∀(j:Nat) (x w:Int),xs[j]? =some x->ws[j]? =some w->0<=x/\x<w)(hl:xs.length<ws.length)(h0:0<=x)(h1:x<ws[xs.length]) :
  ∀(j:Nat) (y w:Int),(xs++[x])[j]? =some y->ws[j]? =some w->0<=y/\y<w:=by
 intro j y w e1 e2
 by_cases hj:j<xs.length
 .rw[zD hj]at e1;exact h j y w e1 e2
 .rw[tP ad]at e1
  by_cases hj':j=xs.length
  .subst hj';simp at e1;subst e1;rw[aS hl]at e2;cases e2;exact⟨h0,h1⟩
  .have:j-xs.length≠0:=ad
   cases e:j-xs.length with
   | zero=>lia
   | succ n=>rw[e]at e1;simp at e1
theorem dD0: ∀ds Q,lF ds Q->bD2 {nx:=λ_=>Q (.pu .non),rt:=Q} (init ["c","w","p","l","f","k"] ds):=by
 rintro ds Q ⟨c,ws,p,rfl,hlen,hp,hw,h⟩;unfold bD2;have tail: ∀left:Int,(aT (bG 4<|gT aM) (aT (jJ (fP<|a8 (lZ<|aX 1) aM) (bU 5)<|fX (dQ<|uOp (wP λi j=>decide (j<i)) (aC 3)<|uC<|.int 1) (aT (aP4 4<|uOp kW (aC 3)<|uIx (aX 1)<|aC 5)<|bG 3<|uOp aS9 (aC 3)<|uIx (aX 1)<|aC 5)<|aP4 4<|uOp kW (aR a99<|a8 (aC 0)<|a8 (aC 5)<|a8 (aC 2) aM)<|uIx (aX 1)<|aC 5)<|rJ 4):US)
   {nx:=λ_=>Q (.pu .non),rt:=Q} [some<|.pu<|.int c,some<|.pu<|.lst<|ws.map .int,some<|.pu<|.int p,some<|.pu<|.int left,none,none]:=by
  intro left;rw[aT];left;refine⟨ac,?_⟩
  refine bP ws.length (λi=> .int (0+i)) _ ?_
   (λi ρ=> ∃(l:Int) (xs:List Int) (kk:Option B),ρ=[some<|.pu<|.int c,some<|.pu<|.lst<|ws.map .int,some<|.pu<|.int p,some<|.pu<|.int l,some<|.ow<|xs.map .int,kk]/\xs.length=i/\ ∀(j:Nat) (x w:Int),xs[j]? =some x->ws[j]? =some w->0<=x/\x<w)
   ⟨left,[],none,rfl,rfl,λj x w e=>by simp at e⟩ ?_ ?_
  .intro Q q;simp only[fP];left;rw[aP];refine⟨⟨ad,ad⟩,?_⟩
   rw[bX];exact q
  .rintro i ρ hi ⟨l,xs,kk,rfl,hl,hb⟩;subst hl;obtain⟨w0,w1⟩:=hw _ (cY hi);left;refine⟨ac,?_⟩
   by_cases hc:1<l
   .rw[a7 hc];simp only[cR4 hi];rw[d5 _ w0,uO _ w0];refine⟨ad,?_,⟨ad,aP9 ad w1⟩,_,xs++[l%ws[xs.length]],_,by rw[cE];rfl,ae,bD3 hb hi (dL _ ad)<|dJ _ w0⟩
    rw[aP];exact b9 hi (aI hlen ac)
   .rw[a6 hc];refine⟨c,(0+(xs.length:Int)),p,rfl,ad,ad,hp,λr r0 r1=> ?_⟩
    simp only[cR4 hi];rw[d5 _ w0];refine⟨ad,?_,l,xs++[r%ws[xs.length]],_,by rw[cE];rfl,ae,bD3 hb hi (dL _ ad)<|dJ _ w0⟩
    rw[aP];exact b9 hi (aI hlen ac)
  .rintro ρ ⟨l,xs,kk,rfl,hl,hb⟩;left;exact h xs ⟨hl,hb⟩
 show(aT _ _:US) _ [some<|.pu<|.int c,some<|.pu<|.lst<|ws.map .int,some<|.pu<|.int p,none,none,none]
 refine(show dN2 10 18/\(if decide ((10:Int)^(18:Int).toNat<=c)=true then _ else _)from⟨cpl ac ac ac,?_⟩)
 split
 .exact⟨cpl ac ac ac,tail _⟩
 .exact tail _
theorem mY {d:D}{l:List D}:atI (d::l) 0=some d:=d4 (j:=0) rfl
theorem c88 (xs:List Int)(lo hi:Option Int): ∃ys:List Int,cutD (xs.map .int) lo hi=ys.map .int:=by
 unfold cutD;refine⟨(xs.drop<|HT.sIx (xs.map D.int).length 0 lo).take<|HT.sIx (xs.map D.int).length (xs.map D.int).length hi-HT.sIx (xs.map D.int).length 0 lo,?_⟩;rw[nV,a09]
theorem dD1 {ys:List Int}(h:i< (ys.map D.int).length): ∃z,(ys.map D.int).getD i .non= .int z:=by
 rw[aP]at h;exact⟨ys[i],by rw[aQ,bO,aS h];rfl⟩
theorem c89 (k:Nat)(z:Int):(replicate k [D.int z]).flatten=(replicate k z).map .int:=by
 induction k with
 | zero=>rfl
 | succ k ih=>rw[k7,nQ,ih,k7];rfl
def rE:Φ:=λds Q=> ∃(ns:List Int) (k:Int),ds=[.rol<|ns.map .int,.int k]/\ns.length<=63/\0<=k/\k<4294967296/\ ∀r:Int,Q (.pu<|.int r)
def c01:US:=(aT (fX (dQ<|uOp (iV false) (lZ<|aX 0)<|uC<|.int 0) (cV<|uOp fL (uC<|.int 7919)<|uOp fY (aC 1)<|uC<|.int 1) dN)<|aT (fX (dQ<|uOp (wP λi j=>decide (i<j)) (aC 1)<|lZ<|aX 0) (cV<|uIx (aX 0)<|aC 1) dN)<|cV<|uOp fY (uIx (aX 0)<|uOp kW (aC 1)<|lZ<|aX 0)<|uOp fL (uC<|.int 104729)<|aC 1)
theorem dD2 {ns:List Int}{k:Int}(h0:0<=k)(h1:k<ns.length): ∃z,atI (ns.map D.int) k=some (.int z):=by
 obtain⟨i,rfl⟩: ∃i:Nat,k=(i:Int):=⟨k.toNat,ad⟩
 have hi:i<ns.length:=ad
 exact⟨ns[i],d4 (by rw[bO,aS hi];rfl)⟩
theorem dS6: ∀ds Q,rE ds Q->c01 {nx:=λ_=>Q (.pu .non),rt:=Q} (init ["s","k"] ds):=by
 rintro ds Q ⟨ns,k,rfl,hl,k0,k1,h⟩;unfold c01;show(aT _ _:US) _ [some<|.pu<|.rol<|ns.map .int,some<|.pu<|.int k];left;rw[aP];split
 .exact⟨cmL ac ac,h _⟩
 .split
  .obtain⟨z,hz⟩:=dD2 (ns:=ns) k0 ad
   rw[hz];exact h z
  .refine⟨ad,?_⟩
   rw[d5 _ ad]
   obtain⟨z,hz⟩:=dD2 (ns:=ns) (k:=k%ns.length) (dL _ ad) (dJ _ ad)
   rw[hz];exact⟨cmL ac ac,h _⟩
def aU2:Φ:=λds Q=> ∃i:Int,ds=[.int i]/\Q (.pu<|.bl true)
def bD4:US:=(cV<|d78 (aR d87<|a8 (aC 0)<|a8 (uC<|.ty "int") aM)<|d79<|aR d87<|a8 (aC 0)<|a8 (uC<|.ty "bool") aM)
theorem dD3: ∀ds Q,aU2 ds Q->bD4 {nx:=λ_=>Q (.pu .non),rt:=Q} (init ["f"] ds):=by
 rintro ds Q ⟨i,rfl,h⟩;unfold bD4;show(cV _:US) _ [some<|.pu<|.int i];left
 simpa using h
theorem c02:bootBuiltins "abs"=some (.builtin "abs"):=af
theorem bt_max:bootBuiltins "max"=some (.builtin "max"):=af
theorem bt_min:bootBuiltins "min"=some (.builtin "min"):=af
theorem wS:bootBuiltins "isinstance"=some (.builtin "isinstance"):=af
theorem dD4:bootBuiltins "int"=some (.type "int"):=af
theorem dS7:bootBuiltins "bool"=some (.type "bool"):=af
theorem d6:bootBuiltins "tuple"=some (.type "tuple"):=af
theorem c03:bootBuiltins "list"=some (.type "list"):=af
theorem dS8: ∀ds Q,bQ7 ds Q->ds.length=1:=by rintro ds Q ⟨i,rfl,_⟩;rfl
theorem gW (t:UE)(D:UD)(ρ:Ev):cV t D ρ=t ρ (λb _=>D.rt b):=rfl
theorem cM (φ:Φ)(t:UA)(ρ:Ev)(Q:B->Ev->Prop):aR φ t ρ Q=t ρ λds ρ1=>φ ds λb=>Q b ρ1:=rfl
theorem bK (t:UE)(u:UA)(ρ:Ev)(Q:List D->Ev->Prop):a8 t u ρ Q=t ρ λx ρ1=>u ρ1 λxs ρ2=>Q (x.d::xs) ρ2:=rfl
theorem aO (t u:US)(D:UD)(ρ:Ev):aT t u D ρ=t {D with nx:=u D} ρ:=rfl
theorem j4 (i:Nat)(t:UE)(D:UD)(ρ:Ev):bG i t D ρ=t ρ λb ρ1=>D.nx (ρ1.set i<|some b):=rfl
theorem dF (n:Nat)(it:Nat->D)(ρ1:Ev)(hui: ∀Q:Nat->(Nat->D)->Ev->Prop,Q n it ρ1->ui ρ Q)(hn:n<=1000000)
  (G:Option B->List D->Ev) (x0:Option B) (h0:rK (a75 ρ1 js) cap last=G x0 []) (h1: ∀x l b,(G x l).set t0 (some b)=G (some b) l) (h1': ∀x l,t0< (G x l).length) (h2: ∀x l (Q:List D->Prop),Q l->uJ (G x l) last Q) (h3: ∀x l l',(G x l).set last (some<|.ow l')=G x l')
  (f:Nat->D) (hte: ∀i l (Q':B->Ev->Prop),i<n->Q' (.pu<|f i) (G (some<|.pu<|it i) l)->te (G (some<|.pu<|it i) l) Q') (hq:Q (.ow<|(List.range n).map f) (a75 ρ1 js)) :
  dO js cap last ui (bU t0) (λρ Q=>Q true ρ) te ρ Q:=by
 refine hui _ ⟨λi ρ'=> ∃x,ρ'=G x ((List.range i).map f),⟨x0,h0⟩,?_,?_⟩
 .rintro i ρ' hi ⟨x,rfl⟩;refine⟨h1' _ _,?_⟩;rw[h1];dsimp only;rw[a7 rfl];refine hte i _ _ hi (h2 _ _ _ ⟨?_,some<|.pu<|it i,?_⟩)
  .rw[aP,tY];exact b9 hi (aI hn ac)
  .rw[h3,bB,cE];rfl
 .rintro ρ' ⟨x,rfl⟩;exact h2 _ _ _ hq
noncomputable def aJ (r:List Int):D:= .tup (r.map .int)
noncomputable def c90 (t:List (List Int)):D:= .tup (t.map aJ)
theorem cK7 (l:List D)(i:Nat)(h:i<=l.length):cutD l none (some (i:Int))=l.take i:=by
 unfold cutD;rw[HT.sIx_none,HT.sIx_nat,u6 h];simp
theorem aA0 (l:List D)(i:Nat)(h:i<=l.length):cutD l (some (i:Int)) none=l.drop i:=by
 unfold cutD;rw[HT.sIx_none,HT.sIx_nat,u6 h];rw[List.take_of_length_le (by rw[tZ];exact aG _)]
def a31:Φ:=λds Q=> ∃(t:List (List Int)) (i:Nat),ds=[c90 t,.int (i:Int)]/\i<t.length/\2<=t.length/\t.length<=1000/\(∀r∈t,1<=r.length)/\Q (.pu<|c90<|(t.eraseIdx i).map List.tail)
def a32:US:=(cV<|aR cA<|a8 (dO [] [none,none] 1 (fG<|uOp fY (uSl (aX 0) gU<|jI<|aC 1)<|uSl (aX 0) (jI<|uOp fY (aC 1)<|uC<|.int 1) gU) (bU 0) (λρ Q=>Q true ρ)<|uSl (aX 0) (jI<|uC<|.int 1) gU) aM)
theorem bD5 {t:List (List Int)}(hi:i<t.length):cutD (t.map aJ) none (some (i:Int))++cutD (t.map aJ) (some<|(i:Int)+1) none=(t.eraseIdx i).map aJ:=by
 have hl:(t.map aJ).length=t.length:=aP _;have e1:cutD (t.map aJ) none (some (i:Int))=(t.take i).map aJ:=by rw[cK7 _ _ ad,nV]
 have e2:cutD (t.map aJ) (some<|(i:Int)+1) none=(t.drop<|i+1).map aJ:=by
  have:=aA0 (t.map aJ) (i+1) ad
  rw[a09]
  exact_mod_cast this
 rw[e1,e2,<-cE,<-List.eraseIdx_eq_take_drop_succ]
theorem aQ0 {t:List (List Int)}(hi:i<t.length)(h1000:t.length<=1000)(hr: ∀r∈t,1<=r.length)(hui: ∀Q':Nat->(Nat->D)->Ev->Prop,Q' ((t.eraseIdx i).map aJ).length (λk=>((t.eraseIdx i).map aJ).getD k .non) ρ->ui ρ Q')(h:Q (.ow<|((t.eraseIdx i).map List.tail).map aJ) ρ) :
  dO [] [none,none] 1 ui (bU 0) (λρ Q=>Q true ρ) (uSl (aX 0) (jI<|uC<|.int 1) gU) ρ Q:=by
 have le:(t.eraseIdx i).length=t.length-1:=tQ hi;refine dF (t0:=0) ((t.eraseIdx i).map aJ).length (λk=>((t.eraseIdx i).map aJ).getD k .non) ρ hui (by rw[aP];lia)
  (λx l=>[x,some<|.ow l]) none rfl (λ_ _ _=>rfl) (λ_ _=>cB _) (λ_ _ _ q=>q) (λ_ _ _=>rfl) (λk=>aJ (((t.eraseIdx i).getD k []).tail)) ?_ ?_
 .intro k l Q' hk q;rw[aP]at hk;have ek:((t.eraseIdx i).map aJ).getD k .non=aJ ((t.eraseIdx i).getD k []):=by
   rw[aQ,aQ,bO,aS hk];rfl
  have hm:1<=((t.eraseIdx i).getD k []).length:=by
   rw[aQ,aS hk];exact hr _ (aM0<|cY hk)
  rw[ek]at q⊢;generalize (t.eraseIdx i).getD k []=r at hm q;simp only[aJ]at q⊢;left;have lr:(r.map D.int).length=r.length:=aP _;have ec:cutD (r.map D.int) (some 1) none=r.tail.map D.int:=by
   have:=aA0 (r.map D.int) 1 ad
   rw[show((1:Nat):Int)=1 from rfl]at this
   rw[this,<-a09,List.drop_one]
  refine⟨?_,by rw[ec];exact q⟩
  rw[lr];have:HT.sIx r.length 0 (some 1)=min 1 r.length:=HT.sIx_nat r.length 0 1;rw[this];lia
 .have em:(List.range ((t.eraseIdx i).map aJ).length).map (λk=>aJ (((t.eraseIdx i).getD k []).tail))=((t.eraseIdx i).map List.tail).map aJ:=by
   rw[aP];apply gD
   .simp
   .intro k h1 h2;simp at h1;simp[h1,aQ]
  rw[em];exact h
theorem c04: ∀ds Q,a31 ds Q->a32 {nx:=λ_=>Q (.pu .non),rt:=Q} (init ["t","i"] ds):=by
 rintro ds Q ⟨t,i,rfl,hi,h2,h1000,hr,h⟩;unfold a32;show(cV _:US) _ [some<|.pu<|c90 t,some<|.pu<|.int (i:Int)];have hl:(t.map aJ).length=t.length:=aP _;rw[gW,cM,bK];refine aQ0 hi h1000 hr (λQ' q=> ?_) ?_
 .simp only[fG,c90];left;rw[<-cS,bD5 hi];refine⟨?_,?_,aI (show _<=2000 by rw[aP,tQ hi];lia) ac,q⟩
  .rw[hl,HT.sIx_none,HT.sIx_nat];lia
  .rw[hl,HT.sIx_none];have:HT.sIx t.length 0 (some<|(i:Int)+1)=min (i+1) t.length:=by exact_mod_cast HT.sIx_nat t.length 0 (i+1)
   rw[this];lia
 .left
  exact h
noncomputable def i8:Nat->List (List Int)->Int
 | 0,_=>0
 | n+1,t=>if t.length=1 then(t.getD 0 []).getD 0 0 else((List.range t.length).map λi=>(if i%2=0 then 1 else -1)*(t.getD i []).getD 0 0*i8 n ((t.eraseIdx i).map List.tail)).sum
structure Sq (n:Nat)(t:List (List Int)):Prop where
 pos:1<=t.length
 le:t.length<=n
 row: ∀r∈t,r.length=t.length
 small: ∀r∈t,∀x∈r,x.natAbs<2^2000
def fZ (n:Nat):Φ:=λds Q=> ∃t:List (List Int),ds=[c90 t]/\Sq n t/\Q (.pu<|.int<|i8 n t)
def bD6 (fZ:Φ):US:=(aT (fX (dQ<|uOp (iV false) (lZ<|aX 0)<|uC<|.int 1) (cV<|uIx (uV<|uIx (aX 0)<|uC<|.int 0)<|uC<|.int 0) dN)<|aT (bG 1<|uC<|.int 0)<|aT (bG 2<|uC<|.int 1)<|aT (jJ (fP<|a8 (lZ<|aX 0) aM) (bU 3)<|aT (c64 1 (gI2 λi j Q=>Q (.pu<|.int<|i+j))<|uOp fL (uOp fL (aC 2)<|uIx (uV<|uIx (aX 0)<|aC 3)<|uC<|.int 0)<|aR fZ<|a8 (aR a31<|a8 (aC 0)<|a8 (aC 3) aM) aM)<|bG 2<|pG<|aC 2)<|rJ 1)
theorem aG7 (n:Nat): ∀ds Q,fZ n ds Q->ds.length=1:=by rintro ds Q ⟨a,rfl,_⟩;rfl
theorem Sq.less {t:List (List Int)}(h:Sq (n+1) t)(h2:t.length≠1)(hi:i<t.length):Sq n ((t.eraseIdx i).map List.tail):=by
 have le:(t.eraseIdx i).length=t.length-1:=tQ hi;have hp:=h.pos;have hl:=h.le;refine⟨by rw[aP];lia,by rw[aP];lia,λr hr=> ?_,λr hr x hx=> ?_⟩
 .obtain⟨r',hr',rfl⟩:=gE.mp hr;rw[aP,List.length_tail,h.row r'<|aM0 hr',le]
 .obtain⟨r',hr',rfl⟩:=gE.mp hr;exact h.small r' (aM0 hr') x (List.mem_of_mem_tail hx)
theorem qN (f:Nat->Int)(b:Nat): ∀n:Nat,(∀i,i<n->(f i).natAbs<=b)->(((List.range n).map f).sum).natAbs<=n*b
 | 0,_=>ae
 | n+1,h=>by
  rw[bB,cE,a04];have h1:=qN f b n λi hi=>h i (kZ hi)
  have h2:=h n (pZ n);have h3:((List.map f [n]).sum)=f n:=ae
  rw[h3,Nat.succ_mul];omega
theorem tK: ∀(n:Nat) (t:List (List Int)),n<=4->Sq n t->(i8 n t).natAbs<=2^(2010*n)
 | 0,t,_,h=>by have:=h.pos;have:=h.le;lia
 | n+1,t,hn,h=>by
  have entry: ∀i,i<t.length->((t.getD i []).getD 0 0).natAbs<=2^2000:=λi hi=>by
   have eg:t.getD i []=t[i]:=by rw[aQ,aS hi];rfl
   rw[eg];have hr:=h.row _ (cY hi);have hp:=h.pos;have h0:0< (t[i]).length:=ad
   rw[aQ,aS h0];exact nW (h.small _ (cY hi) _<|cY h0)
  unfold i8;split
  .have:=entry 0 (by have:=h.pos;lia)
   exact aI this (cR ac ad)
  .rename_i h1
   refine aI (qN _ (2^2000*2^(2010*n)) _ λi hi=> ?_) ?_
   .rw[cZ,cZ];have e1:(if i%2=0 then(1:Int)else -1).natAbs=1:=by split<;>rfl
    rw[e1,uD];exact iL (entry i hi) (tK n _ ad<|h.less h1 hi)
   .have hl:=h.le;have e:2^(2010*(n+1))=2^10*(2^2000*2^(2010*n)):=by
     rw[<-fN,<-fN];congr 1;lia
    rw[e];exact nJ _ ad
theorem Sm.pow {i:Int}(h:i.natAbs<=2^k)(hk:k<9000):Sm i:=nO h (aN5 ac hk)
theorem b97 {t:List (List Int)}(h:i<t.length):atI (t.map aJ) (0+(i:Int))=some (aJ<|t.getD i []):=by
 rw[bQ];refine d4 ?_;rw[bO,aS h,aQ,aS h];rfl
theorem aA1 (h:0<r.length):atI (r.map D.int) 0=some (.int<|r.getD 0 0):=by
 refine d4 (j:=0) ?_
 rw[bO,aS h,aQ,aS h];rfl
theorem aU3 (n:Nat)(hn:n<4): ∀ds Q,fZ (n+1) ds Q->bD6 (fZ n) {nx:=λ_=>Q (.pu .non),rt:=Q} (init ["t","o","s","i"] ds):=by
 rintro ds Q ⟨t,rfl,sq,h⟩;have hp:=sq.pos;have hle:=sq.le;have lt:(t.map aJ).length=t.length:=aP _;have lrow: ∀i,i<t.length->0< (t.getD i []).length:=λi hi=>by
  rw[aQ,aS hi];have:=sq.row _ (cY hi);show 0< (t[i]).length
  lia
 unfold bD6;show(aT _ _:US) _ [some<|.pu<|.tup<|t.map aJ,none,none,none];left;rw[lt];split
 .rename_i h1
  have h1':t.length=1:=ad
  have:=b97 (t:=t) (i:=0) ad
  rw[show(0:Int)+((0:Nat):Int)=0 from rfl]at this
  rw[this];simp only[aJ];rw[aA1<|lrow 0 ad]
  unfold i8 at h;rw[a7 h1']at h;exact h
 .rename_i h1
  have h1':t.length≠1:=ad
  unfold i8 at h;rw[a6 h1']at h;refine bP t.length (λi=> .int (0+i)) [some<|.pu<|.tup<|t.map aJ,some<|.pu<|.int 0,some<|.pu<|.int 1,none] ?_ (λi ρ=> ∃x,ρ=[some<|.pu<|.tup<|t.map aJ,some<|.pu<|.int ((List.range i).map λi=>(if i%2=0 then 1 else -1)*(t.getD i []).getD 0 0*i8 n ((t.eraseIdx i).map List.tail)).sum,some<|.pu<|.int<|if i%2=0 then 1 else -1,x]) ?_ ?_ ?_
  .intro Q' q;simp only[fP];left;rw[lt];refine⟨⟨ad,ad⟩,?_⟩
   rw[bX];exact q
  .exact⟨none,rfl⟩
  .rintro i ρ hi ⟨x,rfl⟩;left;refine⟨ac,?_⟩
   rw[b97 hi];simp only[aJ];rw[aA1<|lrow i hi];have sg:Sm (if i%2=0 then(1:Int)else -1):=by split<;>exact aP9 ac ac
   have eg:t.getD i []=t[i]:=by rw[aQ,aS hi];rfl
   have en:((t.getD i []).getD 0 0).natAbs<=2^2000:=by
    have h0:=lrow i hi;rw[eg]at h0⊢;rw[aQ,aS h0];exact nW (sq.small _ (cY hi) _<|cY h0)
   have se:Sm ((t.getD i []).getD 0 0):=Sm.pow en ac
   refine⟨.inr ⟨sg,se⟩,t,i,by rw[bQ];rfl,hi,ad,ad,λr hr=>by rw[sq.row r hr];exact hp,?_⟩
   refine⟨_,rfl,sq.less h1' hi,?_⟩
   have sd:Sm (i8 n<|(t.eraseIdx i).map List.tail):=Sm.pow (tK n _ ad<|sq.less h1' hi) ad
   have sp:Sm ((if i%2=0 then(1:Int)else -1)*(t.getD i []).getD 0 0):=by
    refine Sm.pow (k:=2000) ?_ ac
    rw[cZ];have e1:(if i%2=0 then(1:Int)else -1).natAbs=1:=by split<;>rfl
    rw[e1,uD];exact en
   left
   refine⟨.inr ⟨sp,sd⟩,some<|.pu<|.int<|0+(i:Int),?_⟩
   have e2: -(if i%2=0 then(1:Int)else -1)=(if(i+1)%2=0 then 1 else -1):=by
    by_cases q:i%2=0
    .rw[a7 q,a6 ad]
    .rw[a6 q,a7 ad];rfl
   rw[e2,bB,cE,a04];simp
  .rintro ρ ⟨x,rfl⟩;left;exact h
noncomputable def lH (p:List Int)(k:Nat)(sums:List Int):Int:=
 -(((List.range<|min (k-1)<|p.length-1).map λi=>p.getD (p.length-1-(i+1)) 0*sums.getD (k-(i+1)) 0).sum+(if k<=p.length-1 then(k:Int)*p.getD (p.length-1-k) 0 else 0))
noncomputable def eR (p:List Int):Nat->List Int
 | 0=>[((p.length-1:Nat):Int)]
 | k+1=>eR p k++[lH p (k+1)<|eR p k]
theorem uP (p:List Int): ∀k,(eR p k).length=k+1
 | 0=>rfl
 | k+1=>by unfold eR;rw[cS,uP p k];rfl
structure b98 (p:List Int):Prop where
 lo:3<=p.length
 hi:p.length<=5
 small: ∀x∈p,x.natAbs<=499
theorem fS {b:Nat}(h: ∀x∈l,x.natAbs<=b)(i:Nat):(l.getD i 0).natAbs<=b:=by
 rw[aQ];cases e:l[i]? with
 | none=>exact cG _
 | some x=>exact h x (aN0 e)
theorem a33 {p:List Int}(hp:b98 p): ∀k,k<=6-> ∀x∈eR p k,x.natAbs<=2^(15*k+3)
 | 0,_,x,hx=>by
  have:=hp.hi;have e:x=((p.length-1:Nat):Int):=by simpa[eR]using hx
  rw[e,aO2];have:(2:Nat)^(15*0+3)=8:=rfl;omega
 | k+1,hk,x,hx=>by
  have ih:=a33 hp k aa
  have ep:(2:Nat)^(15*(k+1)+3)=32768*2^(15*k+3):=by
   rw[show 15*(k+1)+3=15+(15*k+3)by omega,fN]
  have hb:8<=2^(15*k+3):=by
   rw[fN];have:1<=2^(15*k):=Nat.one_le_two_pow;omega
  unfold eR at hx;rcases eE.mp hx with hx|hx
  .have:=ih x hx;omega
  .have e:x=lH p (k+1) (eR p k):=by simpa using hx
   rw[e];unfold lH;rw[l7];have hl:=hp.hi;have s1:=qN (λi=>p.getD (p.length-1-(i+1)) 0*(eR p k).getD (k+1-(i+1)) 0) (499*2^(15*k+3)) (min (k+1-1)<|p.length-1) λi _=>by
    rw[cZ];exact iL (fS hp.small _) (fS ih _)
   have s2:(if k+1<=p.length-1 then((k+1:Nat):Int)*p.getD (p.length-1-(k+1)) 0 else 0).natAbs<=4*499:=by
    split
    .rw[cZ,aO2];exact iL aa (fS hp.small _)
    .exact cG _
   have s3:min (k+1-1) (p.length-1)*(499*2^(15*k+3))<=4*(499*2^(15*k+3)):=nJ _ aa
   have s4:=pX (((List.range<|min (k+1-1)<|p.length-1).map λi=>p.getD (p.length-1-(i+1)) 0*(eR p k).getD (k+1-(i+1)) 0).sum) (if k+1<=p.length-1 then((k+1:Nat):Int)*p.getD (p.length-1-(k+1)) 0 else 0)
   omega
def uQ:Φ:=λds Q=> ∃(p:List Int) (m:Nat),ds=[aJ p,.int (m:Int)]/\b98 p/\1<=m/\m<=7/\Q (.ow<|(eR p<|m-1).map .int)
def uS:US:=(aT (bG 2<|uOp M.gSub (lZ<|aX 0)<|uC<|.int 1)<|aT (bG 3<|gT<|a8 (aC 2) aM)<|aT (jJ (b39<|a8 (uC<|.int 1)<|a8 (aC 1) aM) (bU 4)<|aT (bG 5<|aR cY4<|a8 (dO [2,4] [none,some 0,some 2,some 3,some 4,none] 5 (b39<|a8 (uC<|.int 1)<|a8 (uOp fY (aR gMin<|a8 (uOp M.gSub (aC 4)<|uC<|.int 1)<|a8 (aC 2) aM)<|uC<|.int 1) aM) (bU 0) (λρ Q=>Q true ρ)<|uOp fL (uIx (aX 1)<|uOp M.gSub (aC 2)<|aC 0)<|uIx (aX 3)<|uOp M.gSub (aC 4)<|aC 0) aM)<|aT (fX (dQ<|uOp (wP λi j=>decide (i<=j)) (aC 4)<|aC 2) (c64 5 (gI2 λi j Q=>Q (.pu<|.int<|i+j))<|uOp fL (aC 4)<|uIx (aX 0)<|uOp M.gSub (aC 2)<|aC 4) dN)<|aP4 3<|pG<|aC 5)<|rJ 3)
theorem aA2 {ns:List Int}(h:k<ns.length):atI (ns.map D.int) (k:Int)=some (.int<|ns.getD k 0):=by
 refine d4 ?_
 rw[bO,aS h,aQ,aS h];rfl
theorem bD7: ∀ds Q,uQ ds Q->uS {nx:=λ_=>Q (.pu .non),rt:=Q} (init ["p","m","n","s","k","t"] ds):=by
 rintro ds Q ⟨p,m,rfl,hp,m1,m7,h⟩;have hlo:=hp.lo;have hhi:=hp.hi;have lp:(p.map D.int).length=p.length:=aP _;unfold uS;show(aT _ _:US) _ [some<|.pu<|.tup<|p.map .int,some<|.pu<|.int (m:Int),none,none,none,none];rw[aO,j4];left;rw[lp];refine⟨ac,?_⟩
 have en:(p.length:Int)-1=((p.length-1:Nat):Int):=ad
 rw[en];refine bP (m-1) (λi=> .int (1+i)) _ ?_
  (λi ρ=> ∃x4 x5,ρ=[some<|.pu<|.tup<|p.map .int,some<|.pu<|.int (m:Int),some<|.pu<|.int ((p.length-1:Nat):Int),some<|.ow<|(eR p i).map .int,x4,x5]) ⟨none,none,rfl⟩ ?_ ?_
 .intro Q' q;simp only[b39];left;refine⟨ad,?_⟩
  rw[show((m:Int)-1).toNat=m-1 by lia]
  exact q
 .rintro i ρ hi ⟨x4,x5,rfl⟩;have bn:=a33 hp i ad
  refine⟨by show 4<6;decide,?_⟩
  dsimp only[set_cons_succ,set_cons_zero];rw[aO,j4,cM,bK];refine dF (t0:=0) (min i<|p.length-1) (λj=> .int (1+j)) [some<|.pu<|.tup<|p.map .int,some<|.pu<|.int (m:Int),some<|.pu<|.int ((p.length-1:Nat):Int),some<|.ow<|(eR p i).map .int,some<|.pu<|.int<|1+(i:Int),x5] ?_ ad
   (λx l=>[x,some<|.pu<|.tup<|p.map .int,some<|.pu<|.int ((p.length-1:Nat):Int),some<|.bo<|(eR p i).map .int,some<|.pu<|.int<|1+(i:Int),some<|.ow l]) none rfl (λ_ _ _=>rfl) (λ_ _=>cB _) (λ_ _ _ q=>q) (λ_ _ _=>rfl)
   (λj=> .int (p.getD (p.length-1-(j+1)) 0*(eR p i).getD (i+1-(j+1)) 0)) ?_ ?_
  .intro Q' q;simp only[b39];left;have e:(if((p.length-1:Nat):Int)<1+(i:Int)-1 then((p.length-1:Nat):Int)else 1+(i:Int)-1)=((min i (p.length-1):Nat):Int):=by split<;>lia
   rw[e];refine⟨ad,?_⟩
   rw[show(((min i (p.length-1):Nat):Int)+1-1).toNat=min i (p.length-1)by lia]
   exact q
  .intro j l Q' hj q;have hj1:j<i:=ad
   have hj2:j<p.length-1:=ad
   left
   rw[show((p.length-1:Nat):Int)-(1+(j:Int))=((p.length-1-(j+1):Nat):Int)by lia,show 1+(i:Int)-(1+(j:Int))=((i+1-(j+1):Nat):Int)by lia]
   rw[aA2 ad,aA2 (by rw[uP];lia)]
   exact⟨.inr ⟨Sm.pow (k:=9) (aI (fS hp.small _) ac) ac,Sm.pow (fS bn _) ad⟩,q⟩
  .have es:((List.range<|min i<|p.length-1).map λj=>D.int (p.getD (p.length-1-(j+1)) 0*(eR p i).getD (i+1-(j+1)) 0))=((List.range<|min i<|p.length-1).map λj=>p.getD (p.length-1-(j+1)) 0*(eR p i).getD (i+1-(j+1)) 0).map D.int:=by
    rw[i4];rfl
   rw[es];generalize hT:((List.range<|min i<|p.length-1).map λj=>p.getD (p.length-1-(j+1)) 0*(eR p i).getD (i+1-(j+1)) 0)=T
   left
   rw[aG2];dsimp only;have last: ∀z:Int,z= -(lH p (i+1)<|eR p i)->(eR p i).map D.int++[D.int<|-z]=(eR p<|i+1).map D.int:=λz hz=>by
    rw[hz]
    conv=>rhs;unfold eR
    rw[cE];simp
   have lz:((eR p i).map D.int).length<sizeLine:=by
    rw[aP,uP];exact b9 (show _<100 by lia) ac
   by_cases hk:i+1<=p.length-1
   .rw[a7 ad]
    rw[show((p.length-1:Nat):Int)-(1+(i:Int))=((p.length-1-(i+1):Nat):Int)by lia,aA2 ad]
    have hz1:T.sum+(1+(i:Int))*p.getD (p.length-1-(i+1)) 0= -(lH p (i+1)<|eR p i):=by
     unfold lH;rw[Int.neg_neg,a7 hk,<-hT];rw[show i+1-1=i from rfl,show((i+1:Nat):Int)=1+(i:Int)by lia]
    dsimp only;rw[last _ hz1];exact⟨.inr ⟨aP9 ad ad,Sm.pow (k:=9) (aI (fS hp.small _) ac) ac⟩,lz,_,_,rfl⟩
   .rw[a6 ad]
    have hz1:T.sum= -(lH p (i+1)<|eR p i):=by
     unfold lH;rw[Int.neg_neg,a6 hk,<-hT,eF];rfl
    rw[last _ hz1];exact⟨lz,_,_,rfl⟩
 .rintro ρ ⟨x4,x5,rfl⟩;left;exact h
theorem cK8: ∀ds Q,¬fZ 0 ds Q:=by
 rintro ds Q ⟨t,rfl,sq,_⟩;have:=sq.pos;have:=sq.le;omega
theorem dD5 (t:UE)(D:UD)(ρ:Ev):aT3 t D ρ=t ρ (λ_ ρ1=>D.nx ρ1):=rfl
structure d7 (p:List Int):Prop where
 ok:b98 p
 one: ∃q,p=q++[1]
noncomputable def c91 (c:Int):Bool:=decide ((if c<0 then -c else c)<=499)
noncomputable def dS9 (p:List Int):Bool:=decide (3<=p.length)&&(decide (p.length<=5)&&(decide (p.getD (p.length-1) 0=1)&&p.all c91))
theorem aZ3: ∀(q:List Int) (x:Int),(q++[x]).getD ((q++[x]).length-1) 0=x:=λq x=>by
 rw[cS,aQ,tP ae]
 simp
theorem dD6 (p:List Int):dS9 p=true↔d7 p:=by
 unfold dS9;simp only[dZ,gC,eN];constructor
 .rintro⟨h1,h2,h3,h4⟩;refine⟨⟨h1,h2,λx hx=> ?_⟩,?_⟩
  .have:=zX (h4 x hx);split at this<;>lia
  .rcases List.eq_nil_or_concat p with rfl| ⟨q,x,rfl⟩
   .simp at h1
   .rw[List.concat_eq_append]at h3⊢;rw[aZ3]at h3;exact⟨q,by rw[h3]⟩
 .intro h;refine⟨h.ok.lo,h.ok.hi,?_,λx hx=>hV ?_⟩
  .obtain⟨q,rfl⟩:=h.one;exact aZ3 q 1
  .have:=h.ok.small x hx;split<;>lia
theorem d03 (h:0<p.length):atI (p.map D.int) (-1)=some (.int<|p.getD (p.length-1) 0):=by
 rcases List.eq_nil_or_concat p with rfl| ⟨q,x,rfl⟩
 .simp at h
 .rw[List.concat_eq_append,aZ3,cE];exact d72 _ _
def oQ:Φ:=λds Q=> ∃p:List Int,ds=[aJ p]/\p.length<=1000/\Q (.pu<|.bl<|dS9 p)
def uT:US:=(cV<|aR cY3<|a8 (dO [] [none,none] 1 (fG<|aC 0) (bU 0) (λρ Q=>Q true ρ)<|uOp (wP λi j=>decide (i<=j)) (aR cY2<|a8 (aC 0) aM)<|uC<|.int 499) aM)
def oR:US:=(aT (fX (uOr (dQ<|uOp (wP λi j=>decide (i<j)) (lZ<|aX 0)<|uC<|.int 3)<|uOr (dQ<|uOp (wP λi j=>decide (j<i)) (lZ<|aX 0)<|uC<|.int 5)<|dQ<|uOp (iV true) (uIx (aX 0)<|pG<|uC<|.int 1)<|uC<|.int 1) (cV<|uC<|.bl false) dN) uT)
theorem aU4: ∀ds Q,oQ ds Q->oR {nx:=λ_=>Q (.pu .non),rt:=Q} (init ["r"] ds):=by
 rintro ds Q ⟨p,rfl,hn,h⟩;have lp:(p.map D.int).length=p.length:=aP _;unfold oR;simp only[aJ];show(aT _ _:US) _ [some<|.pu<|.tup<|p.map .int];rw[aO];left;rw[lp];unfold dS9 at h
 by_cases h3:(p.length:Int)<3
 .rw[a7 h3];rw[eC ad]at h
  exact h
 rw[a6 h3];rw[hV<|show 3<=p.length by lia,Bool.true_and]at h
 by_cases h5:(5:Int)< (p.length:Int)
 .rw[a7 h5];rw[eC<|show ¬p.length<=5 by lia]at h
  exact h
 rw[a6 h5];rw[hV<|show p.length<=5 by lia,Bool.true_and]at h
 rw[d03 ad]
 dsimp only
 by_cases h1:p.getD (p.length-1) 0=1
 .rw[hV h1,Bool.true_and]at h;rw[a6 λz=>z h1]
  unfold uT;rw[gW,cM,bK];refine dF (t0:=0) p.length (λk=>(p.map D.int).getD k .non) [some<|.pu<|.tup<|p.map .int] ?_ ad (λx l=>[x,some<|.ow l]) none rfl (λ_ _ _=>rfl) (λ_ _=>cB _) (λ_ _ _ q=>q) (λ_ _ _=>rfl) (λk=> .bl (c91<|p.getD k 0)) ?_ ?_
  .intro Q' q;simp only[fG];left;rw[lp];exact q
  .intro k l Q' hk q;have ek:(p.map D.int).getD k .non= .int (p.getD k 0):=by
    rw[aQ,bO,aQ,aS hk];rfl
   rw[ek]at q⊢;left;exact q
  .have e:((List.range p.length).map λk=>D.bl (c91<|p.getD k 0))=(p.map c91).map D.bl:=by
    rw[i4];refine gD ae λi h1 h2=> ?_
    simp at h1
    simp[h1]
   rw[e];left;rw[qK];show Q (.pu<|.bl<|(p.map c91).all id);rw[List.all_map];exact h
 .rw[eC h1]at h;rw[a7 h1];exact h
def i9:Φ:=λds Q=> ∃p:List Int,ds=[aJ p]/\d7 p/\Q (.pu .non)
def mM:US:=(fX (aY4<|dQ<|aR oQ<|a8 (aC 0) aM) (λ_ _=>False) dN)
theorem aI2: ∀ds Q,i9 ds Q->mM {nx:=λ_=>Q (.pu .non),rt:=Q} (init ["r"] ds):=by
 rintro ds Q ⟨p,rfl,hp,h⟩;have hi:=hp.ok.hi;unfold mM;show(fX _ _ _:US) _ [some<|.pu<|aJ p];left;refine⟨p,rfl,ad,?_⟩
 rw[(dD6 p).mpr hp]
 simpa using h
noncomputable def iW (p:List Int):List (List Int):=(List.range<|p.length-1).map λi=>((eR p<|2*(p.length-1)-2).drop i).take (p.length-1)
def a34:Φ:=λds Q=> ∃p:List Int,ds=[aJ p]/\d7 p/\Q (.pu<|.int<|i8 4<|iW p)
def a35:US:=(aT (aT3<|aR i9<|a8 (aC 0) aM)<|aT (bG 1<|uOp M.gSub (lZ<|aX 0)<|uC<|.int 1)<|aT (bG 2<|aR uQ<|a8 (aC 0)<|a8 (uOp M.gSub (uOp fL (uC<|.int 2)<|aC 1)<|uC<|.int 1) aM)<|cV<|aR (fZ 4)<|a8 (aR cA<|a8 (dO [1] [none,some 2,some 1,none] 3 (fP<|a8 (aC 1) aM) (bU 0) (λρ Q=>Q true ρ)<|aR cA<|a8 (uSl (aX 1) (jI<|aC 0)<|jI<|uOp fY (aC 0)<|aC 2) aM) aM) aM)
theorem d04 (hp:b98 p):Sq 4 (iW p):=by
 have hlo:=hp.lo;have hhi:=hp.hi;have bn:=a33 hp (2*(p.length-1)-2) aa
 have nl:=uP p (2*(p.length-1)-2);have hl:(iW p).length=p.length-1:=by unfold iW;simp
 refine⟨aa,aa,λr hr=> ?_,λr hr x hx=> ?_⟩
 .unfold iW at hr;obtain⟨i,hi,rfl⟩:=gE.mp hr;have:=eO.mp hi;rw[hl,zY,tZ,nl];omega
 .unfold iW at hr;obtain⟨i,hi,rfl⟩:=gE.mp hr;refine nO (bn x<|List.mem_of_mem_drop<|List.mem_of_mem_take hx) ?_;exact aN5 ac aa
theorem dT0 (l:List D)(i n:Nat)(h:i+n<=l.length):cutD l (some (i:Int)) (some ((i+n:Nat):Int))=(l.drop i).take n:=by
 unfold cutD;rw[HT.sIx_nat,HT.sIx_nat,u6<|show i<=l.length by lia,u6 h]
 congr 1
 lia
theorem c05: ∀ds Q,a34 ds Q->a35 {nx:=λ_=>Q (.pu .non),rt:=Q} (init ["p","n","s"] ds):=by
 rintro ds Q ⟨p,rfl,hp,h⟩;have hlo:=hp.ok.lo;have hhi:=hp.ok.hi;have lp:(p.map D.int).length=p.length:=aP _;have en:(p.length:Int)-1=((p.length-1:Nat):Int):=ad
 have nl:=uP p (2*(p.length-1)-2);have fin:(cV (aR (fZ 4)<|a8 (aR cA<|a8 (dO [1] [none,some 2,some 1,none] 3 (fP<|a8 (aC 1) aM) (bU 0) (λρ Q=>Q true ρ)<|aR cA<|a8 (uSl (aX 1) (jI<|aC 0)<|jI<|uOp fY (aC 0)<|aC 2) aM) aM) aM):US) {nx:=λ_=>Q (.pu .non),rt:=Q}
   [some<|.pu<|.tup<|p.map .int,some<|.pu<|.int ((p.length-1:Nat):Int),some<|.ow<|(eR p<|2*(p.length-1)-2).map .int]:=by
  rw[gW,cM,bK,cM,bK];refine dF (t0:=0) (p.length-1) (λi=> .int (0+i)) [some<|.pu<|.tup<|p.map .int,some<|.pu<|.int ((p.length-1:Nat):Int),some<|.ow<|(eR p<|2*(p.length-1)-2).map .int] ?_ ad
   (λx l=>[x,some<|.bo<|(eR p<|2*(p.length-1)-2).map .int,some<|.pu<|.int ((p.length-1:Nat):Int),some<|.ow l]) none rfl (λ_ _ _=>rfl) (λ_ _=>cB _) (λ_ _ _ q=>q) (λ_ _ _=>rfl)
   (λi=>aJ (((eR p<|2*(p.length-1)-2).drop i).take<|p.length-1)) ?_ ?_
  .intro Q' q;simp only[fP];left;refine⟨ad,?_⟩
   rw[bX];exact q
  .intro i l Q' hi q;left;have e:cutD ((eR p<|2*(p.length-1)-2).map D.int) (some<|0+(i:Int)) (some<|0+(i:Int)+((p.length-1:Nat):Int))=(((eR p<|2*(p.length-1)-2).drop i).take<|p.length-1).map D.int:=by
    rw[bQ,show(i:Int)+((p.length-1:Nat):Int)=((i+(p.length-1):Nat):Int)by lia,dT0 _ _ _ (by rw[aP,nl];lia),nV,a09]
   rw[e];exact q
  .simp only[cA,g1,B.d,aM,oO];refine⟨iW p,?_,d04 hp.ok,h⟩;unfold c90 iW;rw[i4];rfl
 unfold a35;show(aT _ _:US) _ [some<|.pu<|.tup<|p.map .int,none,none];rw[aO,dD5,cM,bK];simp only[aC,a85,aM,B.d,tU];refine⟨p,rfl,hp,?_⟩;rw[aO,j4];simp only[uOp,lZ,aX,bQ3,uC,oO,M.gSub,gI2,B.d,tU,lp,bA8,bA7,en];rw[aO,j4,cM];simp only[a8,aM,uOp,aC,a85,uC,M.gSub,fL,gI2,B.d,tU,List.getElem?_cons_succ];refine⟨cmL ac ac,?_⟩
 refine⟨p,2*(p.length-1)-1,?_,hp.ok,ad,ad,?_⟩
 .rw[show(2:Int)*((p.length-1:Nat):Int)-1=((2*(p.length-1)-1:Nat):Int)by lia];rfl
 .rw[show 2*(p.length-1)-1-1=2*(p.length-1)-2 by lia]
  exact fin
noncomputable def one4 (e d c b:Int):Int:=12*e-3*b*d+c*c
noncomputable def two4 (e d c b:Int):Int:=72*c*e+9*b*c*d-27*d*d-27*b*b*e-2*c*c*c
noncomputable def dT1:List Int->Int
 | [c0,c1,_]=>c1*c1-4*c0
 | [d,c,b,_]=>b*b*c*c-4*c*c*c-4*b*b*b*d-27*d*d+18*b*c*d
 | [e,d,c,b,_]=>(4*one4 e d c b*one4 e d c b*one4 e d c b-two4 e d c b*two4 e d c b).fdiv 27
 | _=>0
theorem d7.cases {p:List Int}(h:d7 p):(∃a b:Int,p=[a,b,1]/\a.natAbs<=499/\b.natAbs<=499)\/(∃a b c:Int,p=[a,b,c,1]/\a.natAbs<=499/\b.natAbs<=499/\c.natAbs<=499)\/
  ∃a b c d:Int,p=[a,b,c,d,1]/\a.natAbs<=499/\b.natAbs<=499/\c.natAbs<=499/\d.natAbs<=499:=by
 obtain⟨q,rfl⟩:=h.one;have lo:=h.ok.lo;have hi:=h.ok.hi;have sm: ∀x∈q,x.natAbs<=499:=λx hx=>h.ok.small x (zO _ hx)
 rw[cS,zJ]at lo hi
 match q,lo,hi,sm with
 | [a,b],_,_,sm=>exact .inl ⟨a,b,rfl,sm a ae,sm b ae⟩
 | [a,b,c],_,_,sm=>exact .inr (.inl ⟨a,b,c,rfl,sm a ae,sm b ae,sm c ae⟩)
 | [a,b,c,d],_,_,sm=>exact .inr (.inr ⟨a,b,c,d,rfl,sm a ae,sm b ae,sm c ae,sm d ae⟩)
 | [],lo,_,_=>simp at lo
 | [_],lo,_,_=>simp at lo
 | _::_::_::_::_::_,_,hi,_=>simp at hi
noncomputable def hkD2 (a b c:Int):Int:=1*a*c+(-1*b*b+0)
noncomputable def hkD3 (s t u v w:Int):Int:=1*s*hkD2 u v w+(-1*t*(1*t*w+(-1*v*u+0))+(1*u*(1*t*v+(-1*u*u+0))+0))
theorem hk2 (c b:Int):i8 4 (iW [c,b,1])=hkD2 2 (-(0+1*b)) (-((b* -(0+1*b)+0)+2*c)):=by kernel_rfl
noncomputable def dT2 (b:Int):Int:= -(0+1*b)
noncomputable def hkNb (c b:Int):Int:= -((b*dT2 b+0)+2*c)
noncomputable def hkNc (d c b:Int):Int:= -((b*hkNb c b+(c*dT2 b+0))+3*d)
noncomputable def hkNd (d c b:Int):Int:= -((b*hkNc d c b+(c*hkNb c b+(d*dT2 b+0)))+0)
theorem hk3 (d c b:Int):i8 4 (iW [d,c,b,1])=hkD3 3 (dT2 b) (hkNb c b) (hkNc d c b) (hkNd d c b):=by kernel_rfl
noncomputable def rts3 (a b c:Int):List Int:=[-(a*b*c),a*b+a*c+b*c,-a-b-c]
noncomputable def sqIn (rs:List Int)(i:Nat)(t:Int):Nat->Int
 | 0=>t
 | j+1=>sqIn rs i t j*(rs.getD i 0-rs.getD j 0)*(rs.getD i 0-rs.getD j 0)
noncomputable def sqK (rs:List Int):Nat->Int
 | 0=>1
 | i+1=>sqIn rs i (sqK rs i) i
noncomputable def okR (q rs:List Int):Bool:=(q.all λx=>decide (x.natAbs<=499))&&decide (dT1 (q++[1])=sqK rs rs.length)
noncomputable def sh3 (a b c s:Int):List Int:=[a+s*b+s*s*c+s*s*s,b+2*s*c+3*s*s,c+3*s]
noncomputable def sh4 (a b c d s:Int):List Int:=[a+s*b+s*s*c+s*s*s*d+s*s*s*s,b+2*s*c+3*s*s*d+4*s*s*s,c+3*s*d+6*s*s,d+4*s]
noncomputable def dT3 (row:List Int)(r:Int):Nat->List Int
 | 0=>0::row
 | k+1=>(dT3 row r k).set k ((dT3 row r k).getD k 0-r*row.getD k 0)
noncomputable def dZ2 (rs:List Int):List Int:=rs.foldl (λrow r=>dT3 row r row.length) [1]
theorem fr3 (a b c:Int):dZ2 [a,b,c]=rts3 a b c++[1]:=by
 simp[dZ2,dT3,rts3]
 grind
noncomputable def aZ4 (row:List Int)(s:Int):Nat->List Int
 | 0=>row
 | k+1=>(aZ4 row s k).set (row.length-2-k) ((aZ4 row s k).getD (row.length-2-k) 0+s*(aZ4 row s k).getD (row.length-1-k) 0)
noncomputable def shK (p:List Int)(s:Int):Nat->List Int
 | 0=>p
 | low+1=>aZ4 (shK p s low) s (p.length-1-low)
theorem she3 (a b c s:Int):shK [a,b,c,1] s 3=sh3 a b c s++[1]:=by
 simp[shK,aZ4,sh3]
 grind
theorem she4 (a b c d s:Int):shK [a,b,c,d,1] s 4=sh4 a b c d s++[1]:=by
 simp[shK,aZ4,sh4]
 grind
noncomputable def rwF (n:Nat)(f:Nat->Int):List Int:=(List.range n).map f
theorem a36 (n:Nat)(f:Nat->Int):(rwF n f).length=n:=by simp[rwF]
theorem b99 (h:i<n):(rwF n f)[i]? =some (f i):=by simp[rwF,h]
theorem bY (n:Nat)(f:Nat->Int):((rwF n f).map D.int).length=n:=by simp[rwF]
theorem yL (h:i<n):((rwF n f).map D.int)[i]? =some (.int<|f i):=by simp[rwF,h]
theorem mZ (h:i<n):((rwF n f).map D.int).getD i .non= .int (f i):=by rw[aQ,yL h];rfl
theorem jO (h:i<n):atI ((rwF n f).map D.int) (i:Int)=some (.int<|f i):=d4 (yL h)
theorem bA0 {j:Nat}{v:Int}(h:j<n):((rwF n f).map D.int).set j (.int v)=(rwF n λx=>if x=j then v else f x).map D.int:=by
 apply aO5
 intro k
 by_cases hk:k<n
 .rw[yL hk]
  by_cases e:j=k
  .subst e;rw[jE (by rw[bY];exact hk),a7 rfl]
  .rw[get_set_ne e,yL hk,a6 λz=>e z.symm]
 .rw[iJ (by rw[fB,bY];omega),iJ (by rw[bY];omega)]
theorem dU (h: ∀i,i<n->f i=g i):rwF n f=rwF n g:=by
 unfold rwF;apply nL;intro i hi;exact h i (eO.mp hi)
theorem cK9 (r:List Int):r=rwF r.length (λj=>r.getD j 0):=by
 apply aO5
 intro k
 by_cases hk:k<r.length
 .rw[b99 hk,aS hk,aQ,aS hk];rfl
 .rw[iJ aa,iJ (by rw[a36];omega)]
theorem kJ (n:Nat)(f:Nat->Int):(List.range n).map (λk=>D.int (f k))=(rwF n f).map D.int:=by
 unfold rwF;rw[i4];rfl
noncomputable def tbF (n m:Nat)(t:Nat->Nat->Int):List D:=(List.range n).map λi=>aJ (rwF m<|t i)
theorem c06 (n m:Nat)(t:Nat->Nat->Int):(tbF n m t).length=n:=by simp[tbF]
theorem cR5 {m:Nat}(h:i<n):(tbF n m t)[i]? =some (aJ<|rwF m<|t i):=by simp[tbF,h]
theorem cL0 {m:Nat}(h:i<n):atI (tbF n m t) (i:Int)=some (aJ<|rwF m<|t i):=d4 (cR5 h)
theorem dD7 (n m:Nat)(t:Nat->Nat->Int)(f:Nat->Int):tbF n m t++[aJ<|rwF m f]=tbF (n+1) m (λi=>if i=n then f else t i):=by
 unfold tbF;rw[bB,cE]
 congr 1
 .apply nL
  intro i hi;have:=eO.mp hi;show _=aJ (rwF m<|if i=n then f else t i);rw[a6 aa]
 .simp
theorem c07 (h:i<n):ixN n (i:Int)=some i:=by
 unfold ixN;have h2:(i:Int)< (n:Int):=aa
 simp[h,h2]
theorem c08 (t:UE)(ρ:Ev)(Q:Bool->Ev->Prop):dQ t ρ Q=t ρ (isB Q):=rfl
theorem cL1 (g:D->D->(B->Prop)->Prop)(ta tb:UE)(ρ:Ev)(Q:B->Ev->Prop):uOp g ta tb ρ Q=ta ρ λx ρ1=>tb ρ1 λy ρ2=>g x.d y.d λb=>Q b ρ2:=rfl
theorem aU5 (c:UT)(t u:US)(E:UD)(ρ:Ev):fX c t u E ρ=c ρ λb ρ1=>if b=true then t E ρ1 else u E ρ1:=rfl
theorem dT4 (t:UT)(ρ:Ev)(Q:Bool->Ev->Prop):aY4 t ρ Q=t ρ λc ρ1=>Q (!c) ρ1:=rfl
theorem aU6 {d:D}(h:ρ[i]? =some (some<|.pu d)):aC i ρ Q=Q (.pu d) ρ:=by unfold aC a85;rw[h]
theorem c92: ∀r:List Int,pdL (r.map D.int)=some (r.map PyData.int)
 | []=>by simp[pdL]
 | a::r=>by simp[pdL,pd,c92 r]
theorem cL2 (r:List Int):pd (aJ r)=some (.tuple<|r.map .int):=by simp[aJ,pd,c92]
theorem c93: ∀r:List Int,PyData.depthAll (r.map PyData.int)=0
 | []=>by simp[PyData.depthAll]
 | a::r=>by simp[PyData.depthAll,PyData.depth,c93 r]
theorem dT5 (r:List Int):(PyData.tuple<|r.map .int).depth<=60:=by simp[PyData.depth,c93]
theorem dT6 (a b:List Int):(PyData.tuple<|a.map .int).eqv (.tuple<|b.map .int)=decide (a=b):=by simp only[PyData.eqv];exact PySem.W.ked_eqvAll a b
theorem c94 {a b:List Int}{Q:B->Prop}(h:Q (.pu<|.bl<|neg ^^ decide (a=b))):b71 neg (aJ a) (aJ b) Q:=⟨_,_,cL2 a,cL2 b,dT5 a,by rw[dT6];exact h⟩
noncomputable def gM (f:Nat->Int):Nat->Nat
 | 0=>0
 | n+1=>if f n=0 then gM f n else n+1
theorem a37 (f:Nat->Int): ∀n,gM f n<=n
 | 0=>aG _
 | n+1=>by
  unfold gM;split
  .have:=a37 f n;lia
  .exact aG _
theorem bS1 (f:Nat->Int): ∀n,gM f n=0\/f (gM f n-1)≠0
 | 0=> .inl rfl
 | n+1=>by
  unfold gM;split
  .exact bS1 f n
  .rename_i h
   exact .inr (by simpa using h)
theorem bS2 (f:Nat->Int): ∀n m,gM f n<=m->m<n->f m=0
 | n+1,m,h1,h2=>by
  unfold gM at h1;split at h1
  .rename_i h
   by_cases e:m=n
   .rw[e];exact h
   .exact bS2 f n m h1 ad
  .lia
theorem t7 {f:Nat->Int}{k:Nat}: ∀{n:Nat},k<=n->(∀m,k<=m->m<n->f m=0)->(k=0\/f (k-1)≠0)->gM f n=k
 | 0,h,_,_=>by have:k=0:=ad
               rw[this];rfl
 | n+1,h,hz,hl=>by
  unfold gM
  by_cases e:k=n+1
  .subst e;rw[a6];rcases hl with h0|h0
   .lia
   .simpa using h0
  .rw[a7<|hz n ad ad]
   exact t7 ad (λm h1 h2=>hz m h1 ad) hl
theorem bD8 {f g:Nat->Int}: ∀{n:Nat},(∀m,m<n->f m=g m)->gM f n=gM g n
 | 0,_=>rfl
 | n+1,h=>by
  unfold gM;rw[h n<|pZ n,bD8 λm hm=>h m (kZ hm)]
theorem bD9 (n k:Nat)(f:Nat->Int)(h:k<=n):(rwF n f).take k=rwF k f:=by
 unfold rwF;rw[<-nV,List.take_range,u6 h]
def aA3:Φ:=λds Q=> ∃(n:Nat) (f:Nat->Int),ds=[aJ<|rwF n f]/\n<=1000/\Q (.pu<|aJ<|rwF (gM f n) f)
def bE0:US:=(aT (bG 1<|lZ<|aX 0)<|aT (bX9 (bX5 (dQ<|uOp (wP λi j=>decide (j<i)) (aC 1)<|uC<|.int 0)<|dQ<|uOp (iV false) (uIx (aX 0)<|uOp M.gSub (aC 1)<|uC<|.int 1)<|uC<|.int 0)<|c64 1 (gI2 λi j Q=>Q (.pu<|.int<|i-j))<|uC<|.int 1)<|cV<|uSlT (aC 0) gU<|jI<|aC 1)
theorem dD8: ∀ds Q,aA3 ds Q->bE0 {nx:=λ_=>Q (.pu .non),rt:=Q} (init ["r","s"] ds):=by
 rintro ds Q ⟨n,f,rfl,hn,h⟩;unfold bE0;simp only[aJ];show(aT _ _:US) _ [some<|.pu<|.tup<|(rwF n f).map .int,none];rw[aO];left;rw[bY];refine⟨λm ρ=>ρ=[some<|.pu<|.tup<|(rwF n f).map .int,some<|.pu<|.int (m:Int)]/\m<=n/\gM f m=gM f n,⟨n,rfl,aG _,rfl⟩,?_⟩
 rintro m ρ ⟨rfl,hm,hc⟩;left;have fin:gM f m=m->Q (.pu<|.tup<|cutD ((rwF n f).map D.int) none<|some (m:Int)):=λe=>by
  rw[cK7 _ _ (by rw[bY];exact hm),<-nV,bD9 _ _ _ hm]
  rw[<-hc,e]at h;exact h
 split
 .rename_i h0
  obtain⟨m',rfl⟩: ∃m',m=m'+1:=⟨m-1,ad⟩
  rw[show((m'+1:Nat):Int)-1=(m':Int)by lia,jO<|show m'<n by lia]
  dsimp only;split
  .rename_i h1
   refine⟨m',ad,?_,ad,?_⟩
   .simp
   .rw[<-hc];show _=if f m'=0 then gM f m' else m'+1;rw[a7 h1]
  .rename_i h1
   refine fin ?_
   show(if f m'=0 then gM f m' else m'+1)=m'+1
   rw[a6 h1]
 .have:m=0:=ad
  subst this;exact fin rfl
noncomputable def shF (b:Nat->Int)(n m:Nat):Int:=if n<=m then b (m-n)else 0
noncomputable def divS (b:Nat->Int)(d n:Nat)(f:Nat->Int):Nat->Int:=λm=>f m-f (n+d)*shF b n m
noncomputable def divL (b:Nat->Int)(d:Nat):Nat->(Nat->Int)->Nat->Int
 | 0,f=>f
 | n+1,f=>divL b d n (divS b d n f)
noncomputable def divQ (b:Nat->Int)(d:Nat):Nat->(Nat->Int)->Nat->Int
 | 0,_=>λ_=>0
 | n+1,f=>λx=>if x=n then f (n+d)else divQ b d n (divS b d n f) x
structure dD9 (L d a e:Nat)(f b:Nat->Int):Prop where
 L9:L<=100
 d9:d<=100
 one:b d=1
 beyond: ∀j,d<j->b j=0
 fb: ∀m,m<L->(f m).natAbs<=2^a
 bb: ∀j,(b j).natAbs<=2^e
 room:a+(e+1)*L<8000
 e8:e<8000
theorem cL3 {b:Nat->Int}{d a L:Nat}(hn:n+d<L)(hf: ∀m,m<L->(f m).natAbs<=2^a)(hb: ∀j,(b j).natAbs<=2^e): ∀m,m<L->(divS b d n f m).natAbs<=2^(a+(e+1)):=by
 intro m hm;unfold divS;have h1:=hf m hm;have h2:=hf (n+d) hn;have h3:(shF b n m).natAbs<=2^e:=by
  unfold shF;split
  .exact hb _
  .simp
 have h4:(f (n+d)*shF b n m).natAbs<=2^a*2^e:=by rw[cZ];exact iL h2 h3
 have h5:=Int.natAbs_sub_le (f m) (f (n+d)*shF b n m);have e1:2^(a+(e+1))=2^a*2^e+2^a*2^e:=by rw[<-qC,pow_succ,fN];lia
 have h6:2^a<=2^a*2^e:=Nat.le_mul_of_pos_right _ (Nat.pow_pos ac)
 lia
theorem bS3 (k:Nat):(replicate k [D.int 0]).flatten=(rwF k λ_=>0).map .int:=by
 rw[c89]
 congr 1
 apply gD<;>simp[rwF]
def gI:Φ:=λds Q=> ∃(L d a e:Nat) (f b:Nat->Int),ds=[aJ<|rwF L f,aJ<|rwF (d+1) b]/\dD9 L d a e f b/\
 Q (.pu<|.tup [aJ<|rwF (gM (divQ b d (L-d) f)<|L-d)<|divQ b d (L-d) f,aJ<|rwF (gM (divL b d (L-d) f) L)<|divL b d (L-d) f])
def vZ:US:=(cV<|i5<|a8 (aR aA3<|a8 (aR cA<|a8 (aC 5) aM) aM)<|a8 (aR aA3<|a8 (aR cA<|a8 (aC 4) aM) aM) aM)
def w6:US:=(aT (jJ (dA2<|a8 (aC 3) aM) (bU 6)<|aT (bG 7<|uIx (aX 4)<|uOp fY (aC 6)<|aC 2)<|aT (bQ5 5 (aC 7)<|aC 6)<|jJ (dA1<|a8 (aC 1) aM) (sS<|fJ 8<|fJ 9 sR)<|d98 4 (λi j=>i-j) (uOp fY (aC 6)<|aC 8)<|uOp fL (aC 7)<|aC 9) vZ)
def qO:US:=(aT (bG 2<|uOp M.gSub (lZ<|aX 1)<|uC<|.int 1)<|aT (bG 3<|aR gMax<|a8 (uC<|.int 0)<|a8 (uOp M.gSub (lZ<|aX 0)<|aC 2) aM)<|aT (bG 4<|aR aT2<|a8 (aC 0) aM)<|aT (bG 5<|uOp fL (gT<|a8 (uC<|.int 0) aM)<|aC 3) w6)
theorem aZ5: ∀ds Q,gI ds Q->qO {nx:=λ_=>Q (.pu .non),rt:=Q} (init ["f","g","d","s","l","q","a","m","j","c"] ds):=by
 rintro ds Q ⟨L,d,a,e,f,b,rfl,ok,h⟩;have L9:=ok.L9;have d9:=ok.d9;have room:=ok.room;unfold qO;simp only[aJ]at h⊢;show(aT _ _:US) _ [some<|.pu<|.tup<|(rwF L f).map .int,some<|.pu<|.tup<|(rwF (d+1) b).map .int,none,none,none,none,none,none,none,none];left;rw[bY,bY];obtain⟨N,hN⟩: ∃N:Nat,N=L-d:=⟨_,rfl⟩;have e1:((d+1:Nat):Int)-1=(d:Int):=ad
 have e2:(if(L:Int)-(d:Int)>0 then(L:Int)-(d:Int)else 0)=(N:Int):=by split<;>lia
 rw[e1,e2,bX,bS3];refine⟨ac,⟨ad,ad,aI (show 1*N<=100 by lia) ac⟩,?_⟩
 unfold w6;rw[aO];rw[<-hN]at h;refine bP N (λk=> .int (((N:Int))-1-k)) _ ?_
  (λk ρ=> ∃g q z6 z7 z8 z9,ρ=[some<|.pu<|.tup<|(rwF L f).map .int,some<|.pu<|.tup<|(rwF (d+1) b).map .int,some<|.pu<|.int (d:Int),some<|.pu<|.int (N:Int),some<|.ow<|(rwF L g).map .int,some<|.ow<|(rwF N q).map .int,z6,z7,z8,z9]/\
   divL b d (N-k) g=divL b d N f/\(∀x,x<N->divQ b d N f x=if x<N-k then divQ b d (N-k) g x else q x)/\ ∀m,m<L->(g m).natAbs<=2^(a+(e+1)*k))
  ⟨f,λ_=>0,none,none,none,none,rfl,rfl,λx hx=>by rw[u9,a7 hx],λm hm=>by simpa using ok.fb m hm⟩ ?_ ?_
 .intro Q' q;left;refine⟨⟨ad,ad⟩,?_⟩
  rw[bX];exact q
 .rintro k ρ hk ⟨g,q,z6,z7,z8,z9,rfl,hL,hQ,hb⟩;obtain⟨i,hi⟩: ∃i:Nat,i=N-1-k:=⟨_,rfl⟩;have ei:(N:Int)-1-(k:Int)=(i:Int):=ad
  have hiN:i<N:=ad
  have hid:i+d<L:=ad
  rw[ei];have c1:(i:Int)+(d:Int)=((i+d:Nat):Int):=ad
  left
  rw[c1,jO hid];dsimp only;rw[bY,c07 hiN];dsimp only;rw[bA0 hiN];refine⟨ae,?_⟩
  have smg:Sm (g<|i+d):=Sm.pow (hb _ hid) (by
   have:(e+1)*k<=(e+1)*L:=aN8 _ ad
   lia)
  refine bP (d+1) (λj=> .tup [.int (j:Int),((rwF (d+1) b).map D.int).getD j .non]) [some<|.pu<|.tup<|(rwF L f).map .int,some<|.pu<|.tup<|(rwF (d+1) b).map .int,some<|.pu<|.int (d:Int),some<|.pu<|.int (N:Int),some<|.ow<|(rwF L g).map .int,some<|.ow<|(rwF N λx=>if x=i then g (i+d)else q x).map .int,some<|.pu<|.int (i:Int),some<|.pu<|.int<|g<|i+d,z8,z9] ?_
   (λj ρ=> ∃z8 z9,ρ=[some<|.pu<|.tup<|(rwF L f).map .int,some<|.pu<|.tup<|(rwF (d+1) b).map .int,some<|.pu<|.int (d:Int),some<|.pu<|.int (N:Int),some<|.ow<|(rwF L λm=>if m<i+j then divS b d i g m else g m).map .int,some<|.ow<|(rwF N λx=>if x=i then g (i+d)else q x).map .int,some<|.pu<|.int (i:Int),some<|.pu<|.int<|g<|i+d,z8,z9]) ⟨z8,z9,?_⟩ ?_ ?_
  .intro Q' qq;left;rw[bY];exact qq
  .have:(rwF L λm=>if m<i+0 then divS b d i g m else g m)=rwF L g:=by
    apply dU
    intro m hm
    by_cases c:m<i+0
    .rw[a7 c];unfold divS shF;rw[a6 ad]
     lia
    .rw[a6 c]
   rw[this]
  .rintro j ρ hj ⟨z8,z9,rfl⟩;rw[mZ hj];have hij:i+j<L:=ad
   have c2:(i:Int)+(j:Int)=((i+j:Nat):Int):=ad
   simp only[d98];left;rw[c2,bY];refine⟨ae,ae,trivial,_,i+j,g<|i+j,rfl,c07 hij,by rw[yL hij,a6 ad],.inr ⟨smg,Sm.pow (ok.bb j) (by have:=ok.e8;lia)⟩,_,rfl,some<|.pu<|.int (j:Int),some<|.pu<|.int<|b j,?_⟩
   rw[bA0 hij];have:(rwF L λx=>if x=i+j then g (i+j)-g (i+d)*b j else if x<i+j then divS b d i g x else g x)=rwF L λm=>if m<i+(j+1)then divS b d i g m else g m:=by
    apply dU
    intro m hm
    by_cases c:m=i+j
    .subst c;rw[a7 rfl,a7 ad]
     unfold divS shF;rw[a7 ad,show i+j-i=j by lia]
    .rw[a6 c]
     by_cases c3:m<i+j
     .rw[a7 c3,a7 ad]
     .rw[a6 c3,a6 ad]
   rw[this]
  .rintro ρ ⟨z8,z9,rfl⟩;have eg:(rwF L λm=>if m<i+(d+1)then divS b d i g m else g m)=rwF L (divS b d i g):=by
    apply dU
    intro m hm
    by_cases c:m<i+(d+1)
    .rw[a7 c]
    .rw[a6 c];unfold divS shF;rw[a7 ad,ok.beyond _ ad]
     lia
   rw[eg];have en:N-k=i+1:=ad
   have en2:N-(k+1)=i:=ad
   rw[en]at hL hQ;refine⟨_,_,_,_,_,_,rfl,by rw[en2];exact hL,λx hx=> ?_,?_⟩
   .rw[en2,hQ x hx]
    by_cases c:x<i
    .rw[a7 c,a7 ad]
     show(if x=i then _ else divQ b d i (divS b d i g) x)=_
     rw[a6 ad]
    .rw[a6 c]
     by_cases c2:x=i
     .subst c2;rw[a7 ad,a7 rfl]
      show(if x=x then _ else _)=_
      rw[a7 rfl]
     .rw[a6 ad,a6 c2]
   .have:=cL3 hid hb ok.bb;rw[show a+(e+1)*(k+1)=a+(e+1)*k+(e+1)by rw[a13];lia]
    exact this
 .rintro ρ ⟨g,q,z6,z7,z8,z9,rfl,hL,hQ,hb⟩;dsimp only;unfold vZ;rw[sub_self]at hL hQ;have hg:g=divL b d N f:=hL;have hq: ∀x,x<N->divQ b d N f x=q x:=λx hx=>by rw[hQ x hx,a6 ad]
  left
  refine⟨N,q,rfl,ad,?_⟩
  refine⟨L,g,rfl,ad,?_⟩
  left
  refine⟨ac,?_⟩
  have e3:gM (divQ b d N f) N=gM q N:=bD8 λm hm=>hq m hm
  have e4:rwF (gM q N) (divQ b d N f)=rwF (gM q N) q:=dU λm hm=>hq m (by have:=a37 q N;lia)
  rw[e3,e4,<-hg]at h;exact h
noncomputable def conv (u b:Nat->Int):Nat->Nat->Int
 | 0,_=>0
 | n+1,m=>conv u b n m+u n*shF b n m
theorem oE {u b:Nat->Int}{d:Nat}(hb: ∀j,d<j->b j=0): ∀(n m:Nat),n+d<=m->conv u b n m=0
 | 0,m,_=>rfl
 | n+1,m,h=>by
  show conv u b n m+u n*shF b n m=0
  rw[oE hb n m ad]
  unfold shF;rw[a7 ad,hb _ ad]
  lia
theorem bE1 {u b low:Nat->Int}{d:Nat}(h1:b d=1)(hb: ∀j,d<j->b j=0)(hl: ∀m,d<=m->low m=0): ∀(n:Nat),divL b d n (λm=>conv u b n m+low m)=low/\ ∀x,x<n->divQ b d n (λm=>conv u b n m+low m) x=u x
 | 0=>⟨by funext m;show 0+low m=low m;lia,λx hx=>ad⟩
 | n+1=>by
  have top:conv u b (n+1) (n+d)+low (n+d)=u n:=by
   show conv u b n (n+d)+u n*shF b n (n+d)+low (n+d)=u n
   rw[oE hb n _<|aG _,hl _ ad]
   unfold shF;rw[a7 ad,show n+d-n=d by lia,h1]
   lia
  have st:divS b d n (λm=>conv u b (n+1) m+low m)=λm=>conv u b n m+low m:=by
   funext m
   show(conv u b (n+1) m+low m)-(conv u b (n+1) (n+d)+low (n+d))*shF b n m=_
   rw[top];show conv u b n m+u n*shF b n m+low m-u n*shF b n m=_
   lia
  obtain⟨i1,i2⟩:=bE1 (u:=u) h1 hb hl n;refine⟨?_,λx hx=> ?_⟩
  .show divL b d n (divS b d n _)=low
   rw[st];exact i1
  .show(if x=n then _ else divQ b d n (divS b d n _) x)=u x
   rw[st]
   by_cases c:x=n
   .rw[a7 c,c];exact top
   .rw[a6 c];exact i2 x ad
theorem b43 (h:0<n):atI ((rwF n f).map D.int) (-1)=some (.int<|f<|n-1):=by
 unfold L2.atI;have e:ixN ((rwF n f).map D.int).length (-1)=some (n-1):=by
  unfold ixN;rw[bY,a6 ac,a7 ad]
  congr 1
  lia
 rw[e];exact yL ad
theorem cL4 (hf: ∀m,n<=m->f m=0): ∀m,gM f n<=m->f m=0:=λm hm=>by
 by_cases c:m<n
 .exact bS2 f n m hm c
 .exact hf m ad
noncomputable def md (p:Int)(f:Nat->Int):Nat->Int:=λj=>f j%p
noncomputable def c09 (c p:Int):Nat->Int
 | 0=>1
 | n+1=>c09 c p n*c%p
theorem bE2 {c p:Int}(hp:2<=p): ∀n,0<=c09 c p n/\c09 c p n<p
 | 0=>⟨by show(0:Int)<=1;lia,by show(1:Int)<p;lia⟩
 | n+1=>⟨dL _ ad,dJ _ ad⟩
structure Pr (p:Int):Prop where
 lo:2<=p
 hi:p<200
 inv: ∀c:Int,0<c->c<p->c09 c p (p.toNat-2)*c%p=1
def Cg (p:Int)(f g:Nat->Int):Prop:= ∀m,f m%p=g m%p
theorem Cg.divS {p:Int}{b f g:Nat->Int}{d n:Nat}(h:Cg p f g):Cg p (divS b d n f) (divS b d n g):=λm=>by
 show(f m-f (n+d)*shF b n m)%p=(g m-g (n+d)*shF b n m)%p
 have h1:=h m;have h2:f (n+d)*shF b n m%p=g (n+d)*shF b n m%p:=by rw[gF,h<|n+d,<-gF]
 rw[a14,h1,h2,<-a14]
theorem Cg.divL {p:Int}{b:Nat->Int}{d:Nat}: ∀(n:Nat) {f g:Nat->Int},Cg p f g->Cg p (divL b d n f) (divL b d n g)
 | 0,_,_,h=>h
 | n+1,_,_,h=>Cg.divL n h.divS
theorem Cg.divQ {p:Int}{b:Nat->Int}{d:Nat}: ∀(n:Nat) {f g:Nat->Int},Cg p f g->Cg p (divQ b d n f) (divQ b d n g)
 | 0,_,_,h=>λ_=>rfl
 | n+1,f,g,h=>λx=>by
  show(if x=n then f (n+d)else M.divQ b d n (M.divS b d n f) x)%p=(if x=n then g (n+d)else M.divQ b d n (M.divS b d n g) x)%p
  by_cases c:x=n
  .rw[a7 c,a7 c];exact h _
  .rw[a6 c,a6 c];exact Cg.divQ n h.divS x
theorem b44 {b:Nat->Int}{d:Nat}: ∀(n:Nat) (f:Nat->Int) (x:Nat),n<=x->divQ b d n f x=0
 | 0,_,_,_=>rfl
 | n+1,f,x,h=>by
  show(if x=n then f (n+d)else divQ b d n (divS b d n f) x)=0
  rw[a6 ad]
  exact b44 n _ x ad
theorem aU7 {p:Int}{u u' b b':Nat->Int}(h: ∀i j,u' i*b' j%p=u i*b j%p): ∀n,Cg p (conv u' b' n) (conv u b n)
 | 0,_=>rfl
 | n+1,m=>by
  show(conv u' b' n m+u' n*shF b' n m)%p=(conv u b n m+u n*shF b n m)%p
  have h1:=aU7 h n m;have h2:u' n*shF b' n m%p=u n*shF b n m%p:=by
   unfold shF
   by_cases c:n<=m
   .rw[a7 c,a7 c];exact h _ _
   .rw[a6 c,a6 c,b6,b6]
  rw[iM,h1,h2,<-iM]
theorem bE3 {b:Nat->Int}{d:Nat}(hb: ∀j,d<j->b j=0):conv u b (U+1) (U+d)=u U*b d:=by
 show conv u b U (U+d)+u U*shF b U (U+d)=_
 rw[oE hb U _<|aG _];unfold shF;rw[a7 ad,show U+d-U=d by lia]
 lia
theorem dE0 {p t:Int}{B0 low A:Nat->Int}{d:Nat}(hp:2<=p)(hB: ∀j,d<j->B0 j=0)(hU:U=0\/u (U-1)≠0)(uR: ∀j,0<=u j/\u j<p)(uz: ∀j,U<=j->u j=0)(lz: ∀j,d<=j->low j=0)(lR: ∀j,0<=low j/\low j<p)
  (ht:t*B0 d%p=1) (hA: ∀m,A m=(conv u B0 U m+low m)%p) (hn:U+d<=n) :
  let b:=λj=>t*B0 j%p
  let LA:=gM A n
  LA<=U+d/\(∀j,t*divQ b d (LA-d) A j%p=u j)/\(∀j,divL b d (LA-d) A j%p=low j)/\(∀m,LA<=m->divL b d (LA-d) A m%p=0):=by
 intro b LA;have b1:b d=1:=ht;have bz: ∀j,d<j->b j=0:=λj hj=>by
  show t*B0 j%p=0
  rw[hB j hj,b6,eP]
 have tc: ∀x:Int,t*(B0 d*x)%p=x%p:=λx=>by
  rw[<-hZ,gF,ht,a19,kD]
 have cg:Cg p A (λm=>conv (λi=>B0 d*u i) b U m+low m):=λm=>by
  rw[hA m,kD];have:=aU7 (p:=p) (u:=u) (b:=B0) (u':=λi=>B0 d*u i) (b':=b) (λi j=>by
   show B0 d*u i*(t*B0 j%p)%p=u i*B0 j%p
   rw[gF,kD,<-gF];have e:B0 d*u i*(t*B0 j)=t*(B0 d*(u i*B0 j)):=by
    simp only[kE,Int.mul_left_comm,hZ]
   rw[e,tc]) U m
  show(conv u B0 U m+low m)%p=(conv (λi=>B0 d*u i) b U m+low m)%p
  rw[iM,<-this,<-iM]
 obtain⟨e1,e2⟩:=bE1 (u:=λi=>B0 d*u i) (low:=low) b1 bz lz U
 have Az: ∀m,U+d<=m->A m=0:=λm hm=>by
  rw[hA m,oE hB U m hm,lz m ad]
  exact eP _
 have hL:(U=0/\LA<=d)\/(0<U/\LA=U+d):=by
  have hle:LA<=U+d:=by
   rcases bS1 A n with h|h
   .show gM A n<=U+d
    lia
   .exact zE λq=>h (Az _ (by show U+d<=LA-1;lia))
  by_cases c:U=0
  .exact .inl ⟨c,ad⟩
  .refine .inr ⟨ad,?_⟩
   refine t7 hn (λm m1 m2=>Az m m1) (.inr λq=> ?_)
   obtain⟨U',rfl⟩: ∃U',U=U'+1:=⟨U-1,ad⟩
   rw[show U'+1+d-1=U'+d by lia,hA,bE3 hB,lz _ ad,eF]at q
   have h1:=tc (u U');rw[gF,show B0 d*u U'=u U'*B0 d from kE _ _,q,b6,eP,fA (uR _).1 (uR _).2]at h1
   rcases hU with h|h
   .lia
   .exact h (by simpa using h1.symm)
 have hN:LA-d=U:=ad
 have r: ∀j,divL b d U A j%p=low j:=λj=>by
  rw[Cg.divL U cg j,e1,fA (lR j).1 (lR j).2]
 refine⟨ad,λj=> ?_,λj=>by rw[hN];exact r j,λm hm=> ?_⟩
 .rw[hN]
  by_cases c:j<U
  .have h1:=Cg.divQ (b:=b) (d:=d) U cg j;rw[e2 j c]at h1;rw[gF,h1,<-gF];show t*(B0 d*u j)%p=u j;rw[tc,fA (uR _).1 (uR _).2]
  .rw[b44 U A j ad,uz j ad,b6,eP]
 .rw[hN];rcases hL with⟨h1,h2⟩| ⟨h1,h2⟩
  .subst h1;show A m%p=0;rw[cL4 (λm hm=>Az m ad) m hm]
   exact eP _
  .rw[r m];exact lz m ad
def jG:Φ:=λds Q=> ∃(n:Nat) (f:Nat->Int) (p:Int),ds=[aJ<|rwF n f,.int p]/\n<=1000/\0<p/\Q (.pu<|aJ<|rwF (gM (md p f) n)<|md p f)
def wT:US:=(cV<|aR aA3<|a8 (aR cA<|a8 (dO [1] [none,some 1,none] 2 (fG<|aC 0) (bU 0) (λρ Q=>Q true ρ)<|uOp kW (aC 0)<|aC 1) aM) aM)
theorem dT7 (Q:B->Ev->Prop)(n:Nat)(f:Nat->Int)(p:Int)(hn:n<=1000)(hp:0<p)(k:Nat->D)(wK:Ev)(x0:D)(hx:x0=aJ (rwF n f)\/x0= .lst ((rwF n f).map .int))(h:Q (.ow<|(rwF n<|md p f).map .int) (some (.pu x0)::some (.pu<|.int p)::wK)) :
  (dO [1] [none,some 1,none] 2 (fG<|aC 0) (bU 0) (λρ Q=>Q true ρ) (uOp kW (aC 0)<|aC 1):UE) (some (.pu x0)::some (.pu<|.int p)::wK) Q:=by
 refine dF (t0:=0) n (λk=>((rwF n f).map D.int).getD k .non) (some (.pu x0)::some (.pu<|.int p)::wK) ?_ ad (λx l=>[x,some<|.pu<|.int p,some<|.ow l]) none rfl (λ_ _ _=>rfl) (λ_ _=>cB _) (λ_ _ _ q=>q) (λ_ _ _=>rfl) (λk=> .int (md p f k)) ?_ ?_
 .intro Q' q;rcases hx with rfl|rfl
  .simp only[aJ]at q⊢;left;rw[bY];exact q
  .left
   rw[bY];exact q
 .intro k l Q' hk q;rw[mZ hk]at q⊢;left;refine⟨ad,?_⟩
  rw[d5 _ hp];exact q
 .rw[kJ];exact h
theorem bM5: ∀ds Q,jG ds Q->wT {nx:=λ_=>Q (.pu .non),rt:=Q} (init ["r","p"] ds):=by
 rintro ds Q ⟨n,f,p,rfl,hn,hp,h⟩;unfold wT;show(cV _:US) _ [some<|.pu<|aJ<|rwF n f,some<|.pu<|.int p];rw[gW,cM,bK,cM,bK];refine dT7 _ n f p hn hp (λ_=> .non) [] _ (.inl rfl) ?_
 left
 exact⟨n,md p f,rfl,hn,h⟩
theorem cL5 (u b:Nat->Int)(i N:Nat):(rwF N λm=>if m<i+0 then conv u b (i+1) m else conv u b i m)=rwF N (conv u b i):=by
 apply dU
 intro m hm
 by_cases c:m<i+0
 .rw[a7 c];show conv u b i m+u i*shF b i m=_;unfold shF;rw[a6 ad]
  lia
 .rw[a6 c]
theorem cL6 {b:Nat->Int}{V N:Nat}(hz: ∀j,V<=j->b j=0):(rwF N λm=>if m<i+V then conv u b (i+1) m else conv u b i m)=rwF N (conv u b (i+1)):=by
 apply dU
 intro m hm
 by_cases c:m<i+V
 .rw[a7 c]
 .rw[a6 c];show _=conv u b i m+u i*shF b i m;unfold shF;rw[a7 ad,hz _ ad]
  lia
theorem cL7 (u b:Nat->Int)(i j N:Nat):(rwF N λx=>if x=i+j then conv u b i (i+j)+u i*b j else if x<i+j then conv u b (i+1) x else conv u b i x)=rwF N λm=>if m<i+(j+1)then conv u b (i+1) m else conv u b i m:=by
 apply dU
 intro m hm
 by_cases c:m=i+j
 .subst c;rw[a7 rfl,a7 ad]
  show _=conv u b i (i+j)+u i*shF b i (i+j)
  unfold shF;rw[a7 ad,show i+j-i=j by lia]
 .rw[a6 c]
  by_cases c3:m<i+j
  .rw[a7 c3,a7 ad]
  .rw[a6 c3,a6 ad]
theorem aU8 {u b:Nat->Int}{U:Nat}: ∀n,(∀j,U<=j->j<n->u j=0)->U<=n-> ∀m,conv u b n m=conv u b U m
 | 0,h,h2,m=>by rw[show U=0 by lia]
 | n+1,h,h2,m=>by
  by_cases c:U=n+1
  .rw[c]
  .show conv u b n m+u n*shF b n m=_
   rw[h n ad ad,aU8 n (λj a c=>h j a ad) ad m]
   lia
theorem md_nat {p:Int}(h1:2<=p)(h2:p<200)(f:Nat->Int)(j:Nat):(md p f j).natAbs<=2^8:=by
 unfold md;have a1:=dL (f j) (show p≠0 by lia)
 have a2:=dJ (f j) (show 0<p by lia)
 show _<=256
 lia
def w8:Φ:=λds Q=> ∃(n:Nat) (f:Nat->Int) (k p:Int),ds=[aJ<|rwF n f,.int k,.int p]/\n<=1000/\0<=k/\k<200/\0<p/\Q (.pu<|aJ<|rwF (gM (λj=>k*f j%p) n) λj=>k*f j%p)
def aA4:US:=(cV<|aR jG<|a8 (aR cA<|a8 (dO [1] [none,some 1,none] 2 (fG<|aC 0) (bU 0) (λρ Q=>Q true ρ)<|uOp fL (aC 1)<|aC 0) aM)<|a8 (aC 2) aM)
theorem c95: ∀ds Q,w8 ds Q->aA4 {nx:=λ_=>Q (.pu .non),rt:=Q} (init ["f","k","p"] ds):=by
 rintro ds Q ⟨n,f,k,p,rfl,hn,k0,k9,hp,h⟩;unfold aA4;show(cV _:US) _ [some<|.pu<|aJ<|rwF n f,some<|.pu<|.int k,some<|.pu<|.int p];rw[gW,cM,bK,cM,bK]
 refine dF (t0:=0) n (λi=>((rwF n f).map D.int).getD i .non) [some<|.pu<|aJ<|rwF n f,some<|.pu<|.int k,some<|.pu<|.int p] ?_ ad (λx l=>[x,some<|.pu<|.int k,some<|.ow l]) none rfl (λ_ _ _=>rfl) (λ_ _=>cB _) (λ_ _ _ q=>q) (λ_ _ _=>rfl) (λi=> .int (k*f i)) ?_ ?_
 .intro Q' q;simp only[aJ]at q⊢;left;rw[bY];exact q
 .intro i l Q' hk q;rw[mZ hk]at q⊢;left;exact⟨cmL ad ad,q⟩
 .rw[kJ];left;exact⟨n,λi=>k*f i,p,rfl,hn,hp,h⟩
def sB:Φ:=λds Q=> ∃c p:Int,ds=[.int c,.int p]/\0<=c/\c<p/\2<=p/\p<200/\Q (.pu<|.int<|c09 c p<|p.toNat-2)
def sC:US:=(aT (bG 2<|uC<|.int 1)<|aT (jJ (fP<|a8 (uOp M.gSub (aC 1)<|uC<|.int 2) aM) (bU 3)<|bG 2<|uOp kW (uOp fL (aC 2)<|aC 0)<|aC 1)<|rJ 2)
theorem b73: ∀ds Q,sB ds Q->sC {nx:=λ_=>Q (.pu .non),rt:=Q} (init ["c","p","v","s"] ds):=by
 rintro ds Q ⟨c,p,rfl,c0,c1,p2,p9,h⟩;unfold sC;show(aT _ _:US) _ [some<|.pu<|.int c,some<|.pu<|.int p,none,none];left;refine bP (p.toNat-2) (λk=> .int (0+k)) _ ?_
  (λk ρ=> ∃z,ρ=[some<|.pu<|.int c,some<|.pu<|.int p,some<|.pu<|.int<|c09 c p k,z]) ⟨none,rfl⟩ ?_ ?_
 .intro Q' q;left;refine⟨⟨ad,ad⟩,?_⟩
  rw[show(p-2).toNat=p.toNat-2 by lia]
  exact q
 .rintro k ρ hk ⟨z,rfl⟩;have:=bE2 (c:=c) p2 k;left;refine⟨ae,cmL ad ad,ad,some<|.pu<|.int<|0+(k:Int),?_⟩
  rw[d5 _ ad]
  rfl
 .rintro ρ ⟨z,rfl⟩;left;exact h
def sD:Φ:=λds Q=> ∃(n k d:Nat) (f g:Nat->Int) (p:Int),ds=[aJ<|rwF n f,aJ<|rwF k g,.int p]/\n<=50/\k<=50/\Pr p/\(∀j,k<=j->g j=0)/\d<k/\(∀j,d<j->md p g j=0)/\md p g d≠0/\
 ∀t,t*md p g d%p=1->0<=t->t<p->
  let b:=λj=>t*md p g j%p
  let LA:=gM (md p f) n
  let q:=divQ b d (LA-d) (md p f)
  let r:=divL b d (LA-d) (md p f)
  Q (.pu<|.tup [aJ<|rwF (gM (λj=>t*q j%p)<|gM q<|LA-d) λj=>t*q j%p,aJ<|rwF (gM (md p r)<|gM r LA)<|md p r])
def yM:US:=(cV<|i5<|a8 (aR w8<|a8 (aC 5)<|a8 (aC 4)<|a8 (aC 2) aM)<|a8 (aR jG<|a8 (aC 6)<|a8 (aC 2) aM) aM)
def qP:US:=(aT (d82 (aR gI<|a8 (aR jG<|a8 (aC 0)<|a8 (aC 2) aM)<|a8 (aR w8<|a8 (aC 3)<|a8 (aC 4)<|a8 (aC 2) aM) aM)<|sS<|fJ 5<|fJ 6 sR) yM)
def sE:US:=(aT (bG 3<|aR jG<|a8 (aC 1)<|a8 (aC 2) aM)<|aT (bG 4<|aR sB<|a8 (uIx (aX 3)<|pG<|uC<|.int 1)<|a8 (aC 2) aM) qP)
theorem b74: ∀ds Q,sD ds Q->sE {nx:=λ_=>Q (.pu .non),rt:=Q} (init ["a","b","p","l","t","q","r"] ds):=by
 rintro ds Q ⟨n,k,d,f,g,p,rfl,hn,hk,pp,gz,dk,dz,d0,h⟩;have p2:=pp.lo;have p9:=pp.hi;unfold sE;show(aT _ _:US) _ [some<|.pu<|aJ<|rwF n f,some<|.pu<|aJ<|rwF k g,some<|.pu<|.int p,none,none,none,none];have ed:gM (md p g) k=d+1:=t7 ad (λm m1 m2=>dz m ad) (.inr<|by simpa using d0)
 have c1:=dL (g d) (show p≠0 by lia)
 have c2:=dJ (g d) (show 0<p by lia)
 have c3:0<md p g d:=by
  have:md p g d=g d%p:=rfl
  lia
 have tR:=bE2 (c:=md p g d) p2 (p.toNat-2);have ht:=pp.inv _ c3 c2;generalize et:c09 (md p g d) p (p.toNat-2)=t at tR ht;have bA: ∀j,0<=t*md p g j%p/\t*md p g j%p<p:=λj=>⟨dL _ ad,dJ _ ad⟩
 have hc:gM (λj=>t*md p g j%p) (d+1)=d+1:=t7 (aG _) (λm a b=>ad) (.inr (by
  show t*md p g d%p≠0
  rw[ht];decide))
 have LA9:=a37 (md p f) n;have low:aJ (rwF (gM (md p g) k)<|md p g)= .tup ((rwF (d+1)<|md p g).map .int):=by rw[ed];rfl
 left
 refine⟨k,g,p,rfl,ad,ad,?_⟩
 rw[low];left;rw[b43 ad]
 left
 refine⟨md p g d,p,rfl,ad,c2,p2,p9,?_⟩
 rw[et];show qP _ [some<|.pu<|aJ<|rwF n f,some<|.pu<|aJ<|rwF k g,some<|.pu<|.int p,some<|.pu<|aJ<|rwF (d+1)<|md p g,some<|.pu<|.int t,none,none];unfold qP;left;refine⟨n,f,p,rfl,ad,ad,?_⟩
 refine⟨d+1,md p g,t,p,rfl,ad,ad,ad,ad,?_⟩
 rw[hc];refine⟨gM (md p f) n,d,8,8,md p f,λj=>t*md p g j%p,rfl,⟨ad,ad,ht,λj hj=>by
  show t*md p g j%p=0
  rw[dz j hj,b6,eP],λm _=>md_nat p2 p9 f m,λj=>by
   have:=bA j;show(t*md p g j%p).natAbs<=256
   lia,ad,ac⟩,?_⟩
 have hh:=h t ht tR.1 tR.2;have q9:=a37 (divQ (λj=>t*md p g j%p) d (gM (md p f) n-d)<|md p f) (gM (md p f) n-d)
 have r9:=a37 (divL (λj=>t*md p g j%p) d (gM (md p f) n-d)<|md p f) (gM (md p f) n)
 simp only[]at hh;left;refine⟨ae,ae,trivial,?_⟩
 unfold yM;left;refine⟨_,_,t,p,rfl,ad,ad,ad,ad,?_⟩
 refine⟨_,_,p,rfl,ad,ad,?_⟩
 left
 exact⟨ac,hh⟩
noncomputable def prB (i k:Nat):Bool:=if(2:Int)+(i:Int)=2+(k:Int)then true else !decide (((2:Int)+(i:Int))%(2+(k:Int))=0)
noncomputable def prC (i:Nat):Bool:=((List.range 13).map<|prB i).all id
noncomputable def prL:List Int:=((List.range 198).filter prC).map λi:Nat=>(2:Int)+(i:Int)
theorem c96 {c p:Nat}(hp:2<=p): ∀n,c09 (c:Int) (p:Int) n=((c^n%p:Nat):Int)
 | 0=>by
  show(1:Int)=_
  rw[Nat.pow_zero,Nat.mod_eq_of_lt ad]
  rfl
 | n+1=>by
  show c09 (c:Int) (p:Int) n*(c:Int)%(p:Int)=_
  rw[c96 hp n,<-aP1,<-Int.natCast_emod,pow_succ,Nat.mod_mul_mod]
theorem pr_all:prL.all (λp=>decide (2<=p)&&decide (p<200)&&(List.range p.toNat).all λc=>decide (c=0)||decide (c^(p.toNat-2)%p.toNat*c%p.toNat=1))=true:=af
theorem aZ6 {p:Int}(h:p∈prL):Pr p:=by
 have h1:=eN.mp pr_all p h;simp only[dZ,gC,eN,eO,a05]at h1;obtain⟨⟨a,b⟩,c⟩:=h1;refine⟨a,b,λx x0 x1=> ?_⟩
 obtain⟨q,rfl⟩: ∃q:Nat,p=(q:Int):=⟨p.toNat,ad⟩
 obtain⟨y,rfl⟩: ∃y:Nat,x=(y:Int):=⟨x.toNat,ad⟩
 have h2:=c y ad
 rw[bX]at h2⊢;rw[c96 ad,<-aP1,<-Int.natCast_emod]
 rcases h2 with h2|h2
 .lia
 .rw[h2];rfl
noncomputable def T_SMALL_PRIMES:List Int:=[2,3,5,7,11,13,17,19,23,29,31,37,41,43,47,53,59,61,67,71,73,79,83,89,97,101,103,107,109,113,127,131,137,139,149,151,157,163,167,173,179,181,191,193,197,199]
theorem tp_ok: ∀p∈T_SMALL_PRIMES,2<=p/\p<200:=af
theorem c12:T_SMALL_PRIMES.length=46:=rfl
def kU:Φ:=λds Q=>ds=[]/\Q (.ow<|T_SMALL_PRIMES.map .int)
def oS:US:=(cV<|aR aT2<|a8 (uC<|.tup<|T_SMALL_PRIMES.map .int) aM)
theorem aU9: ∀ds Q,kU ds Q->oS {nx:=λ_=>Q (.pu .non),rt:=Q} (init [] ds):=by
 rintro ds Q ⟨rfl,h⟩;unfold oS;show(cV _:US) _ [];left;exact h
theorem dE1:prL=T_SMALL_PRIMES:=af
noncomputable def ps (f:Nat->Int)(z:Int):Nat->Int
 | 0=>0
 | n+1=>ps f z n+f n*z^n
noncomputable def hor (f:Nat->Int)(n:Nat)(z:Int):Nat->Int
 | 0=>0
 | k+1=>hor f n z k*z+f (n-1-k)
theorem dE2 (f:Nat->Int)(n:Nat)(z:Int): ∀k,k<=n->hor f n z k*z^(n-k)+ps f z (n-k)=ps f z n
 | 0,_=>by show(0:Int)*_+_=_;rw[eQ,bQ];rfl
 | k+1,h=>by
  have ih:=dE2 f n z k ad
  obtain⟨m,hm⟩: ∃m,n-k=m+1:=⟨n-k-1,ad⟩
  have e1:n-(k+1)=m:=ad
  have e2:n-1-k=m:=ad
  rw[hm]at ih;show(hor f n z k*z+f (n-1-k))*z^(n-(k+1))+ps f z (n-(k+1))=_;rw[e1,e2,<-ih];show _=hor f n z k*z^(m+1)+(ps f z m+f m*z^m);rw[a15,a20];have e3:hor f n z k*z*z^m=hor f n z k*(z^m*z):=by rw[hZ,kE z]
  lia
theorem dT8 (f:Nat->Int)(n:Nat)(z:Int):hor f n z n=ps f z n:=by
 have:=dE2 f n z n (aG _);rw[sub_self]at this;have e:hor f n z n*z^0+ps f z 0=hor f n z n:=by
  show hor f n z n*z^0+0=_
  rw[qF,kF,eF]
 lia
theorem bS4 {f:Nat->Int}{n a b:Nat}{z:Int}(hf: ∀j,(f j).natAbs<=2^a)(hz:z.natAbs<=2^b): ∀k,(hor f n z k).natAbs<=2^(a+(b+1)*k)
 | 0=>by simp[hor]
 | k+1=>by
  show(hor f n z k*z+f (n-1-k)).natAbs<=_
  have ih:=bS4 (n:=n) hf hz k;have h1:(hor f n z k*z).natAbs<=2^(a+(b+1)*k)*2^b:=by rw[cZ];exact iL ih hz
  have h2:=hf (n-1-k);have h3:=pX (hor f n z k*z) (f<|n-1-k);have e1:2^(a+(b+1)*(k+1))=2^(a+(b+1)*k)*2^b+2^(a+(b+1)*k)*2^b:=by
   rw[a13,<-qC,<-qC,pow_succ,fN 2 (a+(b+1)*k) b];lia
  have h4:2^a<=2^(a+(b+1)*k)*2^b:=by
   rw[<-fN];exact cR ac ad
  lia
theorem dE3 (f g:Nat->Int)(z:Int): ∀n,ps (λj=>f j+g j) z n=ps f z n+ps g z n
 | 0=>rfl
 | n+1=>by
  show ps (λj=>f j+g j) z n+(f n+g n)*z^n=ps f z n+f n*z^n+(ps g z n+g n*z^n)
  rw[dE3 f g z n,a20]
  lia
theorem dE4 (c:Int)(f:Nat->Int)(z:Int): ∀n,ps (λj=>c*f j) z n=c*ps f z n
 | 0=>by show(0:Int)=c*0;rw[b6]
 | n+1=>by
  show ps (λj=>c*f j) z n+c*f n*z^n=c*(ps f z n+f n*z^n)
  rw[dE4 c f z n,qG,hZ]
theorem bE4 {f:Nat->Int}{z:Int}{n:Nat}: ∀m,n<=m->(∀j,n<=j->j<m->f j=0)->ps f z m=ps f z n
 | 0,h,_=>by rw[show n=0 by lia]
 | m+1,h,hz=>by
  by_cases c:n=m+1
  .rw[c]
  .show ps f z m+f m*z^m=_
   rw[hz m ad ad,eQ,eF]
   exact bE4 m ad λj a b=>hz j a ad
theorem bS5 (b:Nat->Int)(z:Int)(U:Nat): ∀n,n<=U->ps (shF b U) z n=0
 | 0,_=>rfl
 | n+1,h=>by
  show ps (shF b U) z n+shF b U n*z^n=0
  rw[bS5 b z U n aa]
  unfold shF;rw[a6 aa,eQ]
  rfl
theorem c97 (b:Nat->Int)(z:Int)(U:Nat): ∀m,ps (shF b U) z (U+m)=z^U*ps b z m
 | 0=>by rw[Nat.add_zero,bS5 b z U U<|aG _];show(0:Int)=z^U*0;rw[b6]
 | m+1=>by
  show ps (shF b U) z (U+m)+shF b U (U+m)*z^(U+m)=z^U*(ps b z m+b m*z^m)
  rw[c97 b z U m];unfold shF;rw[a7 ad,show U+m-U=m by lia,Int.pow_add,qG,Int.mul_left_comm]
theorem c13 {u b:Nat->Int}{z:Int}{V:Nat}(hb: ∀j,V<=j->b j=0): ∀U N,U+V<=N->ps (conv u b U) z N=ps u z U*ps b z V
 | 0,N,_=>by
  have:ps (conv u b 0) z N=0:=by
   have e:ps (conv u b 0) z N=ps (conv u b 0) z 0:=bE4 N (cG _) λ_ _ _=>rfl
   rw[e];rfl
  rw[this];show(0:Int)=0*_;rw[eQ]
 | U+1,N,h=>by
  have e:conv u b (U+1)=λm=>conv u b U m+u U*shF b U m:=rfl
  rw[e,dE3 (conv u b U) λm=>u U*shF b U m,c13 hb U N ad,dE4]
  obtain⟨m,rfl⟩: ∃m,N=U+m:=⟨N-U,ad⟩
  rw[c97,bE4 (n:=V) m ad λj a _=>hb j a]
  show _=(ps u z U+u U*z^U)*ps b z V
  rw[a20,hZ<|u U]
structure HorOk (n a b:Nat)(f:Nat->Int)(z:Int):Prop where
 fb: ∀j,(f j).natAbs<=2^a
 zb:z.natAbs<=2^b
 room:a+(b+1)*n<8000
 b8:b<8000
 n9:n<=200
def t9:Φ:=λds Q=> ∃(n a b:Nat) (f:Nat->Int) (z:Int),ds=[aJ<|rwF n f,.int z]/\HorOk n a b f z/\Q (.pu<|.int<|ps f z n)
def a38:US:=(aT (bG 2<|uC<|.int 0)<|aT (jJ (dB0<|a8 (aC 0) aM) (bU 3)<|bG 2<|uOp fY (uOp fL (aC 2)<|aC 1)<|aC 3)<|rJ 2)
theorem c14: ∀ds Q,t9 ds Q->a38 {nx:=λ_=>Q (.pu .non),rt:=Q} (init ["f","z","v","c"] ds):=by
 rintro ds Q ⟨n,a,b,f,z,rfl,ok,h⟩;unfold a38;simp only[aJ];show(aT _ _:US) _ [some<|.pu<|.tup<|(rwF n f).map .int,some<|.pu<|.int z,none,none];left;refine bP n (λk=>((rwF n f).map D.int).getD (n-1-k) .non) _ ?_
  (λk ρ=> ∃c,ρ=[some<|.pu<|.tup<|(rwF n f).map .int,some<|.pu<|.int z,some<|.pu<|.int<|hor f n z k,c]) ⟨none,rfl⟩ ?_ ?_
 .intro Q' q;left;rw[bY];exact q
 .rintro k ρ hk ⟨c,rfl⟩;rw[mZ aa]
  left
  have room:=ok.room;have:(b+1)*k<=(b+1)*n:=aN8 _ aa
  exact⟨ae,.inr ⟨Sm.pow (bS4 ok.fb ok.zb k) aa,Sm.pow ok.zb (by have:=ok.b8;omega)⟩,_,rfl⟩
 .rintro ρ ⟨c,rfl⟩;left;rw[dT8];exact h
theorem cR6 (f g:Nat->Int)(n m:Nat):shF (λj=>f j+g j) n m=shF f n m+shF g n m:=by
 unfold shF;dsimp only;split<;>lia
theorem cR7 (c:Int)(f:Nat->Int)(n m:Nat):shF (λj=>c*f j) n m=c*shF f n m:=by
 unfold shF;dsimp only;split
 .rfl
 .rw[b6]
theorem dE5 (h:Nat->Int)(n k m:Nat):shF (shF h n) k m=shF h (n+k) m:=by
 unfold shF
 by_cases c:k<=m
 .rw[a7 c]
  by_cases d:n<=m-k
  .rw[a7 d,a7 ad,show m-k-n=m-(n+k)by lia]
  .rw[a6 d,a6 ad]
 .rw[a6 c,a6 ad]
theorem bS6 (f g b:Nat->Int)(m:Nat): ∀n,conv (λj=>f j+g j) b n m=conv f b n m+conv g b n m
 | 0=>rfl
 | n+1=>by
  show conv (λj=>f j+g j) b n m+(f n+g n)*shF b n m=conv f b n m+f n*shF b n m+(conv g b n m+g n*shF b n m)
  rw[bS6 f g b m n,a20]
  lia
theorem aG8 (c:Int)(f b:Nat->Int)(m:Nat): ∀n,conv (λj=>c*f j) b n m=c*conv f b n m
 | 0=>by show(0:Int)=c*0;rw[b6]
 | n+1=>by
  show conv (λj=>c*f j) b n m+c*f n*shF b n m=c*(conv f b n m+f n*shF b n m)
  rw[aG8 c f b m n,qG,hZ]
theorem c98 (f b:Nat->Int)(k m:Nat): ∀n,conv (shF f k) b (k+n) m=shF (conv f b n) k m
 | 0=>by
  have e: ∀j,j<=k->conv (shF f k) b j m=0:=by
   intro j
   induction j with
   | zero=>intro _;rfl
   | succ j ih=>
    intro hj;show conv (shF f k) b j m+shF f k j*shF b j m=0;rw[ih ad]
    unfold shF;rw[a6 ad,eQ]
    rfl
  rw[Nat.add_zero,e k<|aG _];unfold shF;split<;>rfl
 | n+1=>by
  show conv (shF f k) b (k+n) m+shF f k (k+n)*shF b (k+n) m=shF (λm=>conv f b n m+f n*shF b n m) k m
  rw[c98 f b k m n,cR6,cR7,dE5,add_comm n k]
  congr 2
  unfold shF;rw[a7 ad,show k+n-k=n by lia]
theorem bE5 {u b c:Nat->Int}{V:Nat}(hb: ∀j,V<=j->b j=0)(m:Nat): ∀U,conv u (conv b c V) U m=conv (conv u b U) c (U+V) m
 | 0=>by
  have e: ∀n,conv (conv u b 0) c n m=0:=by
   intro n
   induction n with
   | zero=>rfl
   | succ n ih=>
    show conv (conv u b 0) c n m+0*shF c n m=0
    rw[ih,eQ];rfl
  rw[e];rfl
 | U+1=>by
  show conv u (conv b c V) U m+u U*shF (conv b c V) U m=conv (λm=>conv u b U m+u U*shF b U m) c (U+1+V) m
  rw[bS6,aG8,bE5 hb m U];have z1: ∀j,U+V<=j->j<U+1+V->conv u b U j=0:=λj h1 h2=>by
   have: ∀i,V<i+1->b i=0:=λi hi=>hb i ad
   by_cases v:V=0
   .subst v;have e:b=λ_=>0:=funext λj=>hb j (cG _)
    rw[e];have nul: ∀n,conv u (λ_=>0) n j=0:=by
     intro n
     induction n with
     | zero=>rfl
     | succ n ih=>
      show conv u (λ_=>0) n j+u n*shF (λ_=>0) n j=0
      rw[ih];unfold shF;split<;>rw[b6]<;>rfl
    exact nul U
   .exact oE (d:=V-1) (λi hi=>hb i ad) U j ad
  rw[aU8 (u:=conv u b U) (b:=c) (U:=U+V) (U+1+V) z1 ad]
  have z2: ∀j,U+V<=j->j<U+1+V->shF b U j=0:=λj h1 h2=>by
   unfold shF;rw[a7 ad]
   exact hb _ ad
  rw[aU8 (u:=shF b U) (b:=c) (U:=U+V) (U+1+V) z2 ad,c98]
theorem aG9 (u f g:Nat->Int)(m:Nat): ∀n,conv u (λj=>f j+g j) n m=conv u f n m+conv u g n m
 | 0=>rfl
 | n+1=>by
  show conv u (λj=>f j+g j) n m+u n*shF (λj=>f j+g j) n m=conv u f n m+u n*shF f n m+(conv u g n m+u n*shF g n m)
  rw[aG9 u f g m n,cR6,qG]
  lia
theorem aA5 (c:Int)(k:Nat)(hu: ∀j,n<=j->u j=0)(m:Nat):conv u (λj=>if j=k then c else 0) n m=c*shF u k m:=by
 have e: ∀n,conv u (λj=>if j=k then c else 0) n m=if k<=m/\m-k<n then c*u (m-k)else 0:=by
  intro n
  induction n with
  | zero=>rw[a6 aa];rfl
  | succ n ih=>
   show conv u (λj=>if j=k then c else 0) n m+u n*shF (λj=>if j=k then c else 0) n m=_
   have sh:shF (λj=>if j=k then c else 0) n m=if n<=m/\m-n=k then c else 0:=by
    unfold shF;dsimp only
    by_cases h3:n<=m
    .rw[a7 h3]
     by_cases h4:m-n=k
     .rw[a7 h4,a7 ⟨h3,h4⟩]
     .rw[a6 h4,a6 λz=>h4 z.2]
    .rw[a6 h3,a6 λz=>h3 z.1]
   rw[ih,sh]
   by_cases h1:k<=m/\m-k<n
   .rw[a7 h1,a6<|show ¬(n<=m/\m-n=k)by omega,a7<|show k<=m/\m-k<n+1 by omega,b6,eF]
   .rw[a6 h1]
    by_cases h2:k<=m/\m-k=n
    .rw[a7<|show n<=m/\m-n=k by omega,a7<|show k<=m/\m-k<n+1 by omega,h2.2,bQ,kE]
    .rw[a6<|show ¬(n<=m/\m-n=k)by omega,a6<|show ¬(k<=m/\m-k<n+1)by omega,b6]
     rfl
 rw[e n];unfold shF
 by_cases h1:k<=m
 .rw[a7 h1]
  by_cases h2:m-k<n
  .rw[a7 ⟨h1,h2⟩]
  .rw[a6 aa,hu _ aa,b6]
 .rw[a6 h1,a6 aa,b6]
theorem bS7 {b:Nat->Int}{V:Nat}(hu: ∀j,U<=j->u j=0)(hb: ∀j,V<=j->b j=0)(m:Nat):conv u b U m=conv b u V m:=by
 have e: ∀n,conv u b n m=conv b (λj=>if j<n then u j else 0) V m:=by
  intro n
  induction n with
  | zero=>
   have:(λj=>if j<0 then u j else 0)=λj=>if j=0 then(0:Int)else 0:=funext λj=>ae
   rw[this,aA5 0 0 hb,eQ];rfl
  | succ n ih=>
   have:(λj=>if j<n+1 then u j else 0)=λj=>(if j<n then u j else 0)+(if j=n then u n else 0):=funext λj=>by
    by_cases h1:j<n
    .rw[a7 ad,a7 h1,a6 ad,eF]
    .by_cases h2:j=n
     .subst h2;rw[a7 ad,a6 h1,a7 rfl,bQ]
     .rw[a6 ad,a6 h1,a6 h2];rfl
   rw[this,aG9 b (λj=>if j<n then u j else 0) λj=>if j=n then u n else 0,aA5 _ _ hb,<-ih]
   rfl
 rw[e U]
 congr 1
 funext j
 by_cases h:j<U
 .rw[a7 h]
 .rw[a6 h,hu j ad]
theorem emL (a b p:Int):a%p*b%p=a*b%p:=by rw[gF,kD,<-gF]
theorem emR (a b p:Int):a*(b%p)%p=a*b%p:=by rw[gF,kD,<-gF]
structure MP (p:Int)(n:Nat)(f:Nat->Int):Prop where
 top:f n=1
 hi: ∀j,n<j->f j=0
 rng: ∀j,0<=f j/\f j<p
noncomputable def tm (p:Int)(a b:Nat×(Nat->Int)):Nat×(Nat->Int):=(a.1+b.1,md p<|conv a.2 b.2 (a.1+1))
theorem c99 {p:Int}(u b:Nat->Int)(n m:Nat):conv (md p u) b n m%p=conv u b n m%p:=aU7 (λi j=>by show u i%p*b j%p=_;rw[emL]) n m
theorem dE6 {p:Int}(u b:Nat->Int)(n m:Nat):conv u (md p b) n m%p=conv u b n m%p:=aU7 (λi j=>by show u i*(b j%p)%p=_;rw[emR]) n m
theorem MP.tm {p:Int}{a b:Nat×(Nat->Int)}(hp:2<=p)(ha:MP p a.1 a.2)(hb:MP p b.1 b.2):MP p (M.tm p a b).1 (M.tm p a b).2:=by
 refine⟨?_,λj hj=> ?_,λj=>⟨dL _ ad,dJ _ ad⟩⟩
 .show conv a.2 b.2 (a.1+1) (a.1+b.1)%p=1
  rw[bE3 hb.hi,ha.top,hb.top];exact fA ac ad
 .show conv a.2 b.2 (a.1+1) j%p=0
  have hj':a.1+b.1<j:=hj;rw[oE (d:=b.1) hb.hi (a.1+1) j ad,eP]
theorem aA6 {p:Int}{a b c:Nat×(Nat->Int)}(hb: ∀j,b.1<j->b.2 j=0):tm p a (tm p b c)=tm p (tm p a b) c:=by
 refine kH (qC _ _ _).symm (funext λm=> ?_)
 show conv a.2 (md p<|conv b.2 c.2 (b.1+1)) (a.1+1) m%p=conv (md p<|conv a.2 b.2 (a.1+1)) c.2 (a.1+b.1+1) m%p
 rw[dE6,c99,bE5 (V:=b.1+1) (λj hj=>hb j hj) m<|a.1+1]
 rw[aU8 (u:=conv a.2 b.2 (a.1+1)) (b:=c.2) (U:=a.1+b.1+1) (a.1+1+(b.1+1)) (λj h1 h2=>oE (d:=b.1) hb (a.1+1) j ad) ad]
theorem bA1 {p:Int}{a b:Nat×(Nat->Int)}(ha: ∀j,a.1<j->a.2 j=0)(hb: ∀j,b.1<j->b.2 j=0):tm p a b=tm p b a:=by
 refine kH (add_comm _ _) (funext λm=> ?_)
 show conv a.2 b.2 (a.1+1) m%p=conv b.2 a.2 (b.1+1) m%p
 rw[bS7 (U:=a.1+1) (V:=b.1+1) (λj hj=>ha j hj) λj hj=>hb j hj]
noncomputable def tD:Nat×(Nat->Int):=(0,λj=>if j=0 then 1 else 0)
theorem MP.one {p:Int}(hp:2<=p):MP p tD.1 tD.2:=⟨rfl,λj hj=>a6 (by have:0<j:=hj;lia),λj=>by show 0<=(if j=0 then(1:Int)else 0)/\(if j=0 then(1:Int)else 0)<p;split<;>lia⟩
theorem dE7 {p:Int}{a:Nat×(Nat->Int)}(ha:MP p a.1 a.2):tm p tD a=a:=by
 refine kH (Nat.zero_add _) (funext λm=> ?_)
 show(0+(if(0:Nat)=0 then(1:Int)else 0)*shF a.2 0 m)%p=a.2 m
 rw[a7 rfl,a19,bQ];unfold shF;rw[a7<|cG _,u9];exact fA (ha.rng m).1 (ha.rng m).2
noncomputable def uU (c:Int):Nat×(Nat->Int):=(1,λj=>if j=0 then c else if j=1 then 1 else 0)
theorem MP.lin {p:Int}(hp:2<=p)(h0:0<=c)(h1:c<p):MP p (uU c).1 (uU c).2:=⟨rfl,λj hj=>by
  have:1<j:=hj;show(if j=0 then c else if j=1 then 1 else 0)=0;rw[a6 ad,a6 ad],λj=>by
  show 0<=(if j=0 then c else if j=1 then 1 else 0)/\(if j=0 then c else if j=1 then 1 else 0)<p
  split
  .lia
  .split<;>lia⟩
noncomputable def va (p:Int)(a:Nat×(Nat->Int))(z:Int):Int:=ps a.2 z (a.1+1)%p
theorem dZ3 (p:Int)(f:Nat->Int)(z:Int): ∀n,ps (md p f) z n%p=ps f z n%p
 | 0=>rfl
 | n+1=>by
  show(ps (md p f) z n+f n%p*z^n)%p=(ps f z n+f n*z^n)%p
  rw[iM,dZ3 p f z n,emL,<-iM]
theorem va_tm {p:Int}{a b:Nat×(Nat->Int)}(hb: ∀j,b.1<j->b.2 j=0)(z:Int):va p (tm p a b) z=va p a z*va p b z%p:=by
 show ps (md p<|conv a.2 b.2 (a.1+1)) z (a.1+b.1+1)%p=ps a.2 z (a.1+1)%p*(ps b.2 z (b.1+1)%p)%p
 rw[dZ3,<-gF];have h:=c13 (u:=a.2) (b:=b.2) (z:=z) (V:=b.1+1) (λj hj=>hb j hj) (a.1+1) (a.1+1+(b.1+1)) (aG _)
 rw[<-h,bE4 (n:=a.1+b.1+1) (a.1+1+(b.1+1)) ad λj h1 h2=>oE (d:=b.1) hb (a.1+1) j ad]
noncomputable def hqA (c:Int)(f:Nat->Int)(n:Nat):Nat->Int
 | 0=>f n
 | k+1=>f (n-1-k)-c*hqA c f n k
noncomputable def hq (c:Int)(f:Nat->Int)(n:Nat):Nat->Int:=λj=>if j<n then hqA c f n (n-1-j)else 0
theorem cR8 (hf: ∀j,n<j->f j=0)(j:Nat)(hj:1<=j):f j=hq c f n (j-1)+c*hq c f n j:=by
 unfold hq
 by_cases h1:j<n
 .rw[a7<|show j-1<n by lia,a7 h1,show n-1-(j-1)=(n-1-j)+1 by lia]
  show f j=f (n-1-(n-1-j))-c*hqA c f n (n-1-j)+c*hqA c f n (n-1-j)
  rw[show n-1-(n-1-j)=j by lia]
  lia
 .by_cases h2:j=n
  .subst h2;rw[a7<|show j-1<j by lia,a6 h1,show j-1-(j-1)=0 by lia,b6,eF]
   rfl
  .rw[a6<|show ¬j-1<n by lia,a6 h1,hf j ad,b6]
   rfl
theorem dZ4 {c:Int}{f:Nat->Int}{n:Nat}(hf: ∀j,n<j->f j=0): ∀m,ps f (-c) (m+1)=f 0-c*hq c f n 0+c*hq c f n m*(-c)^m
 | 0=>by
  show 0+f 0*(-c)^0=_
  rw[qF,kF,kF]
  lia
 | m+1=>by
  show ps f (-c) (m+1)+f (m+1)*(-c)^(m+1)=_
  rw[dZ4 hf m,cR8 (c:=c) hf (m+1) ad,iK,a15]
  grind
theorem hq_at (hf: ∀j,n<j->f j=0):ps f (-c) (n+1)=f 0-c*hq c f n 0:=by
 rw[dZ4 hf n];have:hq c f n n=0:=by unfold hq;rw[a6<|d3 _]
 rw[this,b6,eQ,eF]
theorem dE8 (c:Int)(hu: ∀j,n<=j->u j=0)(m:Nat):conv u (uU c).2 n m=c*u m+(if m=0 then 0 else u (m-1)):=by
 have e:(uU c).2=λj=>(if j=0 then c else 0)+(if j=1 then 1 else 0):=funext λj=>by
  show(if j=0 then c else if j=1 then 1 else 0)=_
  by_cases h0:j=0
  .subst h0;simp
  .rw[a6 h0,a6 h0,bQ]
 rw[e,aG9 u (λj=>if j=0 then c else 0) λj=>if j=1 then 1 else 0,aA5 c 0 hu,aA5 1 1 hu,a19]
 unfold shF;rw[a7<|cG _,u9]
 congr 1
 by_cases h0:m=0
 .rw[a7 h0,a6 ad]
 .rw[a6 h0,a7 ad]
theorem dT9 (hf: ∀j,n<j->f j=0)(m:Nat):f m=conv (hq c f n) (uU c).2 n m+(if m=0 then f 0-c*hq c f n 0 else 0):=by
 rw[dE8 c (λj hj=>by unfold hq;rw[a6 ad])]
 by_cases h0:m=0
 .subst h0;rw[a7 rfl,a7 rfl];lia
 .rw[a6 h0,a6 h0,cR8 (c:=c) hf m ad];lia
noncomputable def powT (p:Int)(a g:Nat×(Nat->Int)):Nat->Nat×(Nat->Int)
 | 0=>a
 | k+1=>tm p (powT p a g k) g
theorem MP.powT {p:Int}{a g:Nat×(Nat->Int)}(hp:2<=p)(ha:MP p a.1 a.2)(hg:MP p g.1 g.2): ∀k,MP p (M.powT p a g k).1 (M.powT p a g k).2
 | 0=>ha
 | k+1=>MP.tm hp (MP.powT hp ha hg k) hg
theorem aV0 (p:Int)(a g:Nat×(Nat->Int)): ∀k,(powT p a g k).1=a.1+g.1*k
 | 0=>rfl
 | k+1=>by
  show(powT p a g k).1+g.1=_
  rw[aV0 p a g k,a13,qC]
noncomputable def allT (p:Int)(a:Nat×(Nat->Int)):List ((Nat×(Nat->Int))×Nat)->Nat×(Nat->Int)
 | []=>a
 | x::l=>allT p (powT p a x.1 x.2) l
theorem wA (p:Int): ∀(l m:List ((Nat×(Nat->Int))×Nat)) (a:Nat×(Nat->Int)),allT p a (l++m)=allT p (allT p a l) m
 | [],m,a=>rfl
 | x::l,m,a=>wA p l m _
theorem MP.allT {p:Int}(hp:2<=p): ∀(l:List ((Nat×(Nat->Int))×Nat)) {a:Nat×(Nat->Int)},MP p a.1 a.2->(∀x∈l,MP p x.1.1 x.1.2)->MP p (M.allT p a l).1 (M.allT p a l).2
 | [],a,ha,_=>ha
 | x::l,a,ha,h=>MP.allT hp l (MP.powT hp ha (h x<|.head _) x.2) λy hy=>h y (.tail _ hy)
theorem cA0 (p:Int): ∀(l:List ((Nat×(Nat->Int))×Nat)) (a:Nat×(Nat->Int)) (x:(Nat×(Nat->Int))×Nat),x∈l->a.1+x.1.1*x.2<=(allT p a l).1
 | y::l,a,x,hx=>by
  show _<=(allT p (powT p a y.1 y.2) l).1
  have mono: ∀(l:List ((Nat×(Nat->Int))×Nat)) (a:Nat×(Nat->Int)),a.1<=(allT p a l).1:=by
   intro l
   induction l with
   | nil=>intro a;exact aG _
   | cons z l ih=>intro a;exact aI (by rw[aV0];lia) (ih<|powT p a z.1 z.2)
  rcases aZ.mp hx with rfl|hx
  .have:=mono l (powT p a x.1 x.2);rw[aV0]at this;exact this
  .have:=cA0 p l (powT p a y.1 y.2) x hx;rw[aV0]at this
   lia
noncomputable def aA7 (x:(Nat×(Nat->Int))×Nat):D:= .tup [aJ<|rwF (x.1.1+1) x.1.2,.int (x.2:Int)]
noncomputable def lnP (x:Int×Nat):(Nat×(Nat->Int))×Nat:=(uU x.1,x.2)
structure LK (p:Int)(F:Nat×(Nat->Int))(C:Nat)(cs:List (Int×Nat))(L:Nat×(Nat->Int)):Prop where
 prod:F=tm p (allT p tD<|cs.map lnP) L
 mp:MP p L.1 L.2
 asc:cs.Pairwise λa b=>a.1<b.1
 mem: ∀x∈cs,0<=x.1/\x.1< (C:Int)/\1<=x.2
 nr: ∀c:Nat,c<C->va p L (-(c:Int))≠0
 len:cs.length<=C
theorem cR9 {p:Int}(hp:2<=p){cs:List (Int×Nat)}(h: ∀x∈cs,0<=x.1/\x.1<p): ∀y∈cs.map lnP,MP p y.1.1 y.1.2:=by
 intro y hy;obtain⟨x,hx,rfl⟩:=gE.mp hy;exact MP.lin hp (h x hx).1 (h x hx).2
def uW:Φ:=λds Q=> ∃(n:Nat) (f:Nat->Int) (p:Int),ds=[aJ<|rwF (n+1) f,.int p]/\n<=40/\Pr p/\MP p n f/\ ∀cs L,LK p (n,f) p.toNat cs L->Q (.pu<|.tup [.lst<|cs.map λx=>aA7 (lnP x),aJ<|rwF (L.1+1) L.2])
def a67:US:=(cV<|i5<|a8 (aC 2)<|a8 (aC 3) aM)
def a68:US:=(aT (jJ (fP<|a8 (aC 1) aM) (bU 4)<|aT (bG 5<|uC<|.int 0)<|aT (bX9 (dQ<|uOp (iV false) (uOp kW (aR t9<|a8 (aC 3)<|a8 (pG<|aC 4) aM)<|aC 1)<|uC<|.int 0)<|aT (bG 3<|uIx (uV<|aR sD<|a8 (aC 3)<|a8 (i5<|a8 (aC 4)<|a8 (uC<|.int 1) aM)<|a8 (aC 1) aM)<|uC<|.int 0)<|c64 5 (gI2 λi j Q=>Q (.pu<|.int<|i+j))<|uC<|.int 1)<|fX (dQ<|uOp (wP λi j=>decide (j<i)) (aC 5)<|uC<|.int 0) (aP4 2<|i5<|a8 (i5<|a8 (aC 4)<|a8 (uC<|.int 1) aM)<|a8 (aC 5) aM) dN) a67)
def a69:US:=(aT (bG 3<|aC 0) a68)
def uX:US:=(aT (bG 2<|gT aM) a69)
theorem dE9 {p:Int}(pp:Pr p){L:Nat×(Nat->Int)}(mp:MP p L.1 L.2)(c0:0<=c)(c1:c<p)(hz:va p L (-c)=0){t:Int}(ht:t*md p (uU c).2 1%p=1)(t0:0<=t)(t1:t<p) :
  1<=L.1/\ ∃u:Nat->Int,MP p (L.1-1) u/\L=tm p (L.1-1,u) (uU c)/\
   (let b:=λj=>t*md p (uU c).2 j%p
    let LA:=gM (md p L.2) (L.1+1)
    let q:=divQ b 1 (LA-1) (md p L.2)
    rwF (gM (λj=>t*q j%p)<|gM q<|LA-1) (λj=>t*q j%p)=rwF L.1 u):=by
 have p2:=pp.lo;have mdL:md p L.2=L.2:=funext λj=>fA (mp.rng j).1 (mp.rng j).2
 have ml:=MP.lin p2 c0 c1;have mdG:md p (uU c).2=(uU c).2:=funext λj=>fA (ml.rng j).1 (ml.rng j).2
 have l1:1<=L.1:=by
  refine Nat.pos_of_ne_zero λz=> ?_
  unfold va at hz;rw[z]at hz;have e:ps L.2 (-c) (0+1)=L.2 0*(-c)^0:=by show 0+L.2 0*(-c)^0=_;lia
  have e2:L.2 0=1:=by have:=mp.top;rw[z]at this;exact this
  rw[e,e2,qF,kF,fA ac ad]at hz
  cases hz
 have r0:(L.2 0-c*hq c L.2 L.1 0)%p=0:=by rw[<-hq_at mp.hi];exact hz
 have fm: ∀m,L.2 m=conv (md p<|hq c L.2 L.1) (uU c).2 L.1 m%p:=λm=>by
  have h:=dT9 (c:=c) mp.hi m;rw[c99];have e:L.2 m%p=L.2 m:=fA (mp.rng m).1 (mp.rng m).2;rw[<-e]
  conv=>lhs;rw[h]
  by_cases h0:m=0
  .rw[a7 h0,iM,r0,eF,kD]
  .rw[a6 h0,eF]
 have ut:md p (hq c L.2 L.1) (L.1-1)=1:=by
  show hq c L.2 L.1 (L.1-1)%p=1
  unfold hq;rw[a7 ad,sub_self]
  show L.2 L.1%p=1
  rw[mp.top];exact fA ac ad
 have uz: ∀j,L.1<=j->md p (hq c L.2 L.1) j=0:=λj hj=>by
  show hq c L.2 L.1 j%p=0
  unfold hq;rw[a6 ad,eP]
 have ur: ∀j,0<=md p (hq c L.2 L.1) j/\md p (hq c L.2 L.1) j<p:=λj=>⟨dL _ ad,dJ _ ad⟩
 refine⟨l1,md p<|hq c L.2 L.1,⟨ut,λj hj=>uz j ad,ur⟩,?_,?_⟩
 .refine kH (show L.1=L.1-1+1 by lia) (funext λm=> ?_)
  show L.2 m=conv (md p<|hq c L.2 L.1) (uU c).2 (L.1-1+1) m%p
  rw[show L.1-1+1=L.1 by lia]
  exact fm m
 .have mm:=dE0 (p:=p) (t:=t) (B0:=md p (uU c).2) (u:=md p (hq c L.2 L.1)) (low:=λ_=>0) (A:=md p L.2) (d:=1) (U:=L.1) (n:=L.1+1) p2 (λj hj=>by rw[mdG];exact ml.hi j hj) (.inr (by rw[ut];decide)) ur uz (λ_ _=>rfl) (λ_=>⟨ac,ad⟩) ht (λm=>by rw[mdL,mdG,eF];exact fm m) (aG _)
  obtain⟨_,e1,_,_⟩:=mm;have eLA:gM (md p L.2) (L.1+1)=L.1+1:=t7 (aG _) (λm h1 h2=>ad) (.inr (by rw[mdL,iK,mp.top];decide))
  rw[eLA]at e1⊢;have eu:(λj=>t*divQ (λj=>t*md p (uU c).2 j%p) 1 (L.1+1-1) (md p L.2) j%p)=md p (hq c L.2 L.1):=funext e1
  dsimp only;rw[eu];have eq:gM (divQ (λj=>t*md p (uU c).2 j%p) 1 (L.1+1-1)<|md p L.2) (L.1+1-1)=L.1:=by
   rw[iK];refine t7 (aG _) (λm h1 h2=>ad) (.inr λz=> ?_)
   have h:=e1 (L.1-1);rw[iK]at h;rw[z,b6,eP,ut]at h;cases h
  rw[eq,t7 (k:=L.1) (aG _) (λm h1 h2=>ad)<|.inr (by rw[ut];decide)]
theorem dF0 {p:Int}{a b:Nat×(Nat->Int)}(hb: ∀j,b.1<j->b.2 j=0)(h:va p (tm p a b) z≠0):va p a z≠0/\va p b z≠0:=by
 rw[va_tm hb]at h;refine⟨λe=>h ?_,λe=>h ?_⟩
 .rw[e,eQ,eP]
 .rw[e,b6,eP]
theorem dF1 {p:Int}(pp:Pr p)(h:MP p n f)(j:Nat):(f j).natAbs<=2^8:=by
 have h1:=h.rng j;have h2:=pp.hi;have:(2:Nat)^8=256:=rfl
 lia
theorem bE6: ∀ds Q,uW ds Q->uX {nx:=λ_=>Q (.pu .non),rt:=Q} (init ["f","p","a","l","c","o"] ds):=by
 rintro ds Q ⟨n,f,p,rfl,n4,pp,mp,h⟩;have p2:=pp.lo;have p3:=pp.hi;unfold uX;show(aT _ _:US) _ [some<|.pu<|aJ<|rwF (n+1) f,some<|.pu<|.int p,none,none,none,none];rw[aO];left;refine⟨ac,?_⟩
 unfold a69;rw[aO];left;unfold a68;rw[aO];refine bP p.toNat (λi=> .int (0+i)) _ ?_
  (λi ρ=> ∃(cs:List (Int×Nat)) (L:Nat×(Nat->Int)) (x y:Option B),ρ=[some<|.pu<|aJ<|rwF (n+1) f,some<|.pu<|.int p,some<|.ow<|cs.map λx=>aA7 (lnP x),some<|.pu<|aJ<|rwF (L.1+1) L.2,x,y]/\LK p (n,f) i cs L)
  ⟨[],(n,f),none,none,rfl,(dE7 (p:=p) (a:=(n,f)) mp).symm,mp,.nil,ae,ae,aG _⟩ ?_ ?_
 .intro Q' q;left;refine⟨⟨ad,ad⟩,?_⟩
  exact q
 .rintro i ρ hi ⟨cs,L,x,y,rfl,lk⟩;have hLn:L.1<=n:=by
   have:=fE Prod.fst lk.prod;have e:n=(allT p tD<|cs.map lnP).1+L.1:=this
   lia
  have mcs:=cR9 p2 (cs:=cs) (λx hx=>⟨(lk.mem x hx).1,by have:=(lk.mem x hx).2.1;lia⟩)
  have mA:=MP.allT p2 (cs.map lnP) (MP.one p2) mcs;have mlin:=MP.lin p2 (c:=(i:Int)) ad ad
  rw[bQ];left;refine⟨ae,?_⟩
  refine⟨λk ρ=> ∃(o:Nat) (L':Nat×(Nat->Int)),ρ=[some<|.pu<|aJ<|rwF (n+1) f,some<|.pu<|.int p,some<|.ow<|cs.map λx=>aA7 (lnP x),some<|.pu<|aJ<|rwF (L'.1+1) L'.2,some<|.pu<|.int (i:Int),some<|.pu<|.int (o:Int)]/\k=L'.1/\L'.1<=n/\(n,f)=tm p (powT p (allT p tD<|cs.map lnP) (uU (i:Int)) o) L'/\MP p L'.1 L'.2/\ ∀c:Nat,c<i->va p L' (-(c:Int))≠0,⟨L.1,0,L,rfl,rfl,hLn,lk.prod,lk.mp,lk.nr⟩,?_⟩
  rintro k ρ ⟨o,L',rfl,rfl,hL',e,mp',nr⟩;left;refine⟨L'.1+1,8,8,L'.2,-(i:Int),rfl,⟨dF1 pp mp',by have:(2:Nat)^8=256:=rfl;lia,ad,ac,ad⟩,?_⟩
  left
  refine⟨ad,?_⟩
  rw[d5 _ ad]
  by_cases c:va p L' (-(i:Int))=0
  .rw[a7<|show ps L'.2 (-(i:Int)) (L'.1+1)%p=0 from c]
   refine⟨ac,L'.1+1,2,1,L'.2,(uU (i:Int)).2,p,rfl,ad,ac,pp,λj hj=>mlin.hi j hj,ac,λj hj=>by show(uU (i:Int)).2 j%p=0;rw[mlin.hi j hj,eP],by show(1:Int)%p≠0;rw[fA ac ad];decide,λt ht t0 t1=> ?_⟩
   obtain⟨l1,u,mu,eu,er⟩:=dE9 pp mp' (c:=(i:Int)) ad ad c ht t0 t1
   dsimp only at er⊢;rw[er,mY];dsimp only;have eL:rwF L'.1 u=rwF (L'.1-1+1) u:=by rw[show L'.1-1+1=L'.1 by lia]
   rw[eL];refine⟨L'.1-1,ad,o+1,(L'.1-1,u),by rw[Int.natCast_succ],rfl,by show L'.1-1<=n;lia,?_,mu,λc' hc'=> ?_⟩
   .show(n,f)=tm p (tm p (powT p (allT p tD<|cs.map lnP) (uU (i:Int)) o)<|uU (i:Int)) (L'.1-1,u)
    rw[e]
    conv=>lhs;rw[eu]
    rw[bA1 (a:=(L'.1-1,u)) (λj hj=>mu.hi j hj) mlin.hi,aA6 mlin.hi]
   .have:=nr c' hc';rw[eu]at this;exact(dF0 mlin.hi this).1
  .rw[a6<|show ¬ps L'.2 (-(i:Int)) (L'.1+1)%p=0 from c]
   have nr': ∀c:Nat,c<i+1->va p L' (-(c:Int))≠0:=λc' hc'=>by
    by_cases h1:c'<i
    .exact nr c' h1
    .rw[show c'=i by lia];exact c
   by_cases c2:(0:Int)< (o:Int)
   .rw[a7 c2];refine⟨ac,ac,?_,cs++[((i:Int),o)],L',_,_,by rw[cE];rfl,?_,mp',?_,?_,nr',?_⟩
    .rw[aP];exact nO lk.len (b9 hi<|aI (show p.toNat<=200 by lia) ac)
    .rw[cE,wA];exact e
    .rw[List.pairwise_append];refine⟨lk.asc,zG _ _,λa ha b hb=> ?_⟩
     rw[j8.mp hb];exact(lk.mem a ha).2.1
    .intro z hz;rcases eE.mp hz with hz|hz
     .have:=lk.mem z hz;exact⟨this.1,ad,this.2.2⟩
     .rw[j8.mp hz];exact⟨by show(0:Int)<=(i:Int);lia,by show(i:Int)< ((i+1:Nat):Int);lia,by show 1<=o;lia⟩
    .rw[cS];exact Nat.succ_le_succ lk.len
   .rw[a6 c2];have o0:o=0:=ad
    subst o0;exact⟨cs,L',_,_,rfl,e,mp',lk.asc,λz hz=>⟨(lk.mem z hz).1,by have:=(lk.mem z hz).2.1;lia,(lk.mem z hz).2.2⟩,nr',zW lk.len⟩
 .rintro ρ ⟨cs,L,x,y,rfl,lk⟩;dsimp only;unfold a67;left;exact⟨ac,h cs L lk⟩
noncomputable def quF (v u:Int):Nat×(Nat->Int):=(2,λj=>if j=0 then v else if j=1 then u else if j=2 then 1 else 0)
theorem MP.qu {p v u:Int}(hp:2<=p)(v0:0<=v)(v1:v<p)(u0:0<=u)(u1:u<p):MP p (quF v u).1 (quF v u).2:=⟨rfl,λj hj=>by
  have:2<j:=hj;show(if j=0 then v else if j=1 then u else if j=2 then 1 else 0)=0;rw[a6 ad,a6 ad,a6 ad],λj=>by
  show 0<=(if j=0 then v else if j=1 then u else if j=2 then 1 else 0)/\(if j=0 then v else if j=1 then u else if j=2 then 1 else 0)<p
  split
  .lia
  .split
   .lia
   .split<;>lia⟩
theorem dU0 (v u w s:Int):conv (quF v u).2 (quF w s).2 3 0=v*w/\conv (quF v u).2 (quF w s).2 3 1=v*s+u*w/\conv (quF v u).2 (quF w s).2 3 2=v+u*s+w/\conv (quF v u).2 (quF w s).2 3 3=u+s:=by
 refine⟨?_,?_,?_,?_⟩<;>simp[conv,shF,quF]
theorem dZ5 {p:Int}(mp:MP p 4 f){v u:Int}(m1:MP p (quF v u).1 (quF v u).2)(m2:MP p (quF w s).1 (quF w s).2)(hp:2<=p) :
  ((4,f):Nat×(Nat->Int))=tm p (quF v u) (quF w s)↔f 0=v*w%p/\f 1=(v*s+u*w)%p/\f 2=(v+u*s+w)%p/\f 3=(u+s)%p:=by
 obtain⟨e0,e1,e2,e3⟩:=dU0 v u w s;have mt:=MP.tm hp m1 m2;constructor
 .intro e;have h: ∀m,f m=conv (quF v u).2 (quF w s).2 3 m%p:=λm=>congrFun (fE Prod.snd e) m
  exact⟨by rw[h 0,e0],by rw[h 1,e1],by rw[h 2,e2],by rw[h 3,e3]⟩
 .rintro⟨h0,h1,h2,h3⟩;refine kH rfl (funext λm=> ?_)
  show f m=conv (quF v u).2 (quF w s).2 3 m%p
  match m with
  | 0=>rw[h0,e0]
  | 1=>rw[h1,e1]
  | 2=>rw[h2,e2]
  | 3=>rw[h3,e3]
  | 4=>exact mp.top.trans mt.top.symm
  | m+5=>exact(mp.hi _ ad).trans (mt.hi (m+5)<|show 2+2<m+5 by lia).symm
def NoQ (p:Int)(F:Nat×(Nat->Int)):Prop:= ∀v u w s:Int,0<=v->v<p->0<=u->u<p->0<=w->w<p->0<=s->s<p->F≠tm p (quF v u) (quF w s)
def sF:Φ:=λds Q=> ∃(f:Nat->Int) (p:Int),ds=[aJ<|rwF 5 f,.int p]/\Pr p/\MP p 4 f/\
 (∀v u w s:Int,0<=v->v<p->0<=u->u<p->0<=w->w<p->0<=s->s<p->((4,f):Nat×(Nat->Int))=tm p (quF v u) (quF w s)->Q (.ow [aJ [v,u,1],aJ [w,s,1]]))/\(NoQ p (4,f)->Q (.ow []))
def yN:US:=(cV<|gT aM)
def sG:US:=(aT (jJ (fP<|a8 (aC 1) aM) (bU 2)<|aT (bG 3<|uOp kW (uOp M.gSub (uIx (aX 0)<|uC<|.int 3)<|aC 2)<|aC 1)<|aT (bG 4<|uOp M.gSub (uIx (aX 0)<|uC<|.int 2)<|uOp fL (aC 2)<|aC 3)<|jJ (fP<|a8 (aC 1) aM) (bU 5)<|aT (bG 6<|uOp kW (uOp M.gSub (aC 4)<|aC 5)<|aC 1)<|fX (bX5 (dQ<|uOp (iV false) (uOp kW (uOp fL (aC 5)<|aC 6)<|aC 1)<|uIx (aX 0)<|uC<|.int 0)<|dQ<|uOp (iV false) (uOp kW (uOp fY (uOp fL (aC 2)<|aC 6)<|uOp fL (aC 5)<|aC 3)<|aC 1)<|uIx (aX 0)<|uC<|.int 1) (cV<|gT<|a8 (i5<|a8 (aC 5)<|a8 (aC 2)<|a8 (uC<|.int 1) aM)<|a8 (i5<|a8 (aC 6)<|a8 (aC 3)<|a8 (uC<|.int 1) aM) aM) dN) yN)
def d05 (p:Int)(f:Nat->Int)(u v:Int):Prop:=v*((f 2-u*((f 3-u)%p)-v)%p)%p=f 0/\(u*((f 2-u*((f 3-u)%p)-v)%p)+v*((f 3-u)%p))%p=f 1
theorem cA1 {p:Int}(h0:0<=a)(h1:a<p)(h:x=(a+b)%p):(x-b)%p=a:=by
 rw[h,a14,kD,<-a14,Int.add_sub_cancel];exact fA h0 h1
theorem b75: ∀ds Q,sF ds Q->sG {nx:=λ_=>Q (.pu .non),rt:=Q} (init ["f","p","u","s","t","v","w"] ds):=by
 rintro ds Q ⟨f,p,rfl,pp,mp,yes,no⟩;have p2:=pp.lo;have p3:=pp.hi;have a0:atI ((rwF 5 f).map D.int) 0=some (.int<|f 0):=jO (i:=0) ac
 have a1:atI ((rwF 5 f).map D.int) 1=some (.int<|f 1):=jO (i:=1) ac
 have a2:atI ((rwF 5 f).map D.int) 2=some (.int<|f 2):=jO (i:=2) ac
 have a3:atI ((rwF 5 f).map D.int) 3=some (.int<|f 3):=jO (i:=3) ac
 unfold sG;simp only[aJ];show(aT _ _:US) _ [some<|.pu<|.tup<|(rwF 5 f).map .int,some<|.pu<|.int p,none,none,none,none,none];rw[aO];refine bP p.toNat (λi=> .int (0+i)) _ ?_
  (λi ρ=> ∃x y z a b,ρ=[some<|.pu<|.tup<|(rwF 5 f).map .int,some<|.pu<|.int p,x,y,z,a,b]/\ ∀u v:Nat,u<i->v<p.toNat-> ¬d05 p f (u:Int) (v:Int))
  ⟨none,none,none,none,none,rfl,λu v hu=>ad⟩ ?_ ?_
 .intro Q' q;left;refine⟨⟨ad,ad⟩,?_⟩
  exact q
 .rintro i ρ hi ⟨x,y,z,a,b,rfl,nh⟩;rw[bQ];left;rw[a3];dsimp only;refine⟨ae,ad,?_⟩
  rw[d5 _ ad,a2]
  dsimp only;have s0:=dL (f 3-(i:Int)) (show p≠0 by lia)
  have s1:=dJ (f 3-(i:Int)) (show 0<p by lia)
  generalize hS:(f 3-(i:Int))%p=S at *;refine⟨cmL ad ad,?_⟩
  refine bP p.toNat (λi=> .int (0+i)) _ ?_
   (λj ρ=> ∃a b,ρ=[some<|.pu<|.tup<|(rwF 5 f).map .int,some<|.pu<|.int p,some<|.pu<|.int (i:Int),some<|.pu<|.int S,some<|.pu<|.int<|f 2-(i:Int)*S,a,b]/\ ∀v:Nat,v<j-> ¬d05 p f (i:Int) (v:Int))
   ⟨a,b,rfl,λv hv=>ad⟩ ?_ ?_
  .intro Q' q;left;refine⟨⟨ad,ad⟩,?_⟩
   exact q
  .rintro j ρ hj ⟨a,b,rfl,nj⟩;rw[bQ];left;refine⟨ae,ad,?_⟩
   rw[d5 _ ad]
   have w0:=dL (f 2-(i:Int)*S-(j:Int)) (show p≠0 by lia)
   have w1:=dJ (f 2-(i:Int)*S-(j:Int)) (show 0<p by lia)
   generalize hW:(f 2-(i:Int)*S-(j:Int))%p=W at *;refine⟨cmL ad ad,ad,?_⟩
   rw[d5 _ ad,a0]
   dsimp only
   have step: ¬d05 p f (i:Int) (j:Int)-> ∃a b,[some<|B.pu<|.tup<|(rwF 5 f).map .int,some<|.pu<|.int p,some<|.pu<|.int (i:Int),some<|.pu<|.int S,some<|.pu<|.int<|f 2-(i:Int)*S,some<|.pu<|.int (j:Int),some<|.pu<|.int W]=[some<|.pu<|.tup<|(rwF 5 f).map .int,some<|.pu<|.int p,some<|.pu<|.int (i:Int),some<|.pu<|.int S,some<|.pu<|.int<|f 2-(i:Int)*S,a,b]/\ ∀v:Nat,v<j+1-> ¬d05 p f (i:Int) (v:Int):=λnh'=>⟨_,_,rfl,λv hv=>by
    by_cases h1:v<j
    .exact nj v h1
    .rw[show v=j by lia];exact nh'⟩
   by_cases c1:(j:Int)*W%p=f 0
   .rw[a7 c1];refine⟨cmL ad ad,cmL ad ad,ad,?_⟩
    rw[d5 _ ad,a1]
    dsimp only
    by_cases c2:((i:Int)*W+(j:Int)*S)%p=f 1
    .rw[a7 c2];refine⟨ac,ac,ac,yes (j:Int) (i:Int) W S ad ad ad ad w0 w1 s0 s1<|(dZ5 mp (MP.qu p2 ad ad ad ad) (MP.qu p2 w0 w1 s0 s1) p2).mpr ⟨c1.symm,by rw[<-c2,a16],?_,?_⟩⟩
     .rw[<-hW,iM,kD,<-iM];have:(j:Int)+(i:Int)*S+(f 2-(i:Int)*S-(j:Int))=f 2:=ad
      rw[this];exact(fA (mp.rng 2).1 (mp.rng 2).2).symm
     .rw[<-hS,iM,kD,<-iM];have:(i:Int)+(f 3-(i:Int))=f 3:=ad
      rw[this];exact(fA (mp.rng 3).1 (mp.rng 3).2).symm
    .rw[a6 c2];exact step λz=>c2 (by have:=z.2;unfold d05 at z;rw[hS,hW]at this;exact this)
   .rw[a6 c1];exact step λz=>c1 (by have:=z.1;rw[hS,hW]at this;exact this)
  .rintro ρ ⟨a,b,rfl,nj⟩;refine⟨_,_,_,_,_,rfl,λu v hu hv=> ?_⟩
   by_cases h1:u<i
   .exact nh u v h1 hv
   .rw[show u=i by lia];exact nj v hv
 .rintro ρ ⟨x,y,z,a,b,rfl,nh⟩;dsimp only;unfold yN;left;refine⟨ac,no ?_⟩
  intro v u w s v0 v1 u0 u1 w0 w1 s0 s1 e;obtain⟨h0,h1,h2,h3⟩:=(dZ5 mp (MP.qu p2 v0 v1 u0 u1) (MP.qu p2 w0 w1 s0 s1) p2).mp e;obtain⟨v',rfl⟩: ∃v':Nat,v=(v':Int):=⟨v.toNat,ad⟩
  obtain⟨u',rfl⟩: ∃u':Nat,u=(u':Int):=⟨u.toNat,ad⟩
  refine nh u' v' ad ad ?_
  have es:(f 3-(u':Int))%p=s:=cA1 s0 s1 (by rw[h3,a16])
  have ew:(f 2-(u':Int)*s-(v':Int))%p=w:=by
   have:=cA1 (x:=f 2) (b:=(v':Int)+(u':Int)*s) w0 w1 (by rw[h2,a16 w])
   rw[<-this]
   congr 1
   lia
  unfold d05;rw[es,ew];exact⟨h0.symm,by rw[h1,a16]⟩
theorem at0 {a b:D}:atI [a,b] 0=some a:=d4 (j:=0) rfl
theorem at1 {a b:D}:atI [a,b] 1=some b:=d4 (j:=1) rfl
def NoR (p:Int)(F:Nat×(Nat->Int)):Prop:= ∀c:Nat,c<p.toNat->va p F (-(c:Int))≠0
def ltP (x y:(Nat×(Nat->Int))×Nat):Prop:=x.1.1<y.1.1\/(x.1.1=y.1.1/\ltL (rwF (x.1.1+1) x.1.2) (rwF (y.1.1+1) y.1.2)=true)
structure RL (p:Int)(F:Nat×(Nat->Int))(rs:List ((Nat×(Nat->Int))×Nat)):Prop where
 prod: ∀a:Nat×(Nat->Int),MP p a.1 a.2->allT p a rs=tm p a F
 mem: ∀x∈rs,MP p x.1.1 x.1.2/\2<=x.1.1/\x.1.1<=4/\1<=x.2/\x.2<=2/\NoR p x.1/\(x.1.1=4->NoQ p x.1)
 ord:rs.Pairwise ltP
 len:rs.length<=2
theorem dU1 {p:Int}(hp:2<=p){a:Nat×(Nat->Int)}(ha:MP p a.1 a.2):tm p a tD=a:=by
 rw[bA1 ha.hi (MP.one hp).hi,dE7 ha]
theorem RL.single {p:Int}(mp:MP p F.1 F.2)(h2:2<=F.1)(h4:F.1<=4)(nr:NoR p F)(nq:F.1=4->NoQ p F):RL p F [(F,1)]:=
 ⟨λa _=>rfl,λx hx=>by rw[j8.mp hx];exact⟨mp,h2,h4,aG _,show 1<=2 by decide,nr,nq⟩,zG _ _,show 1<=2 by decide⟩
theorem row_lt {v u:Int}(h: ¬(v=w/\u=s)):ltL [w,s,1] [v,u,1]=false->ltL [v,u,1] [w,s,1]=true:=by
 unfold ltL
 by_cases c:v=w
 .rw[a7 c,a7 c.symm];unfold ltL;have:u≠s:=λz=>h ⟨c,z⟩
  rw[a6 this,a6 λz=>this z.symm]
  simp only[aM3,gC]
  lia
 .rw[a6 c,a6 λz=>c z.symm]
  simp only[aM3,gC]
  lia
def mO:Φ:=λds Q=> ∃(n:Nat) (f:Nat->Int) (p:Int),ds=[aJ<|rwF (n+1) f,.int p]/\n<=4/\Pr p/\MP p n f/\NoR p (n,f)/\ ∀rs,RL p (n,f) rs->Q (.ow<|rs.map aA7)
def rM:US:=(cV<|dO [] [none,none] 1 (fG<|aR cJ6<|a8 (aC 2) aM) (bU 0) (λρ Q=>Q true ρ)<|i5<|a8 (aC 0)<|a8 (uC<|.int 1) aM)
def rN:US:=(aT (fX (dQ<|uOp (b71 false) (uIx (aX 2)<|uC<|.int 0)<|uIx (aX 2)<|uC<|.int 1) (cV<|gT<|a8 (i5<|a8 (uIx (aX 2)<|uC<|.int 0)<|a8 (uC<|.int 2) aM) aM) dN) rM)
def j5:US:=(aT (fX (dQ<|uOp (iV false) (lZ<|aX 2)<|uC<|.int 0) (cV<|gT<|a8 (i5<|a8 (aC 0)<|a8 (uC<|.int 1) aM) aM) dN) rN)
def rO:US:=(aT (bG 2<|uIf (dQ<|uOp (iV false) (lZ<|aX 0)<|uC<|.int 5) (aR sF<|a8 (aC 0)<|a8 (aC 1) aM)<|gT aM) j5)
def mQ:US:=(aT (fX (dQ<|uOp (iV false) (lZ<|aX 0)<|uC<|.int 1) (cV<|gT aM) dN) rO)
theorem dF2 {p:Int}(pp:Pr p)(mp:MP p F.1 F.2)(h1:F.1=1)(nr:NoR p F):False:=by
 have p2:=pp.lo;have r:=mp.rng 0;refine nr (F.2 0).toNat ad ?_
 unfold va;rw[h1,show(((F.2 0).toNat:Nat):Int)=F.2 0 by lia]
 have t:F.2 1=1:=by have:=mp.top;rw[h1]at this;exact this
 show(0+F.2 0*(-F.2 0)^0+F.2 1*(-F.2 0)^1)%p=0
 rw[t,qF,a15,qF];have:0+F.2 0*1+1*(1* -F.2 0)=0:=ad
 rw[this,eP]
theorem aI3: ∀ds Q,mO ds Q->mQ {nx:=λ_=>Q (.pu .non),rt:=Q} (init ["f","p","a"] ds):=by
 rintro ds Q ⟨n,f,p,rfl,n4,pp,mp,nr,h⟩;have p2:=pp.lo;unfold mQ;simp only[aJ];show(aT _ _:US) _ [some<|.pu<|.tup<|(rwF (n+1) f).map .int,some<|.pu<|.int p,none];rw[aO];left;rw[bY]
 by_cases n0:n=0
 .rw[a7 ad]
  subst n0;refine⟨ac,h [] ⟨λa ha=> ?_,ae,.nil,ac⟩⟩
  have e:((0,f):Nat×(Nat->Int))=tD:=kH rfl (funext λj=>by
   show f j=if j=0 then 1 else 0
   by_cases c:j=0
   .rw[a7 c,c];exact mp.top
   .rw[a6 c];exact mp.hi j ad)
  rw[e,dU1 p2 ha];rfl
 rw[a6 ad]
 have n1:n≠1:=λz=>dF2 pp (F:=(n,f)) mp z nr
 have alone:(n=4->NoQ p (n,f))->j5 {nx:=λ_=>Q (.pu .non),rt:=Q} [some<|.pu<|.tup<|(rwF (n+1) f).map .int,some<|.pu<|.int p,some<|.ow []]:=λnq=>by
  unfold j5;rw[aO];left;rw[a7<|by rfl]
  exact⟨ac,ac,h [((n,f),1)]<|RL.single mp (by show 2<=n;lia) n4 nr nq⟩
 unfold rO;rw[aO];left;simp only[uIf,lZ,aX,bQ3,uC,isB,B.d,oO,iV,tU,bY]
 by_cases c:n=4
 .subst c;rw[a7<|by rfl]
  refine⟨f,p,rfl,pp,mp,λv u w s v0 v1 u0 u1 w0 w1 s0 s1 e=> ?_,λnq=> ?_⟩
  .have m1:=MP.qu p2 v0 v1 u0 u1;have m2:=MP.qu p2 w0 w1 s0 s1;have k1:NoR p (quF v u):=λc hc=>by have:=nr c hc;rw[e]at this;exact(dF0 m2.hi this).1
   have k2:NoR p (quF w s):=λc hc=>by have:=nr c hc;rw[e]at this;exact(dF0 m2.hi this).2
   dsimp only;simp only[aJ];unfold j5;rw[aO];left;rw[a6 ac]
   unfold rN;rw[aO];left;rw[at0,at1];dsimp only;refine c94 ?_
   by_cases c:[v,u,(1:Int)]=[w,s,1]
   .have c1:v=w:=by simp at c;exact c.1
    have c2:u=s:=by simp at c;exact c.2
    subst c1 c2;rw[hV rfl];dsimp only;rw[a7 ac]
    refine⟨ac,ac,h [(quF v u,2)] ⟨λa ha=> ?_,λx hx=> ?_,zG _ _,show 1<=2 by decide⟩⟩
    .show tm p (tm p a<|quF v u) (quF v u)=tm p a (4,f)
     rw[e,aA6 m1.hi]
    .rw[j8.mp hx];exact⟨m1,aG _,show 2<=4 by decide,show 1<=2 by decide,aG _,k1,λz=>by cases z⟩
   .rw[eC c];dsimp only;rw[a6 ac]
    have nc: ¬(v=w/\u=s):=λz=>c (by rw[z.1,z.2])
    unfold rM;rw[gW];have fin2: ∀(v u w s:Int),MP p (quF v u).1 (quF v u).2->MP p (quF w s).1 (quF w s).2->NoR p (quF v u)->NoR p (quF w s)->((4,f):Nat×(Nat->Int))=tm p (quF v u) (quF w s)->ltL [v,u,1] [w,s,1]=true->Q (.ow [.tup [.tup<|[v,u,1].map D.int,.int 1],.tup [.tup<|[w,s,1].map D.int,.int 1]]):=λv u w s m1 m2 k1 k2 e lt=>by
     refine h [(quF v u,1),(quF w s,1)] ⟨λa ha=> ?_,λx hx=> ?_,?_,aG _⟩
     .show tm p (tm p a<|quF v u) (quF w s)=tm p a (4,f)
      rw[e,aA6 m1.hi]
     .rcases aZ.mp hx with rfl|hx
      .exact⟨m1,aG _,show 2<=4 by decide,aG _,show 1<=2 by decide,k1,λz=>by cases z⟩
      .rw[j8.mp hx];exact⟨m2,aG _,show 2<=4 by decide,aG _,show 1<=2 by decide,k2,λz=>by cases z⟩
     .refine List.pairwise_cons.mpr ⟨λy hy=> ?_,zG _ _⟩
      rw[j8.mp hy];exact .inr ⟨rfl,lt⟩
    refine dF (t0:=0) 2 (λk=>(if ltL [w,s,1] [v,u,1]=true then [D.tup<|[w,s,1].map D.int,.tup<|[v,u,1].map D.int]else [.tup<|[v,u,1].map D.int,.tup<|[w,s,1].map D.int]).getD k .non) [some<|.pu<|.tup<|(rwF (4+1) f).map .int,some<|.pu<|.int p,some<|.pu<|.lst [.tup<|[v,u,1].map D.int,.tup<|[w,s,1].map D.int]] ?_ ac (λx l'=>[x,some<|.ow l']) none rfl (λ_ _ _=>rfl) (λ_ _=>cB _) (λ_ _ _ q=>q) (λ_ _ _=>rfl)
     (λk=> .tup [(if ltL [w,s,1] [v,u,1]=true then [D.tup<|[w,s,1].map D.int,.tup<|[v,u,1].map D.int]else [.tup<|[v,u,1].map D.int,.tup<|[w,s,1].map D.int]).getD k .non,.int 1]) ?_ ?_
    .intro Q' q;left;refine⟨v,w,[u,1],[s,1],rfl,?_⟩;cases l:ltL [w,s,1] [v,u,1]
     .rw[l]at q;exact q
     .rw[l]at q;exact q
    .intro k l' Q' hk q;left;exact⟨ac,q⟩
    .cases l:ltL [w,s,1] [v,u,1]
     .exact fin2 v u w s m1 m2 k1 k2 e (row_lt nc l)
     .exact fin2 w s v u m2 m1 k2 k1 (by rw[e,bA1 m1.hi m2.hi]) l
  .exact alone λ_=>nq
 .rw[a6 (by simp;lia)]
  refine⟨ac,?_⟩
  exact alone λz=>absurd z c
structure SP (p:Int)(F:Nat×(Nat->Int))(xs:List ((Nat×(Nat->Int))×Nat)):Prop where
 prod:allT p tD xs=F
 mem: ∀x∈xs,MP p x.1.1 x.1.2/\1<=x.1.1/\x.1.1<=4/\1<=x.2/\x.2<=4/\(2<=x.1.1->NoR p x.1)/\(x.1.1=4->NoQ p x.1)
 ord:xs.Pairwise ltP
 len:xs.length<=300
theorem SP.of {p:Int}(pp:Pr p){L:Nat×(Nat->Int)}{cs:List (Int×Nat)}{rs:List ((Nat×(Nat->Int))×Nat)}(h4:F.1<=4)(lk:LK p F p.toNat cs L)(rl:RL p L rs):SP p F (cs.map lnP++rs):=by
 have p2:=pp.lo;have p3:=pp.hi;have rg: ∀x∈cs,0<=x.1/\x.1<p:=λx hx=>⟨(lk.mem x hx).1,by have:=(lk.mem x hx).2.1;lia⟩
 have mcs:=cR9 p2 rg;have mA:=MP.allT p2 (cs.map lnP) (MP.one p2) mcs;refine⟨by rw[wA,rl.prod _ mA];exact lk.prod.symm,λx hx=> ?_,?_,?_⟩
 .rcases eE.mp hx with hx|hx
  .obtain⟨y,hy,rfl⟩:=gE.mp hx;have hd:=cA0 p (cs.map lnP) tD (lnP y) hx;have e:F.1=(allT p tD<|cs.map lnP).1+L.1:=fE Prod.fst lk.prod;have hd':0+1*y.2<=(allT p tD<|cs.map lnP).1:=hd;refine⟨mcs _ hx,aG _,show 1<=4 by decide,(lk.mem y hy).2.2,show y.2<=4 by lia,λz=> ?_,λz=> ?_⟩
   .have:2<=1:=z
    lia
   .have:1=4:=z
    lia
  .obtain⟨a,b,c,d,e,f,g⟩:=rl.mem x hx;exact⟨a,ad,c,d,ad,λ_=>f,g⟩
 .rw[List.pairwise_append];refine⟨?_,rl.ord,λx hx y hy=> ?_⟩
  .rw[List.pairwise_map];refine lk.asc.imp λ{a b} h=> .inr ⟨rfl,?_⟩
   show ltL [a.1,1] [b.1,1]=true
   unfold ltL;rw[a6 ad,hV h]
  .obtain⟨z,hz,rfl⟩:=gE.mp hx;have:=(rl.mem y hy).2.1;exact .inl (show 1<y.1.1 by lia)
 .have a:=lk.len;have b:=rl.len;rw[cS,aP]
  lia
def wU:Φ:=λds Q=> ∃(n:Nat) (g:Nat->Int) (p:Int),ds=[aJ<|rwF (n+1) g,.int p]/\n<=4/\p∈prL/\MP p n (md p g)/\ ∀xs,SP p (n,md p g) xs->Q (.ow<|xs.map aA7)
def aA8:US:=(cV<|uOp fY (aC 2)<|aR mO<|a8 (aC 3)<|a8 (aC 1) aM)
def aA9:US:=(aT (d82 (aR uW<|a8 (aR jG<|a8 (aC 0)<|a8 (aC 1) aM)<|a8 (aC 1) aM)<|sS<|fJ 2<|fJ 3 sR) aA8)
def wV:US:=(aT (fX (dQ<|uOp (gIn true) (aC 1)<|aR kU aM) (λ_ _=>False) dN) aA9)
theorem bM6: ∀ds Q,wU ds Q->wV {nx:=λ_=>Q (.pu .non),rt:=Q} (init ["f","p","a","l"] ds):=by
 rintro ds Q ⟨n,g,p,rfl,n4,hp,mp,h⟩;have pp:=aZ6 hp;have p2:=pp.lo;unfold wV;show(aT _ _:US) _ [some<|.pu<|aJ<|rwF (n+1) g,some<|.pu<|.int p,none,none];rw[aO];left;refine⟨rfl,p,T_SMALL_PRIMES,rfl,.inr<|.inl rfl,?_⟩;rw[hV (show p∈T_SMALL_PRIMES by rw[<-dE1];exact hp)]
 dsimp only;rw[a6 ac]
 unfold aA9;rw[aO];left;refine⟨n+1,g,p,rfl,ad,ad,?_⟩
 left
 have e:gM (md p g) (n+1)=n+1:=t7 (aG _) (λm h1 h2=>ad) (.inr (by rw[iK,mp.top];decide))
 rw[e];refine⟨n,md p g,p,rfl,ad,pp,mp,λcs L lk=> ?_⟩
 left
 refine⟨ac,ac,trivial,?_⟩
 unfold aA8;rw[gW,cL1];left;have hL:L.1<=4:=by
  have e:n=(allT p tD<|cs.map lnP).1+L.1:=fE Prod.fst lk.prod
  lia
 refine⟨L.1,L.2,p,rfl,hL,pp,lk.mp,lk.nr,λrs rl=> ?_⟩
 have sp:=SP.of pp (F:=(n,md p g)) n4 lk rl;have e2:(cs.map λx=>aA7 (lnP x))++rs.map aA7=(cs.map lnP++rs).map aA7:=by rw[cE,i4];rfl
 left
 rw[e2];refine⟨?_,h _ sp⟩;rw[<-cS,e2,aP];exact aI sp.len ac
noncomputable def stB (xs:List ((Nat×(Nat->Int))×Nat)):Bool:=match xs with
 | [x]=>decide (x.2=1)
 | _=>false
theorem bS8 {p:Int}(hp:2<=p){g a h:Nat×(Nat->Int)}(ma:MP p a.1 a.2)(mh:MP p h.1 h.2): ∀k,powT p (tm p g a) h k=tm p g (powT p a h k)
 | 0=>rfl
 | k+1=>by
  show tm p (powT p (tm p g a) h k) h=tm p g (tm p (powT p a h k) h)
  rw[bS8 hp ma mh k,aA6 (MP.powT hp ma mh k).hi]
theorem bS9 {p:Int}(hp:2<=p){g:Nat×(Nat->Int)}: ∀(l:List ((Nat×(Nat->Int))×Nat)) {a:Nat×(Nat->Int)},MP p a.1 a.2->(∀x∈l,MP p x.1.1 x.1.2)->allT p (tm p g a) l=tm p g (allT p a l)
 | [],a,_,_=>rfl
 | x::l,a,ma,h=>by
  show allT p (powT p (tm p g a) x.1 x.2) l=tm p g (allT p (powT p a x.1 x.2) l)
  rw[bS8 hp ma<|h x<|.head _,bS9 hp l (MP.powT hp ma (h x<|.head _) x.2) λy hy=>h y (.tail _ hy)]
theorem mp_two {p:Int}(mp:MP p F.1 F.2)(h2:F.1=2):F=quF (F.2 0) (F.2 1):=by
 refine kH h2 (funext λj=> ?_)
 show F.2 j=if j=0 then F.2 0 else if j=1 then F.2 1 else if j=2 then 1 else 0
 by_cases c0:j=0
 .rw[a7 c0,c0]
 .by_cases c1:j=1
  .rw[a6 c0,a7 c1,c1]
  .by_cases c2:j=2
   .rw[a6 c0,a6 c1,a7 c2,c2];have:=mp.top;rw[h2]at this;exact this
   .rw[a6 c0,a6 c1,a6 c2];exact mp.hi j ad
theorem b45 {t1:Nat}(n:Nat)(it i1 i2:Nat->D)(hit: ∀i,i<n->it i= .tup [i1 i,i2 i])(ρ1:Ev)(hui: ∀Q:Nat->(Nat->D)->Ev->Prop,Q n it ρ1->ui ρ Q)(hn:n<=1000000)
  (G:Option B->Option B->List D->Ev) (x0 y0:Option B) (h0:rK (a75 ρ1 js) cap last=G x0 y0 []) (h1: ∀x y l b c,((G x y l).set t0<|some b).set t1 (some c)=G (some b) (some c) l) (h1': ∀x y l,t0< (G x y l).length/\t1< (G x y l).length)
  (h2: ∀x y l (Q:List D->Prop),Q l->uJ (G x y l) last Q) (h3: ∀x y l l',(G x y l).set last (some<|.ow l')=G x y l')
  (f:Nat->D) (hte: ∀i l (Q':B->Ev->Prop),i<n->Q' (.pu<|f i) (G (some<|.pu<|i1 i) (some<|.pu<|i2 i) l)->te (G (some<|.pu<|i1 i) (some<|.pu<|i2 i) l) Q') (hq:Q (.ow<|(List.range n).map f) (a75 ρ1 js)) :
  dO js cap last ui (sS<|fJ t0<|fJ t1 sR) (λρ Q=>Q true ρ) te ρ Q:=by
 refine hui _ ⟨λi ρ'=> ∃x y,ρ'=G x y ((List.range i).map f),⟨x0,y0,h0⟩,?_,?_⟩
 .rintro i ρ' hi ⟨x,y,rfl⟩;rw[hit i hi];refine⟨(h1' _ _ _).1,by rw[fB];exact(h1' _ _ _).2,rfl,?_⟩
  rw[h1];dsimp only;rw[a7 rfl];refine hte i _ _ hi (h2 _ _ _ _ ⟨?_,some<|.pu<|i1 i,some<|.pu<|i2 i,?_⟩)
  .rw[aP,tY];exact b9 hi (aI hn ac)
  .rw[h3,bB,cE];rfl
 .rintro ρ' ⟨x,y,rfl⟩;exact h2 _ _ _ _ hq
theorem cA2 {tt:UT}(n:Nat)(it:Nat->D)(ρ1:Ev)(hui: ∀Q:Nat->(Nat->D)->Ev->Prop,Q n it ρ1->ui ρ Q)(hn:n<=1000)
  (G:Option B->List D->Ev) (x0:Option B) (h0:rK (a75 ρ1 js) cap last=G x0 []) (h1: ∀x l b,(G x l).set t0 (some b)=G (some b) l) (h1': ∀x l,t0< (G x l).length) (h2: ∀x l (Q:List D->Prop),Q l->uJ (G x l) last Q) (h3: ∀x l l',(G x l).set last (some<|.ow l')=G x l')
  (c:Nat->Bool) (P:D->Prop) (htt: ∀i l (Q':Bool->Ev->Prop),i<n->Q' (c i) (G (some<|.pu<|it i) l)->tt (G (some<|.pu<|it i) l) Q')
  (hte: ∀i l (Q':B->Ev->Prop),i<n->c i=true->(∀d,P d->Q' (.pu d) (G (some<|.pu<|it i) l))->te (G (some<|.pu<|it i) l) Q') (hq: ∀l:List D,l.length<=n->(∀d∈l,P d)->Q (.ow l) (a75 ρ1 js)) :
  dO js cap last ui (bU t0) tt te ρ Q:=by
 refine hui _ ⟨λi ρ'=> ∃x l,l.length<=i/\(∀d∈l,P d)/\ρ'=G x l,⟨x0,[],aG _,ae,h0⟩,?_,?_⟩
 .rintro i ρ' hi ⟨x,l,hl,hP,rfl⟩;refine⟨h1' _ _,?_⟩;rw[h1];dsimp only;refine htt i _ _ hi ?_
  by_cases hc:c i=true
  .rw[a7 hc];refine hte i _ _ hi hc λd hd=>h2 _ _ _ ⟨?_,some<|.pu<|it i,l++[d],?_,?_,?_⟩
   .exact nO hl (b9 hi<|aI hn ac)
   .rw[cS];exact Nat.succ_le_succ hl
   .intro e he;rcases eE.mp he with he|he
    .exact hP e he
    .have:e=d:=by simpa using he
     rw[this];exact hd
   .rw[h3];rfl
  .rw[a6 hc];exact⟨some<|.pu<|it i,l,zW hl,hP,rfl⟩
 .rintro ρ' ⟨x,l,hl,hP,rfl⟩;exact h2 _ _ _ (hq l hl hP)
noncomputable def bE7 (n:Nat)(f:Nat->Int)(g:Nat×(Nat->Int)):List Int:=rwF (gM (divL g.2 g.1 (n+1-g.1) f)<|n+1) (divL g.2 g.1 (n+1-g.1) f)
noncomputable def ptD (n:Nat)(f:Nat->Int)(x:(Nat×(Nat->Int))×Nat):D:= .tup [aJ<|rwF (x.1.1+1) x.1.2,.int (x.2:Int),aJ<|bE7 n f x.1]
def wW:Φ:=λds Q=> ∃(n:Nat) (f:Nat->Int) (p:Int),ds=[aJ<|rwF (n+1) f,.int p]/\n<=4/\p∈prL/\MP p n (md p f)/\(∀j,(f j).natAbs<=2^9)/\ ∀xs,SP p (n,md p f) xs->Q (.ow<|xs.map<|ptD n f)
def wX:US:=(cV<|dO [0] [none,none,some 0,none] 3 (fG<|aR wU<|a8 (aC 0)<|a8 (aC 1) aM) (sS<|fJ 0<|fJ 1 sR) (λρ Q=>Q true ρ)<|i5<|a8 (aC 0)<|a8 (aC 1)<|a8 (uIx (uV<|aR gI<|a8 (aC 2)<|a8 (aC 0) aM)<|uC<|.int 1) aM)
theorem cS0 {p:Int}(pp:Pr p)(n4:n<=4)(fb: ∀j,(f j).natAbs<=2^9){g:Nat×(Nat->Int)}(mg:MP p g.1 g.2)(g4:g.1<=4):dD9 (n+1) g.1 9 8 f g.2:=
 ⟨ad,ad,mg.top,mg.hi,λm _=>fb m,λj=>dF1 pp mg j,ad,ac⟩
theorem bM7: ∀ds Q,wW ds Q->wX {nx:=λ_=>Q (.pu .non),rt:=Q} (init ["f","p"] ds):=by
 rintro ds Q ⟨n,f,p,rfl,n4,hp,mp,fb,h⟩;have pp:=aZ6 hp;unfold wX;show(cV _:US) _ [some<|.pu<|aJ<|rwF (n+1) f,some<|.pu<|.int p];rw[gW]
 have key: ∀xs,SP p (n,md p f) xs->dO [0] [none,none,some 0,none] 3 (λρ Q=>Q (xs.map aA7).length (λi=>(xs.map aA7).getD i .non) ρ) (sS<|fJ 0<|fJ 1 sR) (λρ Q=>Q true ρ) (i5<|a8 (aC 0)<|a8 (aC 1)<|a8 (uIx (uV<|aR gI<|a8 (aC 2)<|a8 (aC 0) aM)<|uC<|.int 1) aM) [some<|.pu<|aJ<|rwF (n+1) f,some<|.pu<|.int p] λb _=>Q b:=by
  intro xs sp
  refine b45 (t0:=0) (t1:=1) xs.length (λi=>(xs.map aA7).getD i .non) (λi=>aJ (rwF ((xs.getD i (tD,0)).1.1+1) (xs.getD i (tD,0)).1.2)) (λi=> .int ((xs.getD i (tD,0)).2:Int)) (λi hi=> ?_) [some<|.pu<|aJ<|rwF (n+1) f,some<|.pu<|.int p] (λQ' q=> ?_) (aI sp.len ac) (λx y l=>[x,y,some<|.pu<|aJ<|rwF (n+1) f,some<|.ow l]) none none rfl (λ_ _ _ _ _=>rfl) (λ_ _ _=>⟨ae,ae⟩) (λ_ _ _ _ q=>q) (λ_ _ _ _=>rfl) (λi=>ptD n f (xs.getD i (tD,0))) ?_ ?_
  .rw[aQ,bO,aQ,aS hi];rfl
  .rw[aP];exact q
  .intro i l Q' hi q;have hm:xs.getD i (tD,0)∈xs:=by
    rw[aQ,aS hi];exact cY hi
   obtain⟨mx,x1,x4,_⟩:=sp.mem _ hm;generalize xs.getD i (tD,0)=x at *;left;refine⟨n+1,x.1.1,9,8,f,x.1.2,rfl,cS0 pp n4 fb mx x4,?_⟩;left;rw[at1];exact⟨ac,q⟩
  .have e:(List.range xs.length).map (λi=>ptD n f (xs.getD i (tD,0)))=xs.map (ptD n f):=by
    apply gD
    .simp
    .intro i h1 h2;simp at h1;simp[aQ,h1]
   rw[e];exact h xs sp
 exact⟨n,f,p,rfl,n4,hp,mp,λxs sp=>key xs sp⟩
structure RF (n:Nat)(f:Nat->Int):Prop where
 n1:1<=n
 n4:n<=4
 top:f n=1
 hi: ∀j,n<j->f j=0
 fb: ∀j,(f j).natAbs<=2^9
theorem RF.mp (h:RF n f){p:Int}(hp:2<=p):MP p n (md p f):=by
 refine⟨?_,λj hj=> ?_,λj=>⟨dL _ ad,dJ _ ad⟩⟩
 .show f n%p=1
  rw[h.top];exact fA ac ad
 .show f j%p=0
  rw[h.hi j hj,eP]
def PRow (n:Nat)(f:Nat->Int)(size:Int)(d:D):Prop:= ∃(p:Int) (xs:List ((Nat×(Nat->Int))×Nat)),p∈prL/\size%(p*p)=0/\SP p (n,md p f) xs/\d= .tup [.int p,.lst<|xs.map<|ptD n f]
def uY:Φ:=λds Q=> ∃(n:Nat) (f:Nat->Int) (size:Int),ds=[aJ<|rwF (n+1) f,.int size]/\RF n f/\ ∀l:List D,l.length<=46->(∀d∈l,PRow n f size d)->Q (.ow l)
def uZ:US:=(cV<|dO [0,1] [none,some 0,some 1,none] 3 (fG<|aR kU aM) (bU 0) (dQ<|uOp (iV false) (uOp kW (aC 2)<|uOp fL (aC 0)<|aC 0)<|uC<|.int 0)<|i5<|a8 (aC 0)<|a8 (aR wW<|a8 (aC 1)<|a8 (aC 0) aM) aM)
theorem bE8: ∀ds Q,uY ds Q->uZ {nx:=λ_=>Q (.pu .non),rt:=Q} (init ["f","s"] ds):=by
 rintro ds Q ⟨n,f,size,rfl,rf,h⟩;unfold uZ;show(cV _:US) _ [some<|.pu<|aJ<|rwF (n+1) f,some<|.pu<|.int size];rw[gW]
 refine cA2 (t0:=0) 46 (λi=>(T_SMALL_PRIMES.map D.int).getD i .non) [some<|.pu<|aJ<|rwF (n+1) f,some<|.pu<|.int size] (λQ' q=> ?_) ac (λx l=>[x,some<|.pu<|aJ<|rwF (n+1) f,some<|.pu<|.int size,some<|.ow l]) none rfl (λ_ _ _=>rfl) (λ_ _=>cB _) (λ_ _ _ q=>q) (λ_ _ _=>rfl)
  (λi=>decide (size%(T_SMALL_PRIMES.getD i 0*T_SMALL_PRIMES.getD i 0)=0)) (PRow n f size) ?_ ?_ (λl hl hP=>h l hl hP)
 .exact⟨rfl,q⟩
 .intro i l Q' hi q;have e:(T_SMALL_PRIMES.map D.int).getD i .non= .int (T_SMALL_PRIMES.getD i 0):=by
   have hi':i<T_SMALL_PRIMES.length:=by rw[c12];exact hi
   rw[aQ,bO,aQ,aS hi'];rfl
  have hm:T_SMALL_PRIMES.getD i 0∈T_SMALL_PRIMES:=by
   have hi':i<T_SMALL_PRIMES.length:=by rw[c12];exact hi
   rw[aQ,aS hi'];exact cY hi'
  obtain⟨p2,p3⟩:=tp_ok _ hm;rw[e]at q⊢;generalize T_SMALL_PRIMES.getD i 0=p at *;have pq:0<p*p:=Int.mul_pos ad ad
  left
  refine⟨cmL ad ad,ad,?_⟩
  rw[d5 _ pq];exact q
 .intro i l Q' hi hc q;have e:(T_SMALL_PRIMES.map D.int).getD i .non= .int (T_SMALL_PRIMES.getD i 0):=by
   have hi':i<T_SMALL_PRIMES.length:=by rw[c12];exact hi
   rw[aQ,bO,aQ,aS hi'];rfl
  have hm:T_SMALL_PRIMES.getD i 0∈prL:=by
   have hi':i<T_SMALL_PRIMES.length:=by rw[c12];exact hi
   rw[dE1,aQ,aS hi'];exact cY hi'
  have pp:=aZ6 hm;have hc':=zX hc;rw[e]at q⊢;generalize T_SMALL_PRIMES.getD i 0=p at *;left;refine⟨n,f,p,rfl,rf.n4,hm,rf.mp pp.lo,rf.fb,λxs sp=> ?_⟩
  left
  exact⟨ac,q _ ⟨p,xs,hm,hc',sp,rfl⟩⟩
theorem d06 {p:Int}(hp:2<=p){xs:List ((Nat×(Nat->Int))×Nat)}(sp:SP p F xs){x:(Nat×(Nat->Int))×Nat}(hx:x∈xs)(h2:2<=x.2): ∃R:Nat×(Nat->Int),MP p R.1 R.2/\F=tm p (tm p x.1 x.1) R:=by
 obtain⟨l,m,rfl⟩:=List.append_of_mem hx;obtain⟨k,hk⟩: ∃k,x.2=k+2:=⟨x.2-2,aa⟩
 have mx:=(sp.mem x hx).1;have ml: ∀y∈l,MP p y.1.1 y.1.2:=λy hy=>(sp.mem y<|zO _ hy).1
 have mm: ∀y∈m,MP p y.1.1 y.1.2:=λy hy=>(sp.mem y<|fM _<|.tail _ hy).1
 have mA:=MP.allT hp l (MP.one hp) ml;have mP:=MP.powT hp mA mx k;have mxx:=MP.tm hp mx mx;refine⟨allT p (powT p (allT p tD l) x.1 k) m,MP.allT hp m mP mm,?_⟩;rw[<-sp.prod,wA];show allT p (powT p (allT p tD l) x.1 x.2) m=_;rw[hk];show allT p (tm p (tm p (powT p (allT p tD l) x.1 k) x.1) x.1) m=_;rw[<-aA6 mx.hi,bA1 mP.hi mxx.hi,bS9 hp m mP mm]
structure dU2 (n:Nat)(f:Nat->Int)(size p:Int)(g:Nat×(Nat->Int)):Prop where
 pr:p∈prL
 sq:size%(p*p)=0
 mg:MP p g.1 g.2
 g1:1<=g.1
 g4:g.1<=4
 tw: ∃R:Nat×(Nat->Int),MP p R.1 R.2/\(n,md p f)=tm p (tm p g g) R
 all: ∀c∈bE7 n f g,c%(p*p)=0
noncomputable def dU3 (n:Nat)(f:Nat->Int)(g:Nat×(Nat->Int)):List Int:=rwF (gM (divQ g.2 g.1 (n+1-g.1) f)<|n+1-g.1) (divQ g.2 g.1 (n+1-g.1) f)
def sH:Φ:=λds Q=> ∃(n:Nat) (f:Nat->Int) (size:Int) (l:List D),ds=[aJ<|rwF (n+1) f,.lst l]/\RF n f/\l.length<=46/\(∀d∈l,PRow n f size d)/\Q (.pu .non)/\ ∀p g,dU2 n f size p g->Q (.pu<|.tup [.int p,aJ<|dU3 n f g])
def aZ7:US:=(cV<|uC .non)
def sI:US:=(aT (jJ (fG<|aC 1) (sS<|fJ 2<|fJ 3 sR)<|jJ (fG<|aC 3) (sS<|fJ 4<|fJ 5<|fJ 6 sR)<|fX (bX5 (dQ<|uOp (wP λi j=>decide (j<=i)) (aC 5)<|uC<|.int 2)<|dQ<|aR cY3<|a8 (dO [2] [none,some 2,none] 2 (fG<|aC 6) (bU 0) (λρ Q=>Q true ρ)<|uOp (iV false) (uOp kW (aC 0)<|uOp fL (aC 1)<|aC 1)<|uC<|.int 0) aM) (cV<|i5<|a8 (aC 2)<|a8 (uIx (uV<|aR gI<|a8 (aC 0)<|a8 (aC 4) aM)<|uC<|.int 0) aM) dN) aZ7)
theorem b76: ∀ds Q,sH ds Q->sI {nx:=λ_=>Q (.pu .non),rt:=Q} (init ["f","r","p","a","g","o","c"] ds):=by
 rintro ds Q ⟨n,f,size,l,rfl,rf,l46,hP,h0,h1⟩;unfold sI;show(aT _ _:US) _ [some<|.pu<|aJ<|rwF (n+1) f,some<|.pu<|.lst l,none,none,none,none,none];rw[aO];refine bP l.length (λi=>l.getD i .non) _ (λQ' q=>q)
  (λi ρ=> ∃a b c d e,ρ=[some<|.pu<|aJ<|rwF (n+1) f,some<|.pu<|.lst l,a,b,c,d,e]) ⟨none,none,none,none,none,rfl⟩ ?_ ?_
 .rintro i ρ hi ⟨a,b,c,d,e,rfl⟩;have hm:l.getD i .non∈l:=by
   rw[aQ,aS hi];exact cY hi
  obtain⟨p,xs,hp,hs,sp,e1⟩:=hP _ hm;have pp:=aZ6 hp;rw[e1];refine⟨ae,ae,rfl,?_⟩
  show(jJ _ _ _:US) _ [some<|.pu<|aJ<|rwF (n+1) f,some<|.pu<|.lst l,some<|.pu<|.int p,some<|.pu<|.lst<|xs.map<|ptD n f,c,d,e]
  refine bP xs.length (λi=>(xs.map<|ptD n f).getD i .non) _ (λQ' q=> ?_)
   (λj ρ=> ∃c d e,ρ=[some<|.pu<|aJ<|rwF (n+1) f,some<|.pu<|.lst l,some<|.pu<|.int p,some<|.pu<|.lst<|xs.map<|ptD n f,c,d,e]) ⟨c,d,e,rfl⟩ ?_ ?_
  .left
   rw[aP];exact q
  .rintro j ρ hj ⟨c,d,e,rfl⟩;have hx:xs[j]∈xs:=cY hj;have e2:(xs.map<|ptD n f).getD j .non=ptD n f xs[j]:=by
    rw[aQ,bO,aS hj];rfl
   rw[e2];obtain⟨mx,x1,x4,_⟩:=sp.mem _ hx;have tw:2<=xs[j].2->_:=λh2=>d06 pp.lo sp hx h2
   generalize xs[j]=x at *;refine⟨ae,ae,ae,rfl,?_⟩
   show(fX _ _ _:US) _ [some<|.pu<|aJ<|rwF (n+1) f,some<|.pu<|.lst l,some<|.pu<|.int p,some<|.pu<|.lst<|xs.map<|ptD n f,some<|.pu<|aJ<|rwF (x.1.1+1) x.1.2,some<|.pu<|.int (x.2:Int),some<|.pu<|aJ<|bE7 n f x.1]
   simp only[aJ];left
   by_cases c2:(2:Int)<=(x.2:Int)
   .rw[a7 c2];have p2:=pp.lo;have p3:=pp.hi;have pq:0<p*p:=Int.mul_pos ad ad
    generalize hr:bE7 n f x.1=r at *;have rl:r.length<=1000:=by
     rw[<-hr];unfold bE7;rw[a36];have:=a37 (divL x.1.2 x.1.1 (n+1-x.1.1) f) (n+1);have:=rf.n4
     lia
    refine dF (t0:=0) r.length (λk=>(r.map D.int).getD k .non) [some<|.pu<|.tup<|(rwF (n+1) f).map .int,some<|.pu<|.lst l,some<|.pu<|.int p,some<|.pu<|.lst<|xs.map<|ptD n f,some<|.pu<|.tup<|(rwF (x.1.1+1) x.1.2).map .int,some<|.pu<|.int (x.2:Int),some<|.pu<|.tup<|r.map .int] (λQ' q=> ?_) ad (λx l'=>[x,some<|.pu<|.int p,some<|.ow l']) none rfl (λ_ _ _=>rfl) (λ_ _=>cB _) (λ_ _ _ q=>q) (λ_ _ _=>rfl) (λk=> .bl (decide (r.getD k 0%(p*p)=0))) ?_ ?_
    .left
     rw[aP];exact q
    .intro k l' Q' hk q;have e3:(r.map D.int).getD k .non= .int (r.getD k 0):=by
      rw[aQ,bO,aQ,aS hk];rfl
     rw[e3]at q⊢;left;refine⟨cmL ad ad,ad,?_⟩
     rw[d5 _ pq];exact q
    .have e4:(List.range r.length).map (λk=>D.bl (decide (r.getD k 0%(p*p)=0)))=((List.range r.length).map λk=>decide (r.getD k 0%(p*p)=0)).map D.bl:=by rw[i4];rfl
     rw[e4];dsimp only;rw[qK];dsimp only
     by_cases c3:(((List.range r.length).map λk=>decide (r.getD k 0%(p*p)=0)).all id)=true
     .rw[a7 c3];left;refine⟨n+1,x.1.1,9,8,f,x.1.2,rfl,cS0 pp rf.n4 rf.fb mx x4,?_⟩;left;rw[at0];refine⟨ac,h1 p x.1 ⟨hp,hs,mx,x1,x4,tw ad,λc hc=> ?_⟩⟩
      rw[hr]at hc;obtain⟨k,hk,rfl⟩:=List.mem_iff_getElem.mp hc;rw[eN]at c3;have:=c3 (decide (r.getD k 0%(p*p)=0)) (gE.mpr ⟨k,eO.mpr hk,rfl⟩);have:=zX (show decide (r.getD k 0%(p*p)=0)=true from this)
      rw[aQ,aS hk]at this;exact this
     .rw[a6 c3];exact⟨_,_,_,rfl⟩
   .rw[a6 c2];exact⟨_,_,_,rfl⟩
  .rintro ρ ⟨c,d,e,rfl⟩;exact⟨_,_,_,_,_,rfl⟩
 .rintro ρ ⟨a,b,c,d,e,rfl⟩;exact h0
theorem amgm {g q:Int}(h1:g+(q+1)<=2*(b+1))(hg:0<=g)(hq:0<=q)(h2:m<g*(q+1)):m< (b+1)*(b+1):=by
 have a1:0<=(g-(q+1))*(g-(q+1)):=by
  rcases le_total 0 (g-(q+1))with h|h
  .exact mul_nonneg h h
  .exact Int.mul_nonneg_of_nonpos_of_nonpos h h
 have a2:(g+(q+1))*(g+(q+1))<=(2*(b+1))*(2*(b+1)):=a06 h1 h1 ad ad
 grind
theorem cL8 {g:Int}(hg:1<=g)(h:g<=(g+m/g)/2):g*g<=m:=by
 have h1:g<=m/g:=ad
 have h2:g*(m/g)<=m:=by
  have:=Int.emod_add_mul_ediv m g;have:=dL m (show g≠0 by lia)
  lia
 exact Int.le_trans (Int.mul_le_mul_of_nonneg_left h1 ad) h2
theorem cA3 {g:Int}(hg:1<=g)(hm:0<=m):m< ((g+m/g)/2+1)*((g+m/g)/2+1):=by
 have e:=Int.emod_add_mul_ediv m g;have l:=dJ m (show 0<g by lia)
 have q0:0<=m/g:=Int.ediv_nonneg hm ad
 refine amgm (g:=g) (q:=m/g) ad ad q0 ?_
 rw[qG,kF]
 lia
def aZ8:Φ:=λds Q=> ∃m:Int,ds=[.int m]/\0<=m/\Sm m/\ ∀r:Int,0<=r->r*r<=m->m< (r+1)*(r+1)->Q (.pu<|.int r)
def aZ9:US:=(aT (bG 1<|aC 0)<|aT (bG 2<|uOp aS9 (uOp fY (aC 0)<|uC<|.int 1)<|uC<|.int 2)<|aT (bX9 (dQ<|uOp (wP λi j=>decide (i<j)) (aC 2)<|aC 1)<|aT (bG 1<|aC 2)<|bG 2<|uOp aS9 (uOp fY (aC 1)<|uOp aS9 (aC 0)<|aC 1)<|uC<|.int 2)<|rJ 1)
theorem Sm.le {i:Int}(h:Sm m)(h0:0<=i)(h1:i<=m):Sm i:=by
 unfold Sm at h⊢;exact nO ad h
theorem d07: ∀ds Q,aZ8 ds Q->aZ9 {nx:=λ_=>Q (.pu .non),rt:=Q} (init ["m","g","b"] ds):=by
 rintro ds Q ⟨m,rfl,m0,ms,h⟩;unfold aZ9;show(aT _ _:US) _ [some<|.pu<|.int m,none,none];left;rw[uO _ ac]
 refine⟨⟨ac,aP9 ac ac⟩,?_⟩
 refine⟨λn ρ=> ∃g b:Int,ρ=[some<|.pu<|.int m,some<|.pu<|.int g,some<|.pu<|.int b]/\n=g.toNat/\0<=g/\g<=m/\m< (g+1)*(g+1)/\((m=0/\b=0)\/(1<=g/\b=(g+m/g)/2)),⟨_,m,(m+1)/2,rfl,rfl,m0,Int.le_refl _,?_,?_⟩,?_⟩
 .have:m*1<=m*m+m:=by
   rcases le_total m 0 with z|z
   .have:m=0:=ad
    subst this;decide
   .have:=mul_nonneg z z
    lia
  grind
 .by_cases z:m=0
  .subst z;exact .inl ⟨rfl,rfl⟩
  .right
   rw[Int.ediv_self z];exact⟨ad,rfl⟩
 .rintro n ρ ⟨g,b,rfl,rfl,g0,gm,hg,hb⟩;left;split
  .rename_i hlt
   rcases hb with⟨rfl,rfl⟩| ⟨g1,rfl⟩
   .lia
   .have b1:1<=(g+m/g)/2:=by
     have:1<=m/g:=Int.le_ediv_of_mul_le ad ad
     lia
    rw[uO _<|show 0< (g+m/g)/2 by lia,uO _ ac]
    refine⟨⟨ad,ms.le ad ad⟩,⟨ac,aP9 ac ac⟩,_,?_,_,_,rfl,rfl,ad,ad,cA3 g1 m0,.inr ⟨b1,rfl⟩⟩
    lia
  .rename_i hge
   refine h g g0 ?_ hg
   rcases hb with⟨rfl,rfl⟩| ⟨g1,rfl⟩
   .have:g=0:=ad
    subst this;decide
   .exact cL8 g1 ad
noncomputable def ev (p:List Int)(z:Int):Int:=ps (λj=>p.getD j 0) z p.length
theorem ev2 (a b z:Int):ev [a,b,1] z=a+b*z+z*z:=by simp[ev,ps];grind
theorem ev3 (a b c z:Int):ev [a,b,c,1] z=a+b*z+c*(z*z)+z*z*z:=by simp[ev,ps];grind
theorem ev4 (a b c d z:Int):ev [a,b,c,d,1] z=a+b*z+c*(z*z)+d*(z*z*z)+z*z*z*z:=by simp[ev,ps];grind
noncomputable def qq (v u w s:Int):List Int:=[v*w,u*w+v*s,v+w+u*s,u+s,1]
def Red (p:List Int):Prop:=(∃z,ev p z=0)\/ ∃v u w s,p=qq v u w s
structure Fac (p l r:List Int):Prop where
 l2:2<=l.length
 r2:2<=r.length
 l4:l.length<=4
 r4:r.length<=4
 l1:l.getD (l.length-1) 0=1
 r1:r.getD (r.length-1) 0=1
 pr:rwF (l.length+r.length-1) (conv (λj=>l.getD j 0) (λj=>r.getD j 0) l.length)=p
 bl: ∀x∈l,x.natAbs<=2^40
 br: ∀x∈r,x.natAbs<=2^40
theorem d7.cs (h:d7 p):(∃a b,p=[a,b,1])\/(∃a b c,p=[a,b,c,1])\/ ∃a b c d,p=[a,b,c,d,1]:=by
 obtain⟨q,rfl⟩:=h.one;have lo:=h.ok.lo;have hi:=h.ok.hi;rw[cS,zJ]at lo hi
 match q,lo,hi with
 | [a,b],_,_=>exact .inl ⟨a,b,rfl⟩
 | [a,b,c],_,_=>exact .inr (.inl ⟨a,b,c,rfl⟩)
 | [a,b,c,d],_,_=>exact .inr (.inr ⟨a,b,c,d,rfl⟩)
 | [],h,_=>simp at h
 | [_],h,_=>simp at h
 | _::_::_::_::_::_,_,h=>simp at h
theorem dF3 (h:d7 p)(hz:ev p z=0):z∣p.getD 0 0:=by
 rcases h.cs with⟨a,b,rfl⟩| ⟨a,b,c,rfl⟩| ⟨a,b,c,d,rfl⟩
 .rw[ev2]at hz;exact⟨-(b+z),by show a=_;grind⟩
 .rw[ev3]at hz;exact⟨-(b+c*z+z*z),by show a=_;grind⟩
 .rw[ev4]at hz;exact⟨-(b+c*z+d*(z*z)+z*z*z),by show a=_;grind⟩
theorem cS1 (h:d7 p):ev p 0=p.getD 0 0:=by
 rcases h.cs with⟨a,b,rfl⟩| ⟨a,b,c,rfl⟩| ⟨a,b,c,d,rfl⟩
 .rw[ev2];simp
 .rw[ev3];simp
 .rw[ev4];simp
noncomputable def vU (z:Int):Nat->Int:=λj=>[-z,1].getD j 0
theorem jH {m:Nat}(h1:a.natAbs<=m)(h2:b.natAbs<=n):(a*b).natAbs<=m*n:=by rw[cZ];exact iL h1 h2
set_option maxHeartbeats 2000000 in
theorem l3 (h:a=a')(h2:b=b')(h3:c=c'):[a,b,c]=[a',b',c']:=by rw[h,h2,h3]
theorem l4 {d d':Int}(h:a=a')(h2:b=b')(h3:c=c')(h4:d=d'):[a,b,c,d]=[a',b',c',d']:=by rw[h,h2,h3,h4]
theorem l5 {d e d' e':Int}(h:a=a')(h2:b=b')(h3:c=c')(h4:d=d')(h5:e=e'):[a,b,c,d,e]=[a',b',c',d',e']:=by rw[h,h2,h3,h4,h5]
theorem cvA2 (s z:Int):rwF 3 (λm=>conv (λj=>([s,1]:List Int).getD j 0) (vU z) 2 m+0)=[0+s*(-z)+1*0+0,0+s*1+1*(-z)+0,0+s*0+1*1+0]:=by kernel_rfl
theorem cvB2 (s z:Int):rwF 3 (conv (λj=>([-z,1]:List Int).getD j 0) (λj=>([s,1]:List Int).getD j 0) 2)=[0+(-z)*s+1*0,0+(-z)*1+1*s,0+(-z)*0+1*1]:=by kernel_rfl
theorem cvA3 (s t z:Int):rwF 4 (λm=>conv (λj=>([s,t,1]:List Int).getD j 0) (vU z) 3 m+0)=[0+s*(-z)+t*0+1*0+0,0+s*1+t*(-z)+1*0+0,0+s*0+t*1+1*(-z)+0,0+s*0+t*0+1*1+0]:=by kernel_rfl
theorem cvB3 (s t z:Int):rwF 4 (conv (λj=>([-z,1]:List Int).getD j 0) (λj=>([s,t,1]:List Int).getD j 0) 2)=[0+(-z)*s+1*0,0+(-z)*t+1*s,0+(-z)*1+1*t,0+(-z)*0+1*1]:=by kernel_rfl
theorem cvA4 (s t u z:Int):rwF 5 (λm=>conv (λj=>([s,t,u,1]:List Int).getD j 0) (vU z) 4 m+0)=[0+s*(-z)+t*0+u*0+1*0+0,0+s*1+t*(-z)+u*0+1*0+0,0+s*0+t*1+u*(-z)+1*0+0,0+s*0+t*0+u*1+1*(-z)+0,0+s*0+t*0+u*0+1*1+0]:=by kernel_rfl
theorem cvB4 (s t u z:Int):rwF 5 (conv (λj=>([-z,1]:List Int).getD j 0) (λj=>([s,t,u,1]:List Int).getD j 0) 2)=[0+(-z)*s+1*0,0+(-z)*t+1*s,0+(-z)*u+1*t,0+(-z)*1+1*u,0+(-z)*0+1*1]:=by kernel_rfl
theorem m2 (h:P a)(h2:P b): ∀x∈[a,b],P x:=λx hx=>by
 rcases aZ.mp hx with rfl|hx
 .exact h
 .rw[j8.mp hx];exact h2
theorem m3 (h:P a)(h2: ∀x∈l,P x): ∀x∈a::l,P x:=λx hx=>by
 rcases aZ.mp hx with rfl|hx
 .exact h
 .exact h2 x hx
theorem na2 {A B:Nat}(h:a.natAbs<=A)(h2:b.natAbs<=B):(a+b).natAbs<=A+B:=aI (pX a b) (Nat.add_le_add h h2)
theorem quo (h:d7 p)(hz:ev p z=0)(z9:z.natAbs<=499): ∃r:List Int,r.length+1=p.length/\2<=r.length/\r.getD (r.length-1) 0=1/\p=rwF p.length (λm=>conv (λj=>r.getD j 0) (vU z) r.length m+0)/\(∀x∈r,x.natAbs<=2^40)/\Fac p [-z,1] r:=by
 have sm:=h.ok.small;have le: ∀{a b:Nat},Nat.ble a b=true->a<=b:=zM;have k1:(1:Int).natAbs<=2^40:=ac
 have bl: ∀x∈[-z,1],x.natAbs<=2^40:=m2 (by rw[l7];exact aI z9 ac) k1
 have m1:(z*z).natAbs<=499*499:=jH z9 z9;rcases h.cs with⟨a,b,rfl⟩| ⟨a,b,c,rfl⟩| ⟨a,b,c,d,rfl⟩
 .rw[ev2]at hz;have s1:=sm b ae
  have bd: ∀x∈[b+z,1],x.natAbs<=2^40:=m2 (aI (na2 s1 z9) ac) k1
  exact⟨[b+z,1],rfl,le rfl,rfl,(cvA2 (b+z) z).trans (l3 (by grind) (by grind)<|by grind) |>.symm,bd,⟨le rfl,le rfl,le rfl,le rfl,rfl,rfl,(cvB2 (b+z) z).trans<|l3 (by grind) (by grind)<|by grind,bl,bd⟩⟩
 .rw[ev3]at hz;have s1:=sm b ae
  have s2:=sm c ae
  have m2':(c*z).natAbs<=499*499:=jH s2 z9;have bd: ∀x∈[b+c*z+z*z,c+z,1],x.natAbs<=2^40:=m3 (aI (na2 (na2 s1 m2') m1) ac) (m2 (aI (na2 s2 z9) ac) k1)
  exact⟨[b+c*z+z*z,c+z,1],rfl,le rfl,rfl,(cvA3 _ (c+z) z).trans (l4 (by grind) (by grind) (by grind)<|by grind) |>.symm,bd,⟨le rfl,le rfl,le rfl,le rfl,rfl,rfl,(cvB3 _ (c+z) z).trans<|l4 (by grind) (by grind) (by grind)<|by grind,bl,bd⟩⟩
 .rw[ev4]at hz;have s1:=sm b ae
  have s2:=sm c ae
  have s3:=sm d ae
  have m2':(c*z).natAbs<=499*499:=jH s2 z9;have m3':(d*(z*z)).natAbs<=499*(499*499):=jH s3 m1;have m4:(z*z*z).natAbs<=499*499*499:=jH m1 z9;have m5:(d*z).natAbs<=499*499:=jH s3 z9;have bd: ∀x∈[b+c*z+d*(z*z)+z*z*z,c+d*z+z*z,d+z,1],x.natAbs<=2^40:=m3 (aI (na2 (na2 (na2 s1 m2') m3') m4) ac) (m3 (aI (na2 (na2 s2 m5) m1) ac)<|m2 (aI (na2 s3 z9) ac) k1)
  exact⟨[b+c*z+d*(z*z)+z*z*z,c+d*z+z*z,d+z,1],rfl,le rfl,rfl,(cvA4 _ _ (d+z) z).trans (l5 (by grind) (by grind) (by grind) (by grind)<|by grind) |>.symm,bd,⟨le rfl,le rfl,le rfl,le rfl,rfl,rfl,(cvB4 _ _ (d+z) z).trans<|l5 (by grind) (by grind) (by grind) (by grind)<|by grind,bl,bd⟩⟩
theorem fac_qq {v u:Int}(h: ∀x∈[v,u,w,s],x.natAbs<=2^40):Fac (qq v u w s) [v,u,1] [w,s,1]:=by
 simp only[nK]at h;have k1:(1:Int).natAbs<=2^40:=ac
 refine⟨ae,ae,ae,ae,rfl,rfl,?_,?_,?_⟩
 .simp[rwF,conv,shF,qq,bB]
  grind
 .simp only[nK];exact⟨h.1,h.2.1,k1,ae⟩
 .simp only[nK];exact⟨h.2.2.1,h.2.2.2.1,k1,ae⟩
def rF:Φ:=λds Q=> ∃m:Int,ds=[.int m]/\m.natAbs<=499/\ ∀l:List Int,l.length<=1000->(m=0->l=[0])->(m≠0-> ∀x,x∈l↔x∣m)->(∀x∈l,x.natAbs<=499)->Q (.ow<|l.map .int)
def aB0:US:=(aT (bG 1<|gT aM)<|aT (jJ (b39<|a8 (uC<|.int 1)<|a8 (uOp fY (aR cY2<|a8 (aC 0) aM)<|uC<|.int 1) aM) (bU 2)<|fX (dQ<|uOp (iV false) (uOp kW (aC 0)<|aC 2)<|uC<|.int 0) (aT (aP4 1<|aC 2)<|aP4 1<|pG<|aC 2) dN)<|rJ 1)
def wY:US:=(aT (fX (dQ<|uOp (iV false) (aC 0)<|uC<|.int 0) (cV<|gT<|a8 (uC<|.int 0) aM) dN) aB0)
theorem aJ4 (h:x∣m)(hm:m≠0):x.natAbs<=m.natAbs/\1<=x.natAbs:=by
 have h1:=Int.natAbs_dvd_natAbs.mpr h;refine⟨le_of_dvd ad h1,?_⟩
 rcases Nat.eq_zero_or_pos x.natAbs with z|z
 .rw[z]at h1;have:=Nat.zero_dvd.mp h1
  lia
 .exact z
theorem bM8: ∀ds Q,rF ds Q->wY {nx:=λ_=>Q (.pu .non),rt:=Q} (init ["m","f","d"] ds):=by
 rintro ds Q ⟨m,rfl,m9,h⟩;unfold wY;show(aT _ _:US) _ [some<|.pu<|.int m,none,none];rw[aO];left
 by_cases m0:m=0
 .rw[a7 m0];exact⟨ac,h [0] ae (λ_=>rfl) (λz=>absurd m0 z) ae⟩
 rw[a6 m0];unfold aB0;rw[aO];left;refine⟨ac,?_⟩
 refine bP m.natAbs (λk=> .int (1+k)) _ ?_
  (λi ρ=> ∃(l:List Int) (z:Option B),ρ=[some<|.pu<|.int m,some<|.ow<|l.map .int,z]/\l.length<=2*i/\ ∀x,x∈l↔(x∣m/\1<=x.natAbs/\x.natAbs<=i)) ⟨[],none,rfl,ae,λx=> ?_⟩ ?_ ?_
 .intro Q' q;left;have e:(if m<0 then -m else m)=(m.natAbs:Int):=by split<;>lia
  rw[e];refine⟨ad,?_⟩
  rw[show((m.natAbs:Int)+1-1).toNat=m.natAbs by lia]
  exact q
 .simp;lia
 .rintro i ρ hi ⟨l,z,rfl,ll,hl⟩;left;refine⟨ae,ad,?_⟩
  rw[d5 _<|show(0:Int)<1+(i:Int)by lia]
  split
  .rename_i hd
   have dv:(1+(i:Int))∣m:=Int.dvd_of_emod_eq_zero hd;refine⟨?_,?_,l++[1+(i:Int),-(1+(i:Int))],some<|.pu<|.int<|1+(i:Int),?_,?_,λx=> ?_⟩
   .rw[aP];exact b9 (show _<2000 by lia) ac
   .rw[cS,aP];exact b9 (show _<2000 by simp;lia) ac
   .rw[cE];simp
   .rw[cS];simp;lia
   .rw[eE,hl];constructor
    .rintro(⟨h1,h2,h3⟩|hx)
     .exact⟨h1,h2,ad⟩
     .simp at hx
      rcases hx with rfl|rfl
      .exact⟨dv,ad,ad⟩
      .exact⟨by first|exact Int.neg_dvd.mpr dv| (rw[show -1+ -(i:Int)= -(1+(i:Int))by lia];exact Int.neg_dvd.mpr dv),ad,ad⟩
    .rintro⟨h1,h2,h3⟩
     by_cases c:x.natAbs<=i
     .exact .inl ⟨h1,h2,c⟩
     .refine .inr ?_
      simp
      lia
  .rename_i hd
   have dv: ¬(1+(i:Int))∣m:=λz=>hd (zH z)
   refine⟨l,_,rfl,ad,λx=> ?_⟩
   rw[hl];constructor
   .rintro⟨h1,h2,h3⟩;exact⟨h1,h2,ad⟩
   .rintro⟨h1,h2,h3⟩;refine⟨h1,h2,?_⟩
    by_cases c:x.natAbs<=i
    .exact c
    .exfalso
     have:x=1+(i:Int)\/x= -(1+(i:Int)):=ad
     rcases this with rfl|rfl
     .exact dv h1
     .exact dv (Int.neg_dvd.mp h1)
 .rintro ρ ⟨l,z,rfl,ll,hl⟩;left;refine h l ad (λz=>absurd z m0) (λ_ x=> ?_) λx hx=> ?_
  .rw[hl];exact⟨λq=>q.1,λq=>⟨q,(aJ4 q m0).2,(aJ4 q m0).1⟩⟩
  .have:=(hl x).mp hx
   lia
def nZ:Φ:=λds Q=> ∃p:List Int,ds=[aJ p]/\d7 p/\((∀z,ev p z≠0)->Q (.pu .non))/\ ∀l r,Fac p l r->Red p->Q (.pu<|.tup [aJ l,aJ r])
def sT:US:=(cV<|uC .non)
def o7:US:=(aT (jJ (fG<|aR rF<|a8 (uIx (aX 0)<|uC<|.int 0) aM) (bU 1)<|fX (dQ<|uOp (iV false) (aR t9<|a8 (aC 0)<|a8 (aC 1) aM)<|uC<|.int 0) (aT (bG 2<|i5<|a8 (pG<|aC 1)<|a8 (uC<|.int 1) aM)<|cV<|i5<|a8 (aC 2)<|a8 (uIx (uV<|aR gI<|a8 (aC 0)<|a8 (aC 2) aM)<|uC<|.int 0) aM) dN) sT)
theorem b46 (p:List Int)(j:Nat)(h:p.length<=j):p.getD j 0=0:=by rw[aQ,iJ h];rfl
theorem aQ1: ∀ds Q,nZ ds Q->o7 {nx:=λ_=>Q (.pu .non),rt:=Q} (init ["p","z","l"] ds):=by
 rintro ds Q ⟨p,rfl,hp,hn,hy⟩;have hlo:=hp.ok.lo;have hhi:=hp.ok.hi;unfold o7;show(aT _ _:US) _ [some<|.pu<|.tup<|p.map .int,none,none];rw[aO];have p0:(p.getD 0 0).natAbs<=499:=fS hp.ok.small 0;have key: ∀l:List Int,(p.getD 0 0=0->l=[0])->(p.getD 0 0≠0-> ∀x,x∈l↔x∣p.getD 0 0)->(∀x∈l,ev p x≠0)-> ∀z,ev p z≠0:=λl l0 l1 hl z hz=>by
  by_cases c:p.getD 0 0=0
  .have:=hl 0 (by rw[l0 c];simp)
   rw[cS1 hp]at this;exact this c
  .exact hl z ((l1 c z).mpr<|dF3 hp hz) hz
 unfold jJ;simp only[fG];left;rw[aA1 ad]
 refine⟨p.getD 0 0,rfl,p0,λl l9 l0 l1 lb=> ?_⟩
 dsimp only;rw[aP];refine⟨λi ρ=> ∃z1 z2,ρ=[some<|.pu<|.tup<|p.map .int,z1,z2]/\ ∀k,k<i->ev p (l.getD k 0)≠0,⟨none,none,rfl,λk hk=>ad⟩,?_,?_⟩
 .rintro i ρ hi ⟨z1,z2,rfl,hk⟩;have e3:(l.map D.int).getD i .non= .int (l.getD i 0):=by
   rw[aQ,bO,aS hi,aQ,aS hi];rfl
  rw[e3];have mem:l.getD i 0∈l:=by rw[aQ,aS hi];exact cY hi
  have zb:=lb _ mem;generalize ez:l.getD i 0=z at zb;left;refine⟨ae,?_⟩
  refine⟨p.length,9,9,λj=>p.getD j 0,z,by rw[<-cK9];rfl,⟨λj=>aI (fS hp.ok.small j) ac,aI zb ac,ad,ac,ad⟩,?_⟩
  show(if ev p z=0 then _ else _)
  by_cases c:ev p z=0
  .rw[a7 c];refine⟨ac,?_⟩
   obtain⟨r,r1,r2,r3,r4,r5,fac⟩:=quo hp c zb;refine⟨p.length,1,9,9,λm=>conv (λj=>r.getD j 0) (vU z) r.length m+0,vU z,?_,⟨ad,ac,rfl,λj hj=> ?_,λm hm=> ?_,λj=> ?_,ad,ac⟩,?_⟩
   .rw[<-r4];rfl
   .unfold vU;rw[b46];simp;lia
   .have e:p.getD m 0=conv (λj=>r.getD j 0) (vU z) r.length m+0:=by
     have:p[m]? =some (conv (λj=>r.getD j 0) (vU z) r.length m+0):=by
      conv=>lhs;rw[r4]
      rw[b99 hm]
     rw[aQ,this];rfl
    rw[<-e];exact aI (fS hp.ok.small m) ac
   .unfold vU;refine fS (b:=2^9) (λx hx=> ?_) j
    simp at hx
    rcases hx with rfl|rfl
    .rw[l7];exact aI zb ac
    .decide
   .have dc:=bE1 (u:=λj=>r.getD j 0) (b:=vU z) (low:=λ_=>0) (d:=1) rfl (λj hj=>by unfold vU;rw[b46];simp;lia) (λ_ _=>rfl) r.length
    have el:p.length-1=r.length:=ad
    rw[el];have qe:rwF (gM (divQ (vU z) 1 r.length λm=>conv (λj=>r.getD j 0) (vU z) r.length m+0) r.length) (divQ (vU z) 1 r.length λm=>conv (λj=>r.getD j 0) (vU z) r.length m+0)=r:=by
     have cn:gM (divQ (vU z) 1 r.length λm=>conv (λj=>r.getD j 0) (vU z) r.length m+0) r.length=r.length:=t7 (aG _) (λm a b=>ad) (.inr (by
      rw[dc.2 (r.length-1) ad,r3];decide))
     rw[cn]
     conv=>rhs;rw[cK9 r]
     exact dU λj hj=>dc.2 j hj
    rw[qe];left;rw[show atI [aJ r,aJ<|rwF (gM (divL (vU z) 1 r.length λm=>conv (λj=>r.getD j 0) (vU z) r.length m+0) p.length)<|divL (vU z) 1 r.length λm=>conv (λj=>r.getD j 0) (vU z) r.length m+0] 0=some (aJ r)from d4 (j:=0) rfl]
    refine⟨ac,hy [-z,1] r fac<|.inl ⟨z,c⟩⟩
  .rw[a6 c];refine⟨_,_,rfl,λk hk2=> ?_⟩
   by_cases ck:k<i
   .exact hk k ck
   .have:k=i:=ad
    rw[this,ez];exact c
 .rintro ρ ⟨z1,z2,rfl,hk⟩;unfold sT;left;refine hn (key l l0 l1 λx hx=> ?_)
  obtain⟨k,hk2,rfl⟩:=List.getElem_of_mem hx;have:=hk k hk2;rw[aQ,aS hk2]at this;exact this
def wZ:Φ:=λds Q=> ∃t m:Int,ds=[.int t,.int m]/\t.natAbs<=2^20/\m.natAbs<=2^20/\ ∀l:List Int,l.length<=2->(∀u,u∈l↔u*(t-u)=m)->Q (.ow<|l.map .int)
def aB1:US:=(aT (fX (dQ<|uOp (iV true) (uOp fL (aC 3)<|aC 3)<|aC 2) (cV<|gT aM) dN)<|cV<|gT<|a8 (uOp aS9 (uOp fY (aC 0)<|aC 3)<|uC<|.int 2)<|a8 (uOp aS9 (uOp M.gSub (aC 0)<|aC 3)<|uC<|.int 2) aM)
def aB2:US:=(aT (bG 3<|aR aZ8<|a8 (aC 2) aM) aB1)
def aB3:US:=(aT (fX (dQ<|uOp (wP λi j=>decide (i<j)) (aC 2)<|uC<|.int 0) (cV<|gT aM) dN) aB2)
def x8:US:=(aT (bG 2<|uOp M.gSub (uOp fL (aC 0)<|aC 0)<|uOp fL (uC<|.int 4)<|aC 1) aB3)
theorem sq_nn (x:Int):0<=x*x:=by
 rcases le_total 0 x with h|h
 .exact mul_nonneg h h
 .exact Int.mul_nonneg_of_nonpos_of_nonpos h h
theorem dF4 (ha:0<=a)(h:a<=b):a*a<=b*b:=a06 h h ha ad
theorem dZ6 {g:Int}(hg:0<=g)(h1:g*g<=x*x)(h2:x*x< (g+1)*(g+1)):x=g\/x= -g:=by
 have e:(x.natAbs:Int)*(x.natAbs:Int)=x*x:=Int.natAbs_mul_self;have a1:(x.natAbs:Int)<=g:=by
  by_cases c:(x.natAbs:Int)<=g
  .exact c
  .have:=dF4 (a:=g+1) (b:=(x.natAbs:Int)) ad ad
   lia
 have a2:g<=(x.natAbs:Int):=by
  by_cases c:g<=(x.natAbs:Int)
  .exact c
  .have:=dF4 (a:=(x.natAbs:Int)+1) (b:=g) ad ad
   have h3:(x.natAbs:Int)*(x.natAbs:Int)< ((x.natAbs:Int)+1)*((x.natAbs:Int)+1):=by
    have:((x.natAbs:Int)+1)*((x.natAbs:Int)+1)=(x.natAbs:Int)*(x.natAbs:Int)+2*(x.natAbs:Int)+1:=by grind
    lia
   lia
 lia
theorem par {t g:Int}(h:g*g=t*t-4*m):(t+g)%2=0/\(t-g)%2=0:=by
 have h1:(t-g)*(t+g)=4*m:=by grind
 rcases Int.emod_two_eq (t+g)with c|c
 .exact⟨c,ad⟩
 .exfalso
  obtain⟨a,ha⟩: ∃a,t+g=2*a+1:=⟨(t+g)/2,ad⟩
  obtain⟨b,hb⟩: ∃b,t-g=2*b+1:=⟨(t-g)/2,ad⟩
  rw[ha,hb]at h1;have:2*(2*(b*a)+b+a-2*m)+1=0:=by grind
  lia
theorem bM9: ∀ds Q,wZ ds Q->x8 {nx:=λ_=>Q (.pu .non),rt:=Q} (init ["t","m","s","g"] ds):=by
 rintro ds Q ⟨t,m,rfl,ht,hm,h⟩;have p20:(2:Nat)^20=1048576:=ac
 have tt:(t*t).natAbs<=2^20*2^20:=jH ht ht;unfold x8;show(aT _ _:US) _ [some<|.pu<|.int t,some<|.pu<|.int m,none,none];rw[aO];left;refine⟨cmL aa aa,cmL ac ac,?_⟩
 have id1: ∀u:Int,u*(t-u)=m↔(2*u-t)*(2*u-t)=t*t-4*m:=λu=>by
  constructor
  .intro q;grind
  .intro q;have:4*(u*(t-u))=4*m:=by grind
   omega
 generalize esq:t*t-4*m=sq at id1;have sqb:sq.natAbs<=2^60:=by
  have:(2:Nat)^60=1152921504606846976:=ac
  have:(2:Nat)^20*2^20=1099511627776:=ac
  omega
 unfold aB3;rw[aO];left
 by_cases s0:sq<0
 .rw[a7 s0];refine⟨ac,h [] ae λu=> ?_⟩
  rw[id1];simp;intro q;have:=sq_nn (2*u-t);omega
 rw[a6 s0];unfold aB2;rw[aO];left;refine⟨sq,rfl,aa,Sm.pow sqb ac,λg g0 g1 g2=> ?_⟩
 have g30:g<=2^30:=by
  by_cases c:g<=2^30
  .exact c
  .have:=dF4 (a:=2^30+1) (b:=g) ac aa
   have:((2:Int)^30+1)*(2^30+1)>2^60:=ac
   have:((2^60:Nat):Int)=2^60:=ac
   omega
 have k30:(2:Int)^30=1073741824:=ac
 unfold aB1;dsimp only;rw[aO];left;refine⟨cmL aa aa,?_⟩
 by_cases c:g*g=sq
 .rw[a6 λz=>z c]
  rw[uO _ ac,uO _ ac]
  have pp:=par (t:=t) (g:=g) (m:=m) (by rw[c,esq])
  refine⟨⟨ac,aP9 ac ac⟩,⟨ac,aP9 ac ac⟩,ac,?_⟩
  refine h [(t+g)/2,(t-g)/2] ae λu=> ?_
  rw[id1];simp;constructor
  .rintro(rfl|rfl)
   .have:2*((t+g)/2)-t=g:=aa
    rw[this];exact c
   .have:2*((t-g)/2)-t= -g:=aa
    rw[this,Int.neg_mul_neg];exact c
  .intro q;have:=dZ6 (g:=g) (x:=2*u-t) g0 aa aa
   omega
 .rw[a7 c];refine⟨ac,h [] ae λu=> ?_⟩
  rw[id1];simp;intro q;rw[<-q]at g1 g2 c;rcases dZ6 g0 g1 g2 with z|z
  .rw[z]at c;exact c rfl
  .rw[z,Int.neg_mul_neg]at c;exact c rfl
def dF5 (g:UG)(tb:US)(E:UD)(b:B)(ρ1:Ev):Prop:=match oO b.d with
 | some l=> ∃Pv:Nat->Ev->Prop,Pv 0 ρ1/\(∀i ρ,i<l.length->Pv i ρ->g (.pu<|l.getD i .non) ρ λρ2=>tb {E with nx:=Pv (i+1),ct:=Pv (i+1),bk:=E.nx} ρ2)/\ ∀ρ,Pv l.length ρ->E.nx ρ
 | none=>False
theorem bE9 {φ:Φ}{t:UA}{g:UG}{E:UD}:jJ (fG<|aR φ t) g tb E ρ=t ρ λds ρ1=>φ ds λb=>dF5 g tb E b ρ1:=rfl
theorem b47 {g:UG}{E:UD}{ρ1:Ev}(l:List Int)(Pv:Nat->Ev->Prop)(h0:Pv 0 ρ1)(hs: ∀i ρ,i<l.length->Pv i ρ->g (.pu<|.int<|l.getD i 0) ρ λρ2=>tb {E with nx:=Pv (i+1),ct:=Pv (i+1),bk:=E.nx} ρ2)(hd: ∀ρ,Pv l.length ρ->E.nx ρ):dF5 g tb E (.ow<|l.map .int) ρ1:=by
 show ∃Pv:Nat->Ev->Prop,Pv 0 ρ1/\(∀i ρ,i< (l.map D.int).length->Pv i ρ->g (.pu<|(l.map D.int).getD i .non) ρ λρ2=>tb {E with nx:=Pv (i+1),ct:=Pv (i+1),bk:=E.nx} ρ2)/\ ∀ρ,Pv (l.map D.int).length ρ->E.nx ρ
 rw[aP];refine⟨Pv,h0,λi ρ hi hp=> ?_,hd⟩
 have e3:(l.map D.int).getD i .non= .int (l.getD i 0):=by
  rw[aQ,bO,aS hi,aQ,aS hi];rfl
 rw[e3];exact hs i ρ hi hp
theorem bT0 (hi:i<l.length):l.getD i 0∈l:=by rw[aQ,aS hi];exact cY hi
theorem cA4 (h: ∀k,k<l.length->P (l.getD k 0)): ∀x∈l,P x:=λx hx=>by
 obtain⟨k,hk,rfl⟩:=List.getElem_of_mem hx;have:=h k hk;rw[aQ,aS hk]at this;exact this
def kQ:Φ:=λds Q=> ∃a b c d:Int,ds=[aJ [a,b,c,d,1]]/\(∀x∈[a,b,c,d],x.natAbs<=499)/\a≠0/\((∀v u w s,[a,b,c,d,1]≠qq v u w s)->Q (.pu .non))/\
 ∀v u w s,[a,b,c,d,1]=qq v u w s->(∀x∈[v,u,w,s],x.natAbs<=2^40)->Q (.pu<|.tup [aJ [v,u,1],aJ [w,s,1]])
def kR:US:=(aT (jJ (fG<|aR rF<|a8 (uIx (aX 0)<|uC<|.int 0) aM) (bU 1)<|aT (bG 2<|uOp aS9 (uIx (aX 0)<|uC<|.int 0)<|aC 1)<|jJ (fG<|aR wZ<|a8 (uIx (aX 0)<|uC<|.int 3)<|a8 (uOp M.gSub (uOp M.gSub (uIx (aX 0)<|uC<|.int 2)<|aC 1)<|aC 2) aM) (bU 3)<|aT (bG 4<|uOp M.gSub (uIx (aX 0)<|uC<|.int 3)<|aC 3)<|fX (dQ<|uOp (iV false) (uOp fY (uOp fL (aC 3)<|aC 2)<|uOp fL (aC 1)<|aC 4)<|uIx (aX 0)<|uC<|.int 1) (cV<|i5<|a8 (i5<|a8 (aC 1)<|a8 (aC 3)<|a8 (uC<|.int 1) aM)<|a8 (i5<|a8 (aC 2)<|a8 (aC 4)<|a8 (uC<|.int 1) aM) aM) dN)<|cV<|uC .non)
theorem d08 {u t:Int}(h:u*(t-u)=m)(ht:t.natAbs<=2^20)(hm:m.natAbs<=2^20):u.natAbs<=2^20:=by
 by_cases c:t-u=0
 .have:u=t:=ad
  rw[this];exact ht
 .have h1:m.natAbs=u.natAbs*(t-u).natAbs:=by rw[<-h,cZ]
  have h2:u.natAbs*1<=u.natAbs*(t-u).natAbs:=aN8 _ ad
  lia
theorem a77: ∀ds Q,kQ ds Q->kR {nx:=λ_=>Q (.pu .non),rt:=Q} (init ["p","v","w","u","s"] ds):=by
 rintro ds Q ⟨a,b,c,d,rfl,hs,a0,hn,hy⟩;simp only[nK]at hs;obtain⟨ha,hb,hc,hd,_⟩:=hs;have p20:(2:Nat)^20=1048576:=ac
 have p40:(2:Nat)^40=1099511627776:=ac
 unfold kR;show(aT _ _:US) _ [some<|.pu<|.tup [.int a,.int b,.int c,.int d,.int 1],none,none,none,none];have i0:atI [D.int a,.int b,.int c,.int d,.int 1] 0=some (.int a):=d4 (j:=0) rfl;have i1:atI [D.int a,.int b,.int c,.int d,.int 1] 1=some (.int b):=d4 (j:=1) rfl;have i2:atI [D.int a,.int b,.int c,.int d,.int 1] 2=some (.int c):=d4 (j:=2) rfl
 have i3:atI [D.int a,.int b,.int c,.int d,.int 1] 3=some (.int d):=d4 (j:=3) rfl;rw[aO,bE9];left;rw[i0];refine⟨a,rfl,ha,λl l9 _ l1 lb=> ?_⟩
 have ld:=l1 a0;refine b47 l (λi ρ=> ∃z1 z2 z3 z4,ρ=[some<|.pu<|.tup [.int a,.int b,.int c,.int d,.int 1],z1,z2,z3,z4]/\ ∀k,k<i-> ∀u w s,[a,b,c,d,1]≠qq (l.getD k 0) u w s) ⟨none,none,none,none,rfl,λk hk=>ad⟩ ?_ ?_
 .rintro i ρ hi ⟨z1,z2,z3,z4,rfl,hk⟩;have mem:=bT0 hi;have vb:=lb _ mem;have vd:=(ld _).mp mem;generalize ev':l.getD i 0=v at vb vd;obtain⟨w,rfl⟩:=vd;have v0:v≠0:=λz=>a0 (by rw[z,eQ])
  have wb:w.natAbs<=499:=by
   rw[cZ]at ha;have:1*w.natAbs<=v.natAbs*w.natAbs:=nJ _ ad
   lia
  refine⟨ae,?_⟩
  show(aT _ _:US) _ [some<|.pu<|.tup [.int<|v*w,.int b,.int c,.int d,.int 1],some<|.pu<|.int v,z2,z3,z4]
  rw[aO,j4];left;rw[i0];dsimp only;rw[Int.mul_fdiv_cancel_left _ v0];refine⟨⟨v0,aP9 ad ad⟩,?_⟩
  rw[bE9];left;rw[i3,i2];dsimp only;have cv:(c-v-w).natAbs<=2^20:=by
   have:=na2 (na2 hc (B:=499) (b:= -v) (by rw[l7];exact vb)) (B:=499) (b:= -w) (by rw[l7];exact wb)
   exact aI this ac
  have d2:d.natAbs<=2^20:=aI hd ac
  refine⟨d,c-v-w,rfl,d2,cv,λus _ hus=> ?_⟩
  refine b47 us (λj ρ=> ∃z3 z4,ρ=[some<|.pu<|.tup [.int<|v*w,.int b,.int c,.int d,.int 1],some<|.pu<|.int v,some<|.pu<|.int w,z3,z4]/\ ∀k,k<j->us.getD k 0*w+v*(d-us.getD k 0)≠b) ⟨_,_,rfl,λk hk=>ad⟩ ?_ ?_
  .rintro j ρ hj ⟨z3,z4,rfl,hk2⟩;have um:=(hus _).mp (bT0 hj);generalize eu:us.getD j 0=u at um;have ub:=d08 um d2 cv;refine⟨ae,?_⟩
   show(aT _ _:US) _ [some<|.pu<|.tup [.int<|v*w,.int b,.int c,.int d,.int 1],some<|.pu<|.int v,some<|.pu<|.int w,some<|.pu<|.int u,z4]
   rw[aO];left;rw[i3];dsimp only;rw[i1];refine⟨cmL ad ad,cmL ad ad,?_⟩
   dsimp only
   by_cases q:u*w+v*(d-u)=b
   .rw[a7 q];refine⟨ac,ac,ac,hy v u w (d-u) ?_ ?_⟩
    .unfold qq;rw[<-q];have e1:v+w+u*(d-u)=c:=by rw[um];lia
     have e2:u+(d-u)=d:=ad
     rw[e1,e2]
    .simp only[nK];exact⟨ad,ad,ad,ad,ae⟩
   .rw[a6 q];refine⟨_,_,rfl,λk hk3=> ?_⟩
    by_cases ck:k<j
    .exact hk2 k ck
    .have:k=j:=ad
     rw[this,eu];exact q
  .rintro ρ ⟨z3,z4,rfl,hk2⟩;have no:=cA4 (P:=λu=>u*w+v*(d-u)≠b) hk2
   refine⟨_,_,_,_,rfl,λk hk3=> ?_⟩
   by_cases ck:k<i
   .exact hk k ck
   .have:k=i:=ad
    rw[this,ev'];intro u w' s q;unfold qq at q
    injection q with q0 q;injection q with q1 q;injection q with q2 q;injection q with q3 q
    have ww:w'=w:=by
     have:=Int.eq_of_mul_eq_mul_left v0 q0
     lia
    subst ww;have us':s=d-u:=ad
    subst us';exact no u ((hus u).mpr ad) q1.symm
 .rintro ρ ⟨z1,z2,z3,z4,rfl,hk⟩;left;refine hn λv u w s q=> ?_
  have no:=cA4 (P:=λv=> ∀u w s,[a,b,c,d,1]≠qq v u w s) hk
  refine no v ((ld v).mpr ?_) u w s q
  unfold qq at q
  injection q with q0 q
  exact⟨w,q0⟩
def aQ2:Φ:=λds Q=> ∃p:List Int,ds=[aJ p]/\d7 p/\(¬Red p->Q (.pu .non))/\ ∀l r,Fac p l r->Red p->Q (.pu<|.tup [aJ l,aJ r])
def rP:US:=(rJ 1)
def aB4:US:=(aT (fX (bX5 (dQ<|bM1 false<|aC 1)<|dQ<|uOp (iV false) (lZ<|aX 0)<|uC<|.int 5) (bG 1<|aR kQ<|a8 (aC 0) aM) dN) rP)
def b48:US:=(aT (bG 1<|aR nZ<|a8 (aC 0) aM) aB4)
def aQ3:US:=(aT (aT3<|aR i9<|a8 (aC 0) aM) b48)
theorem cL9: ∀ds Q,aQ2 ds Q->aQ3 {nx:=λ_=>Q (.pu .non),rt:=Q} (init ["p","q"] ds):=by
 rintro ds Q ⟨p,rfl,hp,hn,hy⟩;unfold aQ3;show(aT _ _:US) _ [some<|.pu<|.tup<|p.map .int,none];rw[aO];left;refine⟨p,rfl,hp,?_⟩;try dsimp only
 unfold b48;rw[aO];left;refine⟨p,rfl,hp,λnr=> ?_,λl r fac red=> ?_⟩
 .try dsimp only
  unfold aB4;rw[aO];left;rw[aP]
  by_cases c:(p.length:Int)=5
  .simp only[c,cU];have sm:=hp.ok.small;rcases hp.cs with⟨a,b,rfl⟩| ⟨a,b,c',rfl⟩| ⟨a,b,c',d,rfl⟩
   .simp at c
   .simp at c
   .simp only[nK]at sm;refine⟨a,b,c',d,rfl,by simp only[nK];exact⟨sm.1,sm.2.1,sm.2.2.1,sm.2.2.2.1,ae⟩,λz=> ?_,λnq=> ?_,λv u w s q bd=> ?_⟩
    .refine nr 0 ?_
     rw[cS1 hp];exact z
    .unfold rP;left;refine hn λrd=> ?_
     rcases rd with⟨z,hz⟩| ⟨v,u,w,s,q⟩
     .exact nr z hz
     .exact nq v u w s q
    .unfold rP;left;exact hy _ _ (by rw[q];exact fac_qq bd) (.inr ⟨v,u,w,s,q⟩)
  .simp only[c,cU,dC];unfold rP;left;refine hn λrd=> ?_
   rcases rd with⟨z,hz⟩| ⟨v,u,w,s,q⟩
   .exact nr z hz
   .rw[q]at c;exact c rfl
 .try dsimp only
  unfold aB4;rw[aO];left;unfold rP;left;exact hy l r fac red
noncomputable def fOf (p:List Int):Nat->Int:=λj=>p.getD j 0
theorem d7.rf (h:d7 p):RF (p.length-1) (fOf p):=by
 have lo:=h.ok.lo;have hi:=h.ok.hi;refine⟨aa,aa,?_,λj hj=> ?_,λj=> ?_⟩
 .obtain⟨q,rfl⟩:=h.one;show(q++[1]).getD _ 0=1;rw[cS,aQ,tP ae]
  simp
 .show p.getD j 0=0
  rw[aQ,iJ aa]
  rfl
 .exact aI (fS h.ok.small j) ac
theorem d7.row (h:d7 p):aJ p=aJ (rwF (p.length-1+1)<|fOf p):=by
 have lo:=h.ok.lo;have e:=cK9 p;rw[show p.length-1+1=p.length by omega]
 exact fE aJ e
def wB:Φ:=λds Q=> ∃(r:List Int) (k:Int),ds=[aJ r,.int k]/\r.length<=1000/\ -1000<=k/\k<=1000/\Q (.pu<|aJ<|r++replicate (k-(r.length:Int)).toNat 0)
def aB5:US:=(cV<|uOp fY (aC 0)<|uOp cQ8 (i5<|a8 (uC<|.int 0) aM)<|uOp M.gSub (aC 1)<|lZ<|aX 0)
theorem cA5: ∀ds Q,wB ds Q->aB5 {nx:=λ_=>Q (.pu .non),rt:=Q} (init ["r","s"] ds):=by
 rintro ds Q ⟨r,k,rfl,hr,k0,k1,h⟩;unfold aB5;simp only[aJ];show(cV _:US) _ [some<|.pu<|.tup<|r.map .int,some<|.pu<|.int k];left;rw[aP];have e:(replicate (k-(r.length:Int)).toNat [D.int 0]).flatten=(replicate (k-(r.length:Int)).toNat 0).map D.int:=c89 _ _;rw[e,<-cE];refine⟨ac,⟨ae,ad,ad,aI (show 1*(k-(r.length:Int)).toNat<=1000 by lia) ac⟩,?_,h⟩
 rw[aP,jZ];exact aI (show r.length+(k-(r.length:Int)).toNat<=3000 by lia) ac
def jL:ΦX:=λds Q Ex=> ∃p:List Int,ds=[aJ p]/\d7 p/\(¬Red p->Q (.pu .non))/\(Red p-> ∀l r,Fac p l r->Ex "FallsApart" [aJ l,aJ r])
def mS:USX:=(λEx=>aT ((λ_=>(bG 1<|aR aQ2<|a8 (aC 0) aM)) Ex) ((λEx=>fX (dQ<|bM1 true<|aC 1) ((aU0 "FallsApart" (uIx (aX 1)<|uC<|.int 0)<|uIx (aX 1)<|uC<|.int 1) Ex) ((λ_=>dN) Ex)) Ex))
theorem aB6: ∀ds Q Ex,jL ds Q Ex->ds.length=1:=by rintro ds Q Ex ⟨p,rfl,_⟩;rfl
theorem aI4: ∀ds Q Ex,jL ds Q Ex->mS Ex {nx:=λ_=>Q (.pu .non),rt:=Q} (init ["p","q"] ds):=by
 rintro ds Q Ex ⟨p,rfl,rp,h0,h1⟩;unfold mS;dsimp only;show(aT _ _:US) _ [some<|.pu<|aJ p,none];rw[aO];left;refine⟨p,rfl,rp,λnr=> ?_,λl r fac red=> ?_⟩
 .left
  simpa using h0 nr
 .left
  simp only[at0,at1];exact h1 red l r fac
def mC:ΦX:=λds Q Ex=> ∃(p:List Int) (size:Int),ds=[aJ p,.int size]/\d7 p/\Q (.pu .non)/\((∃q g,dU2 (p.length-1) (fOf p) size q g)-> ∀es,Ex "NotWhole" es)
def qQ:USX:=(λEx=>aT ((λ_=>(bG 2<|aR sH<|a8 (aC 0)<|a8 (aR uY<|a8 (aC 0)<|a8 (aC 1) aM) aM)) Ex) ((λEx=>fX (dQ<|bM1 true<|aC 2) ((λEx=>aT ((λ_=>(d82 (aC 2)<|sS<|fJ 3<|fJ 4 sR)) Ex) ((aU0 "NotWhole" (aC 3)<|aR wB<|a8 (aR cA<|a8 (dO [3] [none,some 3,none] 2 (fG<|aC 4) (bU 0) (λρ Q=>Q true ρ)<|uOp kW (aC 0)<|aC 1) aM)<|a8 (uOp M.gSub (lZ<|aX 0)<|uC<|.int 1) aM) Ex)) Ex) ((λ_=>dN) Ex)) Ex))
theorem aV1: ∀ds Q Ex,mC ds Q Ex->ds.length=2:=by rintro ds Q Ex ⟨p,size,rfl,_⟩;rfl
theorem b00: ∀ds Q Ex,mC ds Q Ex->qQ Ex {nx:=λ_=>Q (.pu .non),rt:=Q} (init ["p","s","o","q","f"] ds):=by
 rintro ds Q Ex ⟨p,size,rfl,rp,h0,h1⟩;have rf:=rp.rf;rw[rp.row];generalize p.length-1=n at *;generalize fOf p=f at *;unfold qQ;dsimp only;show(aT _ _:US) _ [some<|.pu<|aJ<|rwF (n+1) f,some<|.pu<|.int size,none,none,none];rw[aO];left;refine⟨n,f,size,rfl,rf,λl hl hP=>⟨n,f,size,l,rfl,rf,hl,hP,?_,λq g outs=> ?_⟩⟩
 .left
  simpa using h0
 .have pp:=aZ6 outs.pr;have p2:=pp.lo;have p3:=pp.hi;have ql:(dU3 n f g).length<=5:=by
   unfold dU3;rw[a36];have:=a37 (divQ g.2 g.1 (n+1-g.1) f) (n+1-g.1);have:=rf.n4
   lia
  generalize dU3 n f g=r at *;simp only[aJ];left;refine⟨ac,ac,trivial,?_⟩
  refine dF (t0:=0) r.length (λk=>(r.map D.int).getD k .non) [some<|.pu<|.tup<|(rwF (n+1) f).map .int,some<|.pu<|.int size,some<|.pu<|.tup [.int q,.tup<|r.map .int],some<|.pu<|.int q,some<|.pu<|.tup<|r.map .int] (λQ' q=> ?_) ad (λx l'=>[x,some<|.pu<|.int q,some<|.ow l']) none rfl (λ_ _ _=>rfl) (λ_ _=>cB _) (λ_ _ _ q=>q) (λ_ _ _=>rfl) (λk=> .int (r.getD k 0%q)) ?_ ?_
  .left
   rw[aP];exact q
  .intro k l' Q' hk q';have e3:(r.map D.int).getD k .non= .int (r.getD k 0):=by
    rw[aQ,bO,aQ,aS hk];rfl
   rw[e3]at q'⊢;left;refine⟨ad,?_⟩
   rw[d5 _ ad]
   exact q'
  .have e4:(List.range r.length).map (λk=>D.int (r.getD k 0%q))=((List.range r.length).map λk=>r.getD k 0%q).map D.int:=by rw[i4];rfl
   rw[e4];have n4:=rf.n4;left;refine⟨_,_,rfl,by rw[aP,tY];lia,?_,?_,h1 ⟨q,g,outs⟩ _⟩
   .rw[bY];lia
   .rw[bY];lia
structure dF6 (p:List Int):Prop where
 rp:d7 p
 irr: ¬Red p
 meas:(i8 4<|iW p).natAbs<=39999
 whole: ¬ ∃q g,dU2 (p.length-1) (fOf p) (i8 4<|iW p) q g
def yO:ΦM:=λds Q Ex=> ∃p:List Int,ds=[aJ p]/\d7 p/\(¬Red p->(i8 4<|iW p).natAbs<=39999->Q [aJ p,.int<|(p.length:Int)-1,.int<|i8 4<|iW p])/\(Red p-> ∀l r,Fac p l r->Ex "FallsApart" [aJ l,aJ r])/\(¬Red p-> ¬dF6 p->Ex "TooGreat" []/\ ∀es,Ex "NotWhole" es)
def bF0:USX:=(λEx=>aT ((λ_=>(aT3<|aR i9<|a8 (aC 1) aM)) Ex) ((λEx=>aT ((λEx=>aT3 (bZ7 jL (a8 (aC 1) aM) Ex)) Ex) ((λEx=>aT ((λ_=>(bG 2<|aR a34<|a8 (aC 1) aM)) Ex) ((λEx=>aT ((λEx=>fX (dQ<|uOp (wP λi j=>decide (j<i)) (aR cY2<|a8 (aC 2) aM)<|uC<|.int 39999) ((aZ2 "TooGreat"<|a8 (uC<|.str "a ring's measure is from -39,999 to 39,999") aM) Ex) ((λ_=>dN) Ex)) Ex) ((λEx=>aT3 (bZ7 mC (a8 (aC 1)<|a8 (aC 2) aM) Ex)) Ex)) Ex)) Ex)) Ex))
def bF1:UE:=(aC 1)
def bF2:UE:=(uOp M.gSub (lZ<|aX 1)<|uC<|.int 1)
def bF3:UE:=(aC 2)
theorem d09: ∀ds Q Ex,yO ds Q Ex->ds.length+1=2:=by rintro ds Q Ex ⟨p,rfl,_⟩;rfl
theorem dF7: ∀a ds Q Ex,yO ds Q Ex->bF0 Ex {nx:=λρ=>ρ[0]? =some (some<|.pu<|.adr a)/\bF1 ρ λb1 ρ1=>bF2 ρ1 λb2 ρ2=>bF3 ρ2 λb3 _=>Q [b1.d,b2.d,b3.d],rt:=λ_=>False} (init ["s","p","m"] (.adr a::ds)):=by
 rintro a ds Q Ex ⟨p,rfl,rp,h0,hr,h1⟩;have lo:=rp.ok.lo;unfold bF0;dsimp only;show(aT _ _:US) _ [some<|.pu<|.adr a,some<|.pu<|aJ p,none];rw[aO];left;refine⟨p,rfl,rp,?_⟩;left;refine⟨p,rfl,rp,λnr=> ?_,hr⟩
 refine⟨p,rfl,rp,?_⟩
 left
 by_cases c:(39999:Int)< (if i8 4 (iW p)<0 then -i8 4 (iW p)else i8 4 (iW p))
 .rw[a7 c];refine⟨ac,(h1 nr λz=> ?_).1⟩
  have:=z.meas;split at c<;>omega
 .rw[a6 c];have me:(i8 4<|iW p).natAbs<=39999:=by split at c<;>omega
  refine⟨p,i8 4<|iW p,rfl,rp,⟨trivial,?_⟩,λo=>(h1 nr λz=>z.whole o).2⟩
  unfold bF1 bF2 bF3;simp only[aJ];left;rw[aP];exact h0 nr me
noncomputable def c15 (r:List Int)(m:Int):Bool:=r.any λc=>decide (c%m≠0)
noncomputable def dF8 (p:List Int)(size:Int):Bool:=prL.all λq=>decide (size%(q*q)≠0)||
 ((List.range q.toNat).all (λc=>c15 (bE7 (p.length-1) (fOf p)<|uU (c:Int)) (q*q))&&
   (decide (p.length≠5)||(List.range q.toNat).all λv=>(List.range q.toNat).all λu=>c15 (bE7 (p.length-1) (fOf p)<|quF (v:Int) (u:Int)) (q*q)))
theorem mp_one {p:Int}(mp:MP p F.1 F.2)(h1:F.1=1):F=uU (F.2 0):=by
 refine kH h1 (funext λj=> ?_)
 show F.2 j=if j=0 then F.2 0 else if j=1 then 1 else 0
 by_cases c0:j=0
 .rw[a7 c0,c0]
 .by_cases c1:j=1
  .rw[a6 c0,a7 c1,c1];have:=mp.top;rw[h1]at this;exact this
  .rw[a6 c0,a6 c1];exact mp.hi j ad
theorem aV2 (h: ∀c∈r,c%m=0):c15 r m=false:=by
 unfold c15;rw[List.any_eq_false];intro c hc;simp[h c hc]
theorem dF9 {size:Int}(rp:d7 p)(h:dF8 p size=true): ¬ ∃q g,dU2 (p.length-1) (fOf p) size q g:=by
 rintro⟨q,g,o⟩;have lo:=rp.ok.lo;have hi:=rp.ok.hi;have pp:=aZ6 o.pr;have h1:=eN.mp h q o.pr;rw[a05,dZ]at h1;have nz: ¬decide (size%(q*q)≠0)=true:=by rw[gC];exact λz=>z o.sq
 obtain⟨h2,h3⟩:=h1.resolve_left nz;obtain⟨R,mR,e⟩:=o.tw;have dg:p.length-1=g.1+g.1+R.1:=fE Prod.fst e;have g1:=o.g1
 by_cases c1:g.1=1
 .have eg:=mp_one o.mg c1;have r0:=o.mg.rng 0;have h4:=eN.mp h2 (g.2 0).toNat (eO.mpr ad)
  rw[show(((g.2 0).toNat:Nat):Int)=g.2 0 by lia,<-eg,aV2 o.all]at h4
  cases h4
 .have c2:g.1=2:=ad
  have eg:=mp_two o.mg c2;have r0:=o.mg.rng 0;have r1:=o.mg.rng 1;have n5: ¬decide (p.length≠5)=true:=by rw[gC];lia
  have h4:=(a05 _ _▸h3).resolve_left n5;have h5:=eN.mp (eN.mp h4 (g.2 0).toNat<|eO.mpr ad) (g.2 1).toNat (eO.mpr ad)
  rw[show(((g.2 0).toNat:Nat):Int)=g.2 0 by lia,show(((g.2 1).toNat:Nat):Int)=g.2 1 by lia,<-eg,aV2 o.all]at h5
  cases h5
noncomputable def qR:List (List Int):=[[5,0,1],[-10,0,1],[6,1,1],[-3,0,1],[-1,-1,0,1],[-2,0,0,1],[-1,4,0,1],[1,0,0,0,1],[-1,-1,0,0,1],[1,1,1,1,1],[-2,0,0,0,1],[1,0,-1,0,1]]
theorem cA6:qR.all (λp=>dF8 p (i8 4<|iW p)&&decide ((i8 4<|iW p).natAbs<=39999))=true:=af
theorem v7: ∀p∈qR,d7 p:=by
 intro p hp;have h:qR.all (λp=>decide (3<=p.length)&&decide (p.length<=5)&&p.all (λx=>decide (x.natAbs<=499))&&decide (p=p.dropLast++[1]))=true:=af
 have h1:=eN.mp h p hp;simp only[dZ,gC,eN]at h1;exact⟨⟨h1.1.1.1,h1.1.1.2,h1.1.2⟩,p.dropLast,h1.2⟩
theorem cS2 (f:Nat->Int)(z:Int): ∀n,∃k,ps f z (n+1)=f 0+z*k
 | 0=>⟨0,by show 0+f 0*z^0=_;rw[qF,kF,b6];lia⟩
 | n+1=>by
  obtain⟨k,hk⟩:=cS2 f z n;refine⟨k+f (n+1)*z^n,?_⟩;show ps f z (n+1)+f (n+1)*z^(n+1)=_;rw[hk,a15]
  grind
theorem aQ4 (h:z∣a)(ha:a≠0):z.natAbs<=a.natAbs:=le_of_dvd ad (Int.natAbs_dvd_natAbs.mpr h)
theorem c16:qR.all (λp=>decide (p.getD 0 0≠0)&&decide ((p.getD 0 0).natAbs<=10)&&(List.range 21).all λk=>decide (ev p ((k:Int)-10)≠0))=true:=af
theorem cM0:qR.all (λp=>decide (p.length≠5)||(decide ((p.getD 0 0).natAbs<=2)&&decide ((p.getD 2 0).natAbs<=1)&&decide ((p.getD 3 0).natAbs<=1)&&
  (List.range 5).all λv=>(List.range 5).all λw=>(List.range 7).all λu=>(List.range 9).all λs=>decide (p≠qq ((v:Int)-2) ((u:Int)-3) ((w:Int)-2) ((s:Int)-4))))=true:=af
theorem dG0 {u:Int}(h1:(u+s).natAbs<=1)(h2:(u*s).natAbs<=5):u.natAbs<=3:=by
 refine zE λz=> ?_
 rcases(show 4<=u\/u<= -4 by lia)with c|c
 .have:4*3<=u*(-s):=a06 c ad ac ad
  rw[Int.mul_neg]at this
  lia
 .have:4*3<=(-u)*s:=a06 ad ad ac ad
  rw[Int.neg_mul]at this
  lia
theorem off {c:Nat}(h:z.natAbs<=c): ∃k:Nat,k<2*c+1/\(k:Int)-(c:Int)=z:=⟨(z+c).toNat,ad,ad⟩
theorem d10: ∀p∈qR,¬Red p:=by
 intro p hp;have h1:=eN.mp c16 p hp;simp only[dZ,gC,eN,eO]at h1;obtain⟨⟨a0,a1⟩,a2⟩:=h1;have lo:=(v7 p hp).ok.lo;rintro(⟨z,hz⟩| ⟨v,u,w,s,e⟩)
 .unfold ev at hz;obtain⟨k,hk⟩:=cS2 (λj=>p.getD j 0) z (p.length-1)
  rw[show p.length-1+1=p.length by omega,hz]at hk
  have dv:z∣p.getD 0 0:=⟨-k,by rw[Int.mul_neg];omega⟩
  obtain⟨k,hk,ez⟩:=off (c:=10) (aI (aQ4 dv a0) a1);refine a2 k hk ?_;rw[show((10:Nat):Int)=10 from rfl]at ez
  rw[ez];exact hz
 .have h2:=eN.mp cM0 p hp;have l5:p.length=5:=by rw[e];rfl
  rw[a05]at h2;have h3:=h2.resolve_left (by rw[gC];omega)
  simp only[dZ,gC,eN,eO]at h3;obtain⟨⟨⟨b0,b2⟩,b3⟩,b4⟩:=h3;have e0:p.getD 0 0=v*w:=by rw[e];rfl
  have e2:p.getD 2 0=v+w+u*s:=by rw[e];rfl
  have e3:p.getD 3 0=u+s:=by rw[e];rfl
  have v2:=aQ4 (z:=v) ⟨w,e0⟩ a0;have w2:=aQ4 (z:=w) ⟨v,by rw[e0,kE]⟩ a0
  rw[e2]at b2;rw[e3]at b3;have ng: ∀{z:Int} {A:Nat},z.natAbs<=A->(-z).natAbs<=A:=λh=>by rw[l7];exact h
  have u3:=dG0 b3 (by
   have:=na2 (na2 b2<|ng<|aI v2 b0) (ng<|aI w2 b0);rw[show v+w+u*s+ -v+ -w=u*s by grind]at this
   exact this)
  obtain⟨kv,hv,ev⟩:=off (c:=2) (aI v2 b0);obtain⟨kw,hw,ew⟩:=off (c:=2) (aI w2 b0);obtain⟨ku,hu,eu⟩:=off u3;obtain⟨ks,hs,es⟩:=off (z:=s) (c:=4) (by
   have:=na2 b3 (ng u3);rw[show u+s+ -u=s by lia]at this
   exact this)
  refine b4 kv hv kw hw ku hu ks hs ?_
  subst ev ew eu es;exact e
theorem bF4: ∀p∈qR,dF6 p:=by
 intro p hp;have h1:=eN.mp cA6 p hp;simp only[dZ,gC]at h1;exact⟨v7 p hp,d10 p hp,h1.2,dF9 (v7 p hp) h1.1⟩
noncomputable def cP (C:Addr)(p:List Int):D:= .obj C ["poly","degree","measure"] [aJ p,.int<|(p.length:Int)-1,.int<|i8 4<|iW p]
theorem jV {C:Addr}(h:ρ[i]? =some (some<|.pu<|cP C p)):a97 "degree" (aC i) ρ Q=Q (.pu<|.int<|(p.length:Int)-1) ρ:=by
 unfold a97;rw[aU6 h];rfl
theorem aH0 {C:Addr}(h:ρ[i]? =some (some<|.pu<|cP C p)):a97 "poly" (aC i) ρ Q=Q (.pu<|aJ p) ρ:=by
 unfold a97;rw[aU6 h];rfl
def bF5:Φ:=λds Q=> ∃(r:D) (n:Nat) (u v:Nat->Int),ds=[r,aJ<|rwF n u,aJ<|rwF n v]/\n<=100/\Q (.pu<|aJ<|rwF n λj=>u j+v j)
def bF6:US:=(cV<|aR cA<|a8 (dO [] [none,none,none] 2 (cZ4<|a8 (aC 1)<|a8 (aC 2) aM) (sS<|fJ 0<|fJ 1 sR) (λρ Q=>Q true ρ)<|uOp fY (aC 0)<|aC 1) aM)
theorem cA7 {a b:UE}(n:Nat)(u v w:Nat->Int)(hn:n<=100)(ha: ∀Q':B->Ev->Prop,Q' (.pu<|aJ<|rwF n u) ρ->a ρ Q')(hb: ∀Q':B->Ev->Prop,Q' (.pu<|aJ<|rwF n v) ρ->b ρ Q')
  (hte: ∀i l (Q':B->Ev->Prop),i<n->Q' (.pu<|.int<|w i) [some<|.pu<|.int<|u i,some<|.pu<|.int<|v i,some<|.ow l]->te [some<|.pu<|.int<|u i,some<|.pu<|.int<|v i,some<|.ow l] Q') (h:Q (.ow<|(rwF n w).map .int) ρ) :
  dO [] [none,none,none] 2 (cZ4<|a8 a<|a8 b aM) (sS<|fJ 0<|fJ 1 sR) (λρ Q=>Q true ρ) te ρ Q:=by
 refine b45 (t0:=0) (t1:=1) n (λi=> .tup [((rwF n u).map D.int).getD i .non,((rwF n v).map D.int).getD i .non]) (λi=> .int (u i)) (λi=> .int (v i)) (λi hi=>by rw[mZ hi,mZ hi]) ρ (λQ' q=> ?_) ad (λx y l=>[x,y,some<|.ow l]) none none rfl (λ_ _ _ _ _=>rfl) (λ_ _ _=>⟨ae,ae⟩) (λ_ _ _ _ q=>q) (λ_ _ _ _=>rfl) (λi=> .int (w i)) hte ?_
 .unfold cZ4;rw[bK];refine ha _ ?_;rw[bK];refine hb _ ?_;show Q' (min ((rwF n u).map D.int).length ((rwF n v).map D.int).length) _ ρ;rw[bY,bY,Nat.min_self];exact q
 .rw[kJ];exact h
theorem dG1: ∀ds Q,bF5 ds Q->bF6 {nx:=λ_=>Q (.pu .non),rt:=Q} (init ["r","x","y"] ds):=by
 rintro ds Q ⟨r,n,u,v,rfl,hn,h⟩;unfold bF6;show(cV _:US) _ [some<|.pu r,some<|.pu<|aJ<|rwF n u,some<|.pu<|aJ<|rwF n v];rw[gW,cM,bK];refine cA7 n u v (λj=>u j+v j) hn (λQ' q=>q) (λQ' q=>q) (λi l Q' hi q=> ?_) ?_
 .left
  exact q
 .exact h
def b01:Φ:=λds Q=> ∃(r:D) (n:Nat) (u v:Nat->Int),ds=[r,aJ<|rwF n u,aJ<|rwF n v]/\n<=100/\Q (.pu<|aJ<|rwF n λj=>u j-v j)
def b02:US:=(cV<|aR cA<|a8 (dO [] [none,none,none] 2 (cZ4<|a8 (aC 1)<|a8 (aC 2) aM) (sS<|fJ 0<|fJ 1 sR) (λρ Q=>Q true ρ)<|uOp M.gSub (aC 0)<|aC 1) aM)
theorem d11: ∀ds Q,b01 ds Q->b02 {nx:=λ_=>Q (.pu .non),rt:=Q} (init ["r","x","y"] ds):=by
 rintro ds Q ⟨r,n,u,v,rfl,hn,h⟩;unfold b02;show(cV _:US) _ [some<|.pu r,some<|.pu<|aJ<|rwF n u,some<|.pu<|aJ<|rwF n v];rw[gW,cM,bK];refine cA7 n u v (λj=>u j-v j) hn (λQ' q=>q) (λQ' q=>q) (λi l Q' hi q=> ?_) ?_
 .left
  exact q
 .exact h
noncomputable def ttF (p:List Int)(n:Nat)(u:Nat->Int):Nat->Int:=λi=>(if i=0 then 0 else u (i-1))-u (n-1)*p.getD i 0
def a39:Φ:=λds Q=> ∃(C:Addr) (p:List Int) (n:Nat) (u:Nat->Int),ds=[cP C p,aJ<|rwF n u]/\d7 p/\p.length=n+1/\Q (.pu<|aJ<|rwF n<|ttF p n u)
def aJ5:US:=(cV<|aR cA<|a8 (dO [2,0] [none,some 3,some 2,some 0,none] 4 (fP<|a8 (a97 "degree"<|aC 0) aM) (bU 0) (λρ Q=>Q true ρ)<|uOp M.gSub (uIx (aX 1)<|aC 0)<|uOp fL (aC 2)<|uIx (uV<|a97 "poly"<|aC 3)<|aC 0) aM)
def aJ6:US:=(aT (bG 3<|uOp fY (i5<|a8 (uC<|.int 0) aM)<|uSl (aX 1) gU<|jI<|pG<|uC<|.int 1) aJ5)
def a40:US:=(aT (bG 2<|uIx (aX 1)<|pG<|uC<|.int 1) aJ6)
theorem c17: ∀ds Q,a39 ds Q->a40 {nx:=λ_=>Q (.pu .non),rt:=Q} (init ["r","x","l","m"] ds):=by
 rintro ds Q ⟨C,p,n,u,rfl,rp,hn,h⟩;have lo:=rp.ok.lo;have hi:=rp.ok.hi;unfold a40;simp only[aJ];show(aT _ _:US) _ [some<|.pu<|cP C p,some<|.pu<|.tup<|(rwF n u).map .int,none,none];rw[aO];left;rw[b43 ad]
 dsimp only;unfold aJ6;rw[aO];left;have s1:HT.sIx n n (some<|-1)=n-1:=by
  show(if(-1:Int)<0 then(-1+(n:Int)).toNat else min (-1:Int).toNat n)=n-1
  rw[a7 ac]
  lia
 have ec:cutD ((rwF n u).map D.int) none (some<|-1)=(rwF (n-1) u).map D.int:=by
  unfold cutD;rw[bY,HT.sIx_none,s1,List.drop_zero,u9,<-nV,bD9 _ _ _ ad]
 have em:[D.int 0]++(rwF (n-1) u).map D.int=(rwF n λi=>if i=0 then 0 else u (i-1)).map D.int:=by
  apply gD
  .simp[rwF];lia
  .intro k h1 h2;cases k with
   | zero=>simp[rwF]
   | succ k=>simp[rwF]
 rw[ec,em,bY,bY,HT.sIx_none,s1];refine⟨ac,ad,aI (show 0+1+(n-1)<=5 by lia) ac,?_⟩
 unfold aJ5;rw[gW,cM,bK]
 refine dF (t0:=0) n (λk=> .int (0+(k:Int))) [some<|.pu<|cP C p,some<|.pu<|.tup<|(rwF n u).map .int,some<|.pu<|.int<|u<|n-1,some<|.pu<|.tup<|(rwF n λi=>if i=0 then 0 else u (i-1)).map .int] (λQ' q=> ?_) ad (λx l'=>[x,some<|.pu<|.tup<|(rwF n λi=>if i=0 then 0 else u (i-1)).map .int,some<|.pu<|.int<|u<|n-1,some<|.pu<|cP C p,some<|.ow l']) none rfl (λ_ _ _=>rfl) (λ_ _=>cB _) (λ_ _ _ q=>q) (λ_ _ _=>rfl) (λk=> .int (ttF p n u k)) ?_ ?_
 .unfold fP;rw[bK,jV (C:=C) (p:=p) rfl];left;refine⟨⟨ad,ad⟩,?_⟩
  rw[show((p.length:Int)-1).toNat=n by lia]
  exact q
 .intro k l' Q' hk q;rw[bQ];have e5:atI (p.map D.int) (k:Int)=some (.int<|p.getD k 0):=d4 (by rw[bO,aS ad,aQ,aS ad];rfl)
  have e6:=fS rp.ok.small k;left;rw[jO hk];dsimp only;rw[aH0 (C:=C) (p:=p) rfl];simp only[aJ];left;rw[e5];dsimp only;refine⟨cmR ad ad,?_⟩
  unfold ttF at q;rw[bQ]at q;exact q
 .rw[kJ];exact h
noncomputable def itT (p:List Int)(n:Nat)(u:Nat->Int):Nat->Nat->Int
 | 0=>u
 | k+1=>ttF p n (itT p n u k)
def n6:Φ:=λds Q=> ∃(C:Addr) (p:List Int) (n:Nat) (u:Nat->Int),ds=[cP C p,aJ<|rwF n u]/\d7 p/\p.length=n+1/\Q (.pu<|.tup<|tbF n n<|itT p n u)
def aB7:US:=(cV<|aR cA<|a8 (aC 2) aM)
def aB8:US:=(aT (jJ (fP<|a8 (uOp M.gSub (a97 "degree"<|aC 0)<|uC<|.int 1) aM) (bU 3)<|aP4 2<|aR a39<|a8 (aC 0)<|a8 (uIx (aX 2)<|pG<|uC<|.int 1) aM) aB7)
def x9:US:=(aT (bG 2<|gT<|a8 (aC 1) aM) aB8)
theorem dG2 {m:Nat}(h:0<n):atI (tbF n m t) (-1)=some (aJ<|rwF m<|t<|n-1):=by
 unfold L2.atI;have e:ixN (tbF n m t).length (-1)=some (n-1):=by
  unfold ixN;rw[c06,a6 ac,a7 ad]
  congr 1
  lia
 rw[e];exact cR5 ad
theorem bN0: ∀ds Q,n6 ds Q->x9 {nx:=λ_=>Q (.pu .non),rt:=Q} (init ["r","x","t","s"] ds):=by
 rintro ds Q ⟨C,p,n,u,rfl,rp,hn,h⟩;have lo:=rp.ok.lo;have hi:=rp.ok.hi;unfold x9;show(aT _ _:US) _ [some<|.pu<|cP C p,some<|.pu<|aJ<|rwF n u,none,none];rw[aO];left;refine⟨ac,?_⟩
 unfold aB8;rw[aO];refine bP (n-1) (λk=> .int (0+(k:Int))) _ (λQ' q=> ?_)
  (λk ρ=> ∃x,ρ=[some<|.pu<|cP C p,some<|.pu<|aJ<|rwF n u,some<|.ow<|tbF (k+1) n<|itT p n u,x]) ⟨none,rfl⟩ ?_ ?_
 .unfold fP;rw[bK,cL1,jV (C:=C) (p:=p) rfl];left;refine⟨⟨ad,ad⟩,?_⟩
  rw[show((p.length:Int)-1-1).toNat=n-1 by lia]
  exact q
 .rintro k ρ hk ⟨x,rfl⟩;left;rw[dG2 ad,iK]
  dsimp only;refine⟨ae,C,p,n,itT p n u k,rfl,rp,hn,?_⟩
  left
  rw[c06];refine⟨b9 (show k+1<10 by lia) ac,some<|.pu<|.int<|0+(k:Int),?_⟩
  have e:tbF (k+1) n (itT p n u)++[aJ<|rwF n<|ttF p n<|itT p n u k]=tbF (k+1+1) n (itT p n u):=by
   rw[dD7];unfold tbF;apply nL;intro i hi';dsimp only
   by_cases c:i=k+1
   .rw[a7 c,c];rfl
   .rw[a6 c]
  rw[e]
 .rintro ρ ⟨x,rfl⟩;rw[show n-1+1=n by lia]
  dsimp only;unfold aB7;left;exact h
noncomputable def iA (n:Nat)(f:Nat->Int):Int:=((List.range n).map f).sum
noncomputable def iF (p:List Int)(n:Nat)(u v:Nat->Int):Nat->Int:=λj=>iA n λi=>v i*itT p n u i j
theorem d12 {a:Nat}(hp: ∀x∈p,x.natAbs<=499)(hu: ∀j,(u j).natAbs<=2^a)(j:Nat):(ttF p n u j).natAbs<=2^(a+9):=by
 unfold ttF;have h1:(if j=0 then(0:Int)else u (j-1)).natAbs<=2^a:=by
  split
  .simp
  .exact hu _
 have h2:(u (n-1)*p.getD j 0).natAbs<=2^a*499:=by rw[cZ];exact iL (hu _) (fS hp j)
 have h3:=Int.natAbs_sub_le (if j=0 then(0:Int)else u (j-1)) (u (n-1)*p.getD j 0);rw[fN];have:(2:Nat)^9=512:=rfl
 lia
theorem oF {p:List Int}{n a:Nat}{u:Nat->Int}(hp: ∀x∈p,x.natAbs<=499)(hu: ∀j,(u j).natAbs<=2^a): ∀k j,(itT p n u k j).natAbs<=2^(a+9*k)
 | 0,j=>hu j
 | k+1,j=>by
  have:=d12 (n:=n) hp (λj=>oF (n:=n) hp hu k j) j
  rw[a13,<-qC];exact this
def v8:Φ:=λds Q=> ∃(C:Addr) (p:List Int) (n e:Nat) (u v:Nat->Int),ds=[cP C p,aJ<|rwF n u,aJ<|rwF n v]/\d7 p/\p.length=n+1/\e<=8900/\(∀j,(u j).natAbs<=2^e)/\(∀j,(v j).natAbs<=2^e)/\Q (.pu<|aJ<|rwF n<|iF p n u v)
def b49:US:=(cV<|aR cA<|a8 (dO [3] [none,some 3,some 2,some 4,none] 4 (fP<|a8 (aC 3) aM) (bU 0) (λρ Q=>Q true ρ)<|aR cY4<|a8 (dO [0] [none,some 2,some 3,some 0,none] 4 (fP<|a8 (aC 1) aM) (bU 0) (λρ Q=>Q true ρ)<|uOp fL (uIx (aX 1)<|aC 0)<|uIx (uV<|uIx (aX 2)<|aC 0)<|aC 3) aM) aM)
def aB9:US:=(aT (bG 4<|aR n6<|a8 (aC 0)<|a8 (aC 1) aM) b49)
def aQ5:US:=(aT (bG 3<|a97 "degree"<|aC 0) aB9)
theorem cM1: ∀ds Q,v8 ds Q->aQ5 {nx:=λ_=>Q (.pu .non),rt:=Q} (init ["r","x","y","n","t"] ds):=by
 rintro ds Q ⟨C,p,n,e,u,v,rfl,rp,hn,he,hu,hv,h⟩;have lo:=rp.ok.lo;have hi:=rp.ok.hi;unfold aQ5;show(aT _ _:US) _ [some<|.pu<|cP C p,some<|.pu<|aJ<|rwF n u,some<|.pu<|aJ<|rwF n v,none,none];rw[aO,j4,jV (C:=C) (p:=p) rfl];show aB9 _ [some<|.pu<|cP C p,some<|.pu<|aJ<|rwF n u,some<|.pu<|aJ<|rwF n v,some<|.pu<|.int<|(p.length:Int)-1,none];rw[show(p.length:Int)-1=(n:Int)by lia]
 unfold aB9;rw[aO];left;refine⟨C,p,n,u,rfl,rp,hn,?_⟩;dsimp only;unfold b49;rw[gW,cM,bK]
 refine dF (t0:=0) n (λk=> .int (0+(k:Int))) [some<|.pu<|cP C p,some<|.pu<|aJ<|rwF n u,some<|.pu<|aJ<|rwF n v,some<|.pu<|.int (n:Int),some<|.pu<|.tup<|tbF n n<|itT p n u] (λQ' q=> ?_) ad (λx l'=>[x,some<|.pu<|.int (n:Int),some<|.pu<|aJ<|rwF n v,some<|.pu<|.tup<|tbF n n<|itT p n u,some<|.ow l']) none rfl (λ_ _ _=>rfl) (λ_ _=>cB _) (λ_ _ _ q=>q) (λ_ _ _=>rfl) (λk=> .int (iF p n u v k)) ?_ ?_
 .left
  refine⟨⟨ad,ad⟩,?_⟩
  rw[bX];exact q
 .intro j l Q' hj q;rw[bQ]at q⊢;rw[cM,bK]
  refine dF (t0:=0) n (λk=> .int (0+(k:Int))) [some<|.pu<|.int (j:Int),some<|.pu<|.int (n:Int),some<|.pu<|aJ<|rwF n v,some<|.pu<|.tup<|tbF n n<|itT p n u,some<|.ow l] (λQ' q=> ?_) ad (λx l'=>[x,some<|.pu<|aJ<|rwF n v,some<|.pu<|.tup<|tbF n n<|itT p n u,some<|.pu<|.int (j:Int),some<|.ow l']) none rfl (λ_ _ _=>rfl) (λ_ _=>cB _) (λ_ _ _ q=>q) (λ_ _ _=>rfl) (λi=> .int (v i*itT p n u i j)) ?_ ?_
  .left
   refine⟨⟨ad,ad⟩,?_⟩
   rw[bX];exact q
  .intro i l' Q' hi' q;rw[bQ]at q⊢;simp only[aJ];left;rw[jO hi',cL0 hi'];simp only[aJ];rw[jO hj];dsimp only;have b:=oF (n:=n) rp.ok.small hu i j;exact⟨.inr ⟨Sm.pow (hv i) ad,Sm.pow b ad⟩,q⟩
  .rw[kJ];left;rw[aG2];exact q
 .rw[kJ];exact h
noncomputable def b77 (p:List Int)(n k:Nat)(f:Nat->Int):Nat->Int:=λm=>if k-n<=m/\m<k then f m-f k*p.getD (m-(k-n)) 0 else f m
noncomputable def a78 (p:List Int)(n:Nat)(f:Nat->Int):Nat->Nat->Int
 | 0=>f
 | t+1=>b77 p n (2*n-2-t) (a78 p n f t)
theorem red2 (p:List Int)(u v:Nat->Int)(hu: ∀j,2<=j->u j=0)(hv: ∀j,2<=j->v j=0): ∀j,j<2->a78 p 2 (conv u v 2) 1 j=iF p 2 u v j
 | 0,_=>by simp[a78,b77,conv,shF,iF,iA,itT,ttF,bB,hv];grind
 | 1,_=>by simp[a78,b77,conv,shF,iF,iA,itT,ttF,bB,hv];grind
theorem red3 (p:List Int)(u v:Nat->Int)(hu: ∀j,3<=j->u j=0)(hv: ∀j,3<=j->v j=0): ∀j,j<3->a78 p 3 (conv u v 3) 2 j=iF p 3 u v j
 | 0,_=>by simp[a78,b77,conv,shF,iF,iA,itT,ttF,bB,hv];grind
 | 1,_=>by simp[a78,b77,conv,shF,iF,iA,itT,ttF,bB,hv];grind
 | 2,_=>by simp[a78,b77,conv,shF,iF,iA,itT,ttF,bB,hv];grind
theorem red4 (p:List Int)(u v:Nat->Int)(hu: ∀j,4<=j->u j=0)(hv: ∀j,4<=j->v j=0): ∀j,j<4->a78 p 4 (conv u v 4) 3 j=iF p 4 u v j
 | 0,_=>by simp[a78,b77,conv,shF,iF,iA,itT,ttF,bB,hv];grind
 | 1,_=>by simp[a78,b77,conv,shF,iF,iA,itT,ttF,bB,hv];grind
 | 2,_=>by simp[a78,b77,conv,shF,iF,iA,itT,ttF,bB,hv];grind
 | 3,_=>by simp[a78,b77,conv,shF,iF,iA,itT,ttF,bB,hv];grind
def aC0:Φ:=λds Q=> ∃(p:List Int) (n e:Nat) (u v:Nat->Int),ds=[aJ p,aJ<|rwF n u,aJ<|rwF n v]/\d7 p/\p.length=n+1/\e<=8900/\(∀j,(u j).natAbs<=2^e)/\(∀j,(v j).natAbs<=2^e)/\(∀j,n<=j->u j=0)/\(∀j,n<=j->v j=0)/\Q (.pu<|aJ<|rwF n<|iF p n u v)
def bT1:US:=(cV<|aR cA<|a8 (uSl (aX 4) gU<|jI<|aC 3) aM)
def bT2:US:=(aT (jJ (bR5<|a8 (uOp M.gSub (uOp fL (uC<|.int 2)<|aC 3)<|uC<|.int 2)<|a8 (uOp M.gSub (aC 3)<|uC<|.int 1)<|a8 (pG<|uC<|.int 1) aM) (bU 7)<|jJ (fP<|a8 (aC 3) aM) (bU 6)<|aT (bG 8<|uOp fY (uOp M.gSub (aC 7)<|aC 3)<|aC 6)<|bQ5 4 (uOp M.gSub (uIx (aX 4)<|aC 8)<|uOp fL (uIx (aX 4)<|aC 7)<|uIx (aX 0)<|aC 6)<|aC 8) bT1)
def bT3:US:=(aT (jJ (fP<|a8 (aC 3) aM) (bU 5)<|jJ (fP<|a8 (aC 3) aM) (bU 6)<|bQ5 4 (uOp fY (uIx (aX 4)<|uOp fY (aC 5)<|aC 6)<|uOp fL (uIx (aX 1)<|aC 5)<|uIx (aX 2)<|aC 6)<|uOp fY (aC 5)<|aC 6) bT2)
def bT4:US:=(aT (bG 4<|uOp fL (gT<|a8 (uC<|.int 0) aM)<|uOp M.gSub (uOp fL (uC<|.int 2)<|aC 3)<|uC<|.int 1) bT3)
def bF7:US:=(aT (bG 3<|uOp M.gSub (lZ<|aX 0)<|uC<|.int 1) bT4)
theorem c18 (n2:2<=n)(n4:n<=4)(hu: ∀j,n<=j->u j=0)(hv: ∀j,n<=j->v j=0):rwF n (a78 p n (conv u v n)<|n-1)=rwF n (iF p n u v):=by
 refine dU λj hj=> ?_
 rcases(show n=2\/n=3\/n=4 by lia)with rfl|rfl|rfl
 .exact red2 p u v hu hv j hj
 .exact red3 p u v hu hv j hj
 .exact red4 p u v hu hv j hj
noncomputable def bN1 (p:List Int)(n k j:Nat)(f:Nat->Int):Nat->Int:=λm=>if k-n<=m/\m<k-n+j then f m-f k*p.getD (m-(k-n)) 0 else f m
theorem dG3: ∀ds Q,aC0 ds Q->bF7 {nx:=λ_=>Q (.pu .non),rt:=Q} (init ["p","x","y","n","r","i","j","k","a"] ds):=by
 rintro ds Q ⟨p,n,e,u,v,rfl,rp,hn,he,hu,hv,uz,vz,h⟩;have lo:=rp.ok.lo;have hi:=rp.ok.hi;unfold bF7;simp only[aJ];show(aT _ _:US) _ [some<|.pu<|.tup<|p.map .int,some<|.pu<|.tup<|(rwF n u).map .int,some<|.pu<|.tup<|(rwF n v).map .int,none,none,none,none,none,none];rw[aO];left;rw[aP,show(p.length:Int)-1=(n:Int)by lia]
 unfold bT4;rw[aO];left;rw[show 2*(n:Int)-1=((2*n-1:Nat):Int)by lia,bX,bS3]
 refine⟨ac,cmL ac ac,⟨ad,ad,aI (show 1*(2*n-1)<=300 by lia) ac⟩,?_⟩
 unfold bT3;rw[aO];refine bP n (λi=> .int (0+i)) _ (λQ' q=> ?_)
  (λi ρ=> ∃x y,ρ=[some<|.pu<|.tup<|p.map .int,some<|.pu<|.tup<|(rwF n u).map .int,some<|.pu<|.tup<|(rwF n v).map .int,some<|.pu<|.int (n:Int),some<|.ow<|(rwF (2*n-1)<|conv u v i).map .int,x,y,none,none]) ⟨none,none,rfl⟩ ?_ ?_
 .left
  refine⟨⟨ad,ad⟩,?_⟩
  rw[bX];exact q
 .rintro i ρ hi' ⟨x,y,rfl⟩;rw[bQ];refine⟨ae,?_⟩
  show(jJ _ _ _:US) _ [some<|.pu<|.tup<|p.map .int,some<|.pu<|.tup<|(rwF n u).map .int,some<|.pu<|.tup<|(rwF n v).map .int,some<|.pu<|.int (n:Int),some<|.ow<|(rwF (2*n-1)<|conv u v i).map .int,some<|.pu<|.int (i:Int),y,none,none]
  refine bP n (λj=> .int (0+j)) _ (λQ' q=> ?_)
   (λj ρ=> ∃y,ρ=[some<|.pu<|.tup<|p.map .int,some<|.pu<|.tup<|(rwF n u).map .int,some<|.pu<|.tup<|(rwF n v).map .int,some<|.pu<|.int (n:Int),some<|.ow<|(rwF (2*n-1) λm=>if m<i+j then conv u v (i+1) m else conv u v i m).map .int,some<|.pu<|.int (i:Int),y,none,none]) ⟨y,by rw[cL5]⟩ ?_ ?_
  .left
   refine⟨⟨ad,ad⟩,?_⟩
   rw[bX];exact q
  .rintro j ρ hj ⟨y,rfl⟩;rw[bQ];have hij:i+j<2*n-1:=ad
   have c2:(i:Int)+(j:Int)=((i+j:Nat):Int):=ad
   left
   rw[c2,jO hij,jO hi',jO hj];dsimp only;rw[bY,c07 hij,a6<|show ¬i+j<i+j by lia]
   refine⟨ae,.inr ⟨Sm.pow (hu i) ad,Sm.pow (hv j) ad⟩,some<|.pu<|.int (j:Int),?_⟩
   rw[bA0 hij,cL7]
  .rintro ρ ⟨y,rfl⟩;rw[cL6 vz];exact⟨_,_,rfl⟩
 .rintro ρ ⟨x,y,rfl⟩;dsimp only;unfold bT2;rw[aO];refine bP (n-1) (λt=> .int ((2*n-2:Nat)-(t:Int))) _ (λQ' q=> ?_)
   (λt ρ=> ∃y z w,ρ=[some<|.pu<|.tup<|p.map .int,some<|.pu<|.tup<|(rwF n u).map .int,some<|.pu<|.tup<|(rwF n v).map .int,some<|.pu<|.int (n:Int),some<|.ow<|(rwF (2*n-1)<|a78 p n (conv u v n) t).map .int,x,y,z,w]) ⟨y,none,none,rfl⟩ ?_ ?_
  .left
   refine⟨cmL ac ac,trivial,⟨ad,ad,ad,ad⟩,?_⟩
   rw[show(2*(n:Int)-2-((n:Int)-1)).toNat=n-1 by lia,show 2*(n:Int)-2=((2*n-2:Nat):Int)by lia]
   exact q
  .rintro t ρ ht ⟨y,z,w,rfl⟩;obtain⟨k,hk⟩: ∃k:Nat,k=2*n-2-t:=⟨_,rfl⟩;rw[show((2*n-2:Nat):Int)-(t:Int)=(k:Int)by lia]
   generalize hf:a78 p n (conv u v n) t=f;refine⟨ae,?_⟩
   show(jJ _ _ _:US) _ [some<|.pu<|.tup<|p.map .int,some<|.pu<|.tup<|(rwF n u).map .int,some<|.pu<|.tup<|(rwF n v).map .int,some<|.pu<|.int (n:Int),some<|.ow<|(rwF (2*n-1) f).map .int,x,y,some<|.pu<|.int (k:Int),w]
   refine bP n (λj=> .int (0+j)) [some<|.pu<|.tup<|p.map .int,some<|.pu<|.tup<|(rwF n u).map .int,some<|.pu<|.tup<|(rwF n v).map .int,some<|.pu<|.int (n:Int),some<|.ow<|(rwF (2*n-1) f).map .int,x,y,some<|.pu<|.int (k:Int),w] (λQ' q=> ?_)
    (λj ρ=> ∃y w,ρ=[some<|.pu<|.tup<|p.map .int,some<|.pu<|.tup<|(rwF n u).map .int,some<|.pu<|.tup<|(rwF n v).map .int,some<|.pu<|.int (n:Int),some<|.ow<|(rwF (2*n-1)<|bN1 p n k j f).map .int,x,y,some<|.pu<|.int (k:Int),w]) ⟨y,w,?_⟩ ?_ ?_
   .left
    refine⟨⟨ad,ad⟩,?_⟩
    rw[bX];exact q
   .have e0:bN1 p n k 0 f=f:=funext λm=>by unfold bN1;rw[a6 ad]
    rw[e0]
   .rintro j ρ hj ⟨y,w,rfl⟩;rw[bQ];have hat:k-n+j<2*n-1:=ad
    have hkk:k<2*n-1:=ad
    have c2:(k:Int)-(n:Int)+(j:Int)=((k-n+j:Nat):Int):=ad
    have e5:atI (p.map D.int) (j:Int)=some (.int<|p.getD j 0):=d4 (by rw[bO,aS ad,aQ,aS ad];rfl)
    have e6:=fS rp.ok.small j;left;rw[c2,jO hat,jO hkk,e5];dsimp only;rw[bY,c07 hat];refine⟨ae,cmR ad ad,some<|.pu<|.int (j:Int),some<|.pu<|.int ((k-n+j:Nat):Int),?_⟩
    rw[bA0 hat];have e7:(λx=>if x=k-n+j then bN1 p n k j f (k-n+j)-bN1 p n k j f k*p.getD j 0 else bN1 p n k j f x)=bN1 p n k (j+1) f:=funext λm=>by
     unfold bN1
     by_cases c:m=k-n+j
     .rw[a7 c,a6 ad,a6 ad,a7 ad,c,show k-n+j-(k-n)=j by lia]
     .rw[a6 c]
      by_cases c3:k-n<=m/\m<k-n+j
      .rw[a7 c3,a7 ad]
      .rw[a6 c3,a6 ad]
    rw[e7]
   .rintro ρ ⟨y,w,rfl⟩;refine⟨y,some<|.pu<|.int (k:Int),w,?_⟩;have e8:bN1 p n k n f=a78 p n (conv u v n) (t+1):=by
     show _=b77 p n (2*n-2-t) (a78 p n (conv u v n) t)
     rw[hf,<-hk];unfold bN1 b77
     funext m
     rw[show k-n+n=k by lia]
    rw[e8]
  .rintro ρ ⟨y,z,w,rfl⟩;dsimp only;unfold bT1;left;rw[cK7 _ _ (by rw[bY];lia),<-nV,bD9 _ _ _ ad,c18 ad ad uz vz]
   exact h
theorem bF8 (row:List Int)(s:Int): ∀k,(aZ4 row s k).length=row.length
 | 0=>rfl
 | k+1=>by unfold aZ4;rw[fB];exact bF8 row s k
theorem cS3 (p:List Int)(s:Int): ∀k,(shK p s k).length=p.length
 | 0=>rfl
 | k+1=>by unfold shK;rw[bF8];exact cS3 p s k
theorem dG4 (h:k<n):ixN n (k:Int)=some k:=by
 unfold ixN;rw[a7 ad,a7 ad,bX]
theorem dG5 (l:List Int)(k:Nat)(x:Int):(l.map D.int).set k (.int x)=(l.set k x).map D.int:=by rw[List.map_set]
def a41:Φ:=λds Q=> ∃(p:List Int) (s:Int),ds=[aJ p,.int s]/\3<=p.length/\p.length<=5/\s.natAbs<=3/\Q (.pu<|aJ<|shK p s<|p.length-1)
def aQ6:US:=(aT (bG 2<|aR aT2<|a8 (aC 0) aM)<|aT (jJ (fP<|a8 (uOp M.gSub (lZ<|aX 2)<|uC<|.int 1) aM) (bU 3)<|jJ (bR5<|a8 (uOp M.gSub (lZ<|aX 2)<|uC<|.int 2)<|a8 (uOp M.gSub (aC 3)<|uC<|.int 1)<|a8 (pG<|uC<|.int 1) aM) (bU 4)<|bQ5 2 (uOp fY (uIx (aX 2)<|aC 4)<|uOp fL (aC 1)<|uIx (aX 2)<|uOp fY (aC 4)<|uC<|.int 1)<|aC 4)<|cV<|aR cA<|a8 (aC 2) aM)
theorem cM2: ∀ds Q,a41 ds Q->aQ6 {nx:=λ_=>Q (.pu .non),rt:=Q} (init ["p","s","r","l","a"] ds):=by
 rintro ds Q ⟨p,s,rfl,h3,h5,hs,h⟩;have lp:(p.map D.int).length=p.length:=aP _;unfold aQ6;show(aT _ _:US) _ [some<|.pu<|.tup<|p.map .int,some<|.pu<|.int s,none,none,none];left;refine bP (p.length-1) (λi=> .int (0+i)) _ ?_
  (λi ρ=> ∃x y,ρ=[some<|.pu<|.tup<|p.map .int,some<|.pu<|.int s,some<|.ow<|(shK p s i).map .int,x,y]) ⟨none,none,rfl⟩ ?_ ?_
 .intro Q' q;simp only[fP];left;rw[lp];refine⟨ad,?_⟩
  rw[show((p.length:Int)-1).toNat=p.length-1 by lia]
  exact q
 .rintro i ρ hi ⟨x,y,rfl⟩;have lk:=cS3 p s i;have e1:shK p s (i+1)=aZ4 (shK p s i) s (p.length-1-i):=rfl;rw[e1];generalize shK p s i=row at lk;have lrow:(row.map D.int).length=row.length:=aP _;left;refine⟨ac,?_⟩
  refine bP (p.length-1-i) (λk=> .int ((p.length:Int)-2-k)) _ ?_
   (λk ρ=> ∃y,ρ=[some<|.pu<|.tup<|p.map .int,some<|.pu<|.int s,some<|.ow<|(aZ4 row s k).map .int,some<|.pu<|.int<|0+(i:Int),y]) ⟨y,rfl⟩ ?_ ?_
  .intro Q' q;simp only[bR5];left;rw[lrow,lk];refine⟨trivial,ad,?_⟩
   rw[show((p.length:Int)-2-(0+(i:Int)-1)).toNat=p.length-1-i by lia]
   exact q
  .rintro k ρ hk ⟨y,rfl⟩;have l2:=bF8 row s k;left;refine⟨ac,?_⟩
   have a1:(p.length:Int)-2-(k:Int)=((p.length-2-k:Nat):Int):=ad
   have a2:((p.length-2-k:Nat):Int)+1=((p.length-1-k:Nat):Int):=ad
   rw[a1,a2,aA2<|show p.length-2-k< (aZ4 row s k).length by lia,aA2<|show p.length-1-k< (aZ4 row s k).length by lia]
   dsimp only;rw[dG4 (show p.length-2-k< ((aZ4 row s k).map D.int).length by rw[aP];lia)]
   refine⟨cmL ad ad,some<|.pu<|.int ((p.length-2-k:Nat):Int),?_⟩
   rw[dG5];rw[<-lk];rfl
  .rintro ρ ⟨y,rfl⟩;exact⟨_,_,rfl⟩
 .rintro ρ ⟨x,y,rfl⟩;left;exact h
def xA:Φ:=λds Q=> ∃c:Int,ds=[.int c]/\ ∀p∈qR,Q (.pu<|aJ p)
def aC1:US:=(cV<|uIx (aX 1)<|uOp kW (aR a99<|a8 (aC 0)<|a8 (uC<|.int 3)<|a8 (uC<|.int 998244353) aM)<|uC<|.int 12)
def aC2:US:=(aT (bG 1<|uOp fY (aC 1)<|gT<|a8 (i5<|a8 (uC<|.int 1)<|a8 (uC<|.int 0)<|a8 (uC<|.int 0)<|a8 (uC<|.int 0)<|a8 (uC<|.int 1) aM)<|a8 (i5<|a8 (pG<|uC<|.int 1)<|a8 (pG<|uC<|.int 1)<|a8 (uC<|.int 0)<|a8 (uC<|.int 0)<|a8 (uC<|.int 1) aM)<|a8 (i5<|a8 (uC<|.int 1)<|a8 (uC<|.int 1)<|a8 (uC<|.int 1)<|a8 (uC<|.int 1)<|a8 (uC<|.int 1) aM)<|a8 (i5<|a8 (pG<|uC<|.int 2)<|a8 (uC<|.int 0)<|a8 (uC<|.int 0)<|a8 (uC<|.int 0)<|a8 (uC<|.int 1) aM)<|a8 (i5<|a8 (uC<|.int 1)<|a8 (uC<|.int 0)<|a8 (pG<|uC<|.int 1)<|a8 (uC<|.int 0)<|a8 (uC<|.int 1) aM) aM) aC1)
def xB:US:=(aT (bG 1<|gT<|a8 (i5<|a8 (uC<|.int 5)<|a8 (uC<|.int 0)<|a8 (uC<|.int 1) aM)<|a8 (i5<|a8 (pG<|uC<|.int 10)<|a8 (uC<|.int 0)<|a8 (uC<|.int 1) aM)<|a8 (i5<|a8 (uC<|.int 6)<|a8 (uC<|.int 1)<|a8 (uC<|.int 1) aM)<|a8 (i5<|a8 (pG<|uC<|.int 3)<|a8 (uC<|.int 0)<|a8 (uC<|.int 1) aM)<|a8 (i5<|a8 (pG<|uC<|.int 1)<|a8 (pG<|uC<|.int 1)<|a8 (uC<|.int 0)<|a8 (uC<|.int 1) aM)<|a8 (i5<|a8 (pG<|uC<|.int 2)<|a8 (uC<|.int 0)<|a8 (uC<|.int 0)<|a8 (uC<|.int 1) aM)<|a8 (i5<|a8 (pG<|uC<|.int 1)<|a8 (uC<|.int 4)<|a8 (uC<|.int 0)<|a8 (uC<|.int 1) aM) aM) aC2)
theorem dG6 {k:Int}(h0:0<=k)(h1:k<12): ∃p∈qR,atI (qR.map aJ) k=some (aJ p):=by
 obtain⟨i,rfl⟩: ∃i:Nat,k=(i:Int):=⟨k.toNat,ad⟩
 have hi:i<qR.length:=show i<12 by lia
 exact⟨qR[i],cY hi,d4 (by rw[bO,aS hi];rfl)⟩
theorem bN2: ∀ds Q,xA ds Q->xB {nx:=λ_=>Q (.pu .non),rt:=Q} (init ["c","k"] ds):=by
 rintro ds Q ⟨c,rfl,h⟩;unfold xB;show(aT _ _:US) _ [some<|.pu<|.int c,none];rw[aO];left;refine⟨ac,ac,ac,ac,ac,ac,ac,ac,?_⟩
 unfold aC2;rw[aO];left;refine⟨ac,ac,ac,ac,ac,ac,ac,?_⟩
 unfold aC1;left;refine⟨c,3,998244353,rfl,ac,ac,ac,λr r0 r1=> ?_⟩
 left
 refine⟨ac,?_⟩
 rw[d5 _ ac]
 obtain⟨p,hp,e⟩:=dG6 (dL r<|show(12:Int)≠0 by decide) (dJ r<|show(0:Int)<12 by decide)
 have e': ∀l:List D,l=qR.map aJ->(match atI l (r%12)with|some x=>Q (.pu x)|none=>False):=λl hl=>by
  rw[hl,e];exact h p hp
 exact e' _ rfl
def c19:Φ:=λds Q=> ∃c q:Int,ds=[.int c,.int q]/\0<q/\ ∀p,d7 p->Q (.pu<|aJ p)
def c20:Φ:=λds Q=> ∃(ns:List Int) (k:Nat) (q:Int),ds=[.rol<|ns.map .int,.int (k:Int),.int q]/\ns.length<=63/\k<=1000/\0<q/\ ∀C p,d7 p-> ¬Red p->Q (.pu<|cP C p)
def bF9:US:=(rJ 3)
def cA8:US:=(aT (fX (dQ<|bM1 false<|aC 3) (bG 3<|dC3 ["poly","degree","measure"] yO<|a8 (aR xA<|a8 (aR rE<|a8 (aC 0)<|a8 (aC 1) aM) aM) aM) dN) bF9)
def cA9:US:=(aT (jJ (fP<|a8 (uC<|.int 3) aM) (bU 4)<|fX (dQ<|bM1 false<|aC 3) (dC4 3 ["poly","degree","measure"] yO (a8 (aR c19<|a8 (aR rE<|a8 (aC 0)<|a8 (uOp fY (aC 1)<|aC 4) aM)<|a8 (aC 2) aM) aM) ["FallsApart","TooGreat","NotWhole"]<|bG 3<|uC .non) dN) cA8)
def c21:US:=(aT (bG 3<|uC .non) cA9)
theorem dU4: ∀ds Q,c20 ds Q->c21 {nx:=λ_=>Q (.pu .non),rt:=Q} (init ["s","k","q","f","j"] ds):=by
 rintro ds Q ⟨ns,k,q,rfl,hl,hk,hq,h⟩;unfold c21;show(aT _ _:US) _ [some<|.pu<|.rol<|ns.map .int,some<|.pu<|.int (k:Int),some<|.pu<|.int q,none,none];rw[aO];left;unfold cA9;rw[aO];refine bP 3 (λi=> .int (0+i)) _ (λQ' q=> ?_)
  (λi ρ=> ∃d x,ρ=[some<|.pu<|.rol<|ns.map .int,some<|.pu<|.int (k:Int),some<|.pu<|.int q,some<|.pu d,x]/\(d= .non\/ ∃C p,d7 p/\ ¬Red p/\d=cP C p)) ⟨.non,none,rfl,.inl rfl⟩ ?_ ?_
 .left
  exact⟨ac,q⟩
 .rintro i ρ hi ⟨d,x,rfl,hd⟩;refine⟨ae,?_⟩
  rcases hd with rfl| ⟨C,p,rp,nr,rfl⟩
  .left
   unfold dC4;left;refine⟨ns,(k:Int)+(0+(i:Int)),rfl,hl,ad,ad,λc=>⟨c,q,rfl,hq,λp rp=> ?_⟩⟩
   left
   refine⟨p,rfl,rp,λnr _ C=>⟨cP C p,some<|.pu<|.int<|0+(i:Int),rfl,.inr ⟨C,p,rp,nr,rfl⟩⟩,λ_ _ _ _=>⟨ae,.non,_,rfl,.inl rfl⟩,λ_ _=>⟨⟨ae,.non,_,rfl,.inl rfl⟩,λ_=>⟨ae,.non,_,rfl,.inl rfl⟩⟩⟩
  .simp only[cP];left;exact⟨cP C p,_,rfl,.inr ⟨C,p,rp,nr,rfl⟩⟩
 .rintro ρ ⟨d,x,rfl,hd⟩;dsimp only;unfold cA8;rw[aO];rcases hd with rfl| ⟨C,p,rp,nr,rfl⟩
  .left
   unfold dC3;left;refine⟨ns,(k:Int),rfl,hl,ad,ad,λc=>⟨c,rfl,λp hp=> ?_⟩⟩
   left
   refine⟨p,rfl,v7 p hp,λ_ _ C=> ?_,λred=>absurd red (bF4 p hp).irr,λ_ z=>absurd (bF4 p hp) z⟩
   unfold bF9;left;exact h C p (v7 p hp) (bF4 p hp).irr
  .simp only[cP];left;unfold bF9;left;exact h C p rp nr
def cB0:US:=(cV<|aR a41<|a8 (i5<|a8 (uOp M.gSub (uIx (aX 4)<|uC<|.int 2)<|uC<|.int 3)<|a8 (uOp M.gSub (uIx (aX 4)<|uC<|.int 3)<|uC<|.int 3)<|a8 (uOp M.gSub (uIx (aX 4)<|uC<|.int 4)<|uC<|.int 3)<|a8 (uOp M.gSub (uIx (aX 4)<|uC<|.int 6)<|uC<|.int 3)<|a8 (uC<|.int 1) aM)<|a8 (uOp M.gSub (uIx (aX 4)<|uC<|.int 5)<|uC<|.int 2) aM)
def cB1:US:=(aT (bG 4<|aR lF<|a8 (aC 0)<|a8 (gT<|a8 (uC<|.int 3)<|a8 (uC<|.int 8)<|a8 (uC<|.int 7)<|a8 (uC<|.int 7)<|a8 (uC<|.int 7)<|a8 (uC<|.int 5)<|a8 (uC<|.int 7) aM)<|a8 (aC 1) aM) cB0)
def cB2:US:=(aT (fX (dQ<|uOp (iV false) (uIx (aX 2)<|uC<|.int 0)<|uC<|.int 1) (cV<|aR a41<|a8 (i5<|a8 (uOp M.gSub (uIx (aX 4)<|uC<|.int 2)<|uC<|.int 4)<|a8 (uOp M.gSub (uIx (aX 4)<|uC<|.int 3)<|uC<|.int 4)<|a8 (uOp M.gSub (uIx (aX 4)<|uC<|.int 4)<|uC<|.int 4)<|a8 (uC<|.int 1) aM)<|a8 (uOp M.gSub (uIx (aX 4)<|uC<|.int 5)<|uC<|.int 2) aM) dN) cB1)
def cB3:US:=(aT (fX (dQ<|uOp (iV false) (uIx (aX 2)<|uC<|.int 0)<|uC<|.int 0) (aT (bG 4<|aR lF<|a8 (aC 0)<|a8 (gT<|a8 (uC<|.int 3)<|a8 (uC<|.int 8)<|a8 (uC<|.int 161)<|a8 (uC<|.int 41) aM)<|a8 (aC 1) aM)<|cV<|i5<|a8 (uOp M.gSub (uIx (aX 4)<|uC<|.int 2)<|uC<|.int 80)<|a8 (uOp M.gSub (uIx (aX 4)<|uC<|.int 3)<|uC<|.int 20)<|a8 (uC<|.int 1) aM) dN) cB2)
def bG0:US:=(aT (bG 4<|aR lF<|a8 (aC 0)<|a8 (gT<|a8 (uC<|.int 3)<|a8 (uC<|.int 8)<|a8 (uC<|.int 9)<|a8 (uC<|.int 9)<|a8 (uC<|.int 9)<|a8 (uC<|.int 5)<|a8 (uC<|.int 7) aM)<|a8 (aC 1) aM) cB3)
def cB4:US:=(aT (fX (dQ<|uOp (iV false) (uIx (aX 2)<|uC<|.int 1)<|uC<|.int 7) (cV<|aR cA<|a8 (uOp fY (dO [] [none,none] 1 (fG<|aC 3) (bU 0) (λρ Q=>Q true ρ)<|uOp M.gSub (aC 0)<|uC<|.int 499)<|gT<|a8 (uC<|.int 1) aM) aM) dN) bG0)
def cB5:US:=(aT (bG 3<|uSl (uV<|aR lF<|a8 (aC 0)<|a8 (gT<|a8 (uC<|.int 3)<|a8 (uC<|.int 8)<|a8 (uC<|.int 999)<|a8 (uC<|.int 999)<|a8 (uC<|.int 999)<|a8 (uC<|.int 999) aM)<|a8 (aC 1) aM) (jI<|uC<|.int 2)<|jI<|uOp fY (uIx (aX 2)<|uC<|.int 0)<|uC<|.int 4) cB4)
def c22:US:=(aT (bG 2<|aR lF<|a8 (aC 0)<|a8 (gT<|a8 (uC<|.int 3)<|a8 (uC<|.int 8) aM)<|a8 (aC 1) aM) cB5)
theorem rp_two (ha:a.natAbs<=499)(hb:b.natAbs<=499):d7 [a,b,1]:=⟨⟨ae,ae,λx hx=>by
 simp only[aZ,eB,eG]at hx;rcases hx with rfl|rfl|rfl<;>lia⟩,[a,b],rfl⟩
theorem nba {y:Int}{m:Nat}(hx:x.natAbs<=m)(hy:y.natAbs<=k):(x+y).natAbs<=m+k:=aI (pX x y) (Nat.add_le_add hx hy)
theorem nbm {y:Int}{m:Nat}(hx:x.natAbs<=m)(hy:y.natAbs<=k):(x*y).natAbs<=m*k:=by rw[cZ];exact iL hx hy
theorem nbl {m:Nat}(h:decide (m<=k)=true)(hx:x.natAbs<=m):x.natAbs<=k:=aI hx (zX h)
theorem nbc (n:Nat):((n:Nat):Int).natAbs<=n:=aG n
theorem rp_sh3 (ha:a.natAbs<=4)(hb:b.natAbs<=4)(hc:c.natAbs<=4)(hs:s.natAbs<=2):d7 (shK [a,b,c,1] s 3):=by
 rw[she3];refine⟨⟨by simp[sh3],by simp[sh3],λx hx=> ?_⟩,_,rfl⟩
 simp only[sh3,List.cons_append,a01,aZ,eB,eG]at hx;have s2:=nbm hs hs;have s3:=nbm s2 hs;rcases hx with rfl|rfl|rfl|rfl
 .exact nbl rfl (nba (nba (nba ha<|nbm hs hb)<|nbm s2 hc) s3)
 .exact nbl rfl (nba (nba hb<|nbm (nbm (nbc 2) hs) hc)<|nbm (nbm (nbc 3) hs) hs)
 .exact nbl rfl (nba hc<|nbm (nbc 3) hs)
 .decide
theorem rp_sh4 {d:Int}(ha:a.natAbs<=3)(hb:b.natAbs<=3)(hc:c.natAbs<=3)(hd:d.natAbs<=3)(hs:s.natAbs<=2):d7 (shK [a,b,c,d,1] s 4):=by
 rw[she4];refine⟨⟨by simp[sh4],by simp[sh4],λx hx=> ?_⟩,_,rfl⟩
 simp only[sh4,List.cons_append,a01,aZ,eB,eG]at hx;have s2:=nbm hs hs;have s3:=nbm s2 hs;rcases hx with rfl|rfl|rfl|rfl|rfl
 .exact nbl rfl (nba (nba (nba (nba ha<|nbm hs hb)<|nbm s2 hc)<|nbm s3 hd)<|nbm s3 hs)
 .exact nbl rfl (nba (nba (nba hb<|nbm (nbm (nbc 2) hs) hc)<|nbm (nbm (nbm (nbc 3) hs) hs) hd)<|nbm (nbm (nbm (nbc 4) hs) hs) hs)
 .exact nbl rfl (nba (nba hc<|nbm (nbm (nbc 3) hs) hd)<|nbm (nbm (nbc 6) hs) hs)
 .exact nbl rfl (nba hd<|nbm (nbc 4) hs)
 .decide
theorem dU5 (h2:2<=ws.length)(h4:ws.length<=4)(hb: ∀w∈ws,0<=w/\w<999):d7 (ws.map (λw=>w-499)++[1]):=by
 refine⟨⟨by rw[cS,aP];show 3<=ws.length+1;lia,by rw[cS,aP];show ws.length+1<=5;lia,λx hx=> ?_⟩,_,rfl⟩
 rcases eE.mp hx with hx|hx
 .obtain⟨w,hw,rfl⟩:=gE.mp hx;have:=hb w hw
  lia
 .rw[j8.mp hx];decide
theorem d13 (c q a b:Int)(ws:List Int)(h4:ws.length<=4)(Q:B->Prop)(h:Q (.pu<|aJ<|ws.map (λw=>w-499)++[1])) :
  (cV (aR cA<|a8 (uOp fY (dO [] [none,none] 1 (fG<|aC 3) (bU 0) (λρ Q=>Q true ρ)<|uOp M.gSub (aC 0)<|uC<|.int 499)<|gT<|a8 (uC<|.int 1) aM) aM):US) {nx:=λ_=>Q (.pu .non),rt:=Q} [some<|.pu<|.int c,some<|.pu<|.int q,some<|.ow [.int a,.int b],some<|.ow<|ws.map .int,none]:=by
 rw[gW,cM,bK,cL1];refine dF (t0:=0) ws.length (λk=>(ws.map D.int).getD k .non) [some<|.pu<|.int c,some<|.pu<|.int q,some<|.ow [.int a,.int b],some<|.pu<|.lst<|ws.map .int,none] (λQ' q=> ?_) ad (λx l'=>[x,some<|.ow l']) none rfl (λ_ _ _=>rfl) (λ_ _=>cB _) (λ_ _ _ q=>q) (λ_ _ _=>rfl) (λk=> .int (ws.getD k 0-499)) ?_ ?_
 .left
  rw[aP];exact q
 .intro k l' Q' hk q';have e3:(ws.map D.int).getD k .non= .int (ws.getD k 0):=by
   rw[aQ,bO,aQ,aS hk];rfl
  rw[e3]at q'⊢;left;exact q'
 .have e4:(List.range ws.length).map (λk=>D.int (ws.getD k 0-499))=(ws.map λw=>w-499).map D.int:=by
   apply gD
   .simp
   .intro i h1 h2;simp at h1;simp[aQ,h1]
  rw[e4];left;have e5:(ws.map λw=>w-499).map D.int++[D.int 1]=(ws.map (λw=>w-499)++[1]).map D.int:=by rw[cE];rfl
  rw[e5];refine⟨ac,?_,h⟩
  rw[aP,aP];exact aI (show ws.length+(0+1)<=5 by lia) ac
theorem dG7 (c q a b:Int)(w:Option B)(a0:0<=a)(a1:a<3)(hq:0<q)(Q:B->Prop)(h: ∀p,d7 p->Q (.pu<|aJ p)) :
  bG0 {nx:=λ_=>Q (.pu .non),rt:=Q} [some<|.pu<|.int c,some<|.pu<|.int q,some<|.ow [.int a,.int b],w,none]:=by
 unfold bG0;rw[aO];left;refine⟨ac,c,[3,8,9,9,9,5,7],q,rfl,ac,hq,ac,λxs hx=> ?_⟩
 obtain⟨x0,x1,x2,x3,x4,x5,x6,rfl⟩: ∃x0 x1 x2 x3 x4 x5 x6,xs=[x0,x1,x2,x3,x4,x5,x6]:=by
  match xs,hx.1 with
  | [x0,x1,x2,x3,x4,x5,x6],_=>exact⟨x0,x1,x2,x3,x4,x5,x6,rfl⟩
 have b2:=hx.2 2 x2 9 rfl rfl;have b3:=hx.2 3 x3 9 rfl rfl;have b4:=hx.2 4 x4 9 rfl rfl;have b5:=hx.2 5 x5 5 rfl rfl;simp only[cF,jD];unfold cB3;rw[aO];left;rw[mY];dsimp only
 by_cases c0:a=0
 .rw[a7 c0];refine⟨ac,c,[3,8,161,41],q,rfl,ac,hq,ac,λys hy=> ?_⟩
  obtain⟨y0,y1,y2,y3,rfl⟩: ∃y0 y1 y2 y3,ys=[y0,y1,y2,y3]:=by
   match ys,hy.1 with
   | [y0,y1,y2,y3],_=>exact⟨y0,y1,y2,y3,rfl⟩
  have k2:=hy.2 2 y2 161 rfl rfl;have k3:=hy.2 3 y3 41 rfl rfl;simp only[cF,jD]
  (try left)
  rw[show atI [D.int y0,.int y1,.int y2,.int y3] 2=some (.int y2)from d4 (j:=2) rfl,show atI [D.int y0,.int y1,.int y2,.int y3] 3=some (.int y3)from d4 (j:=3) rfl]
  dsimp only;exact⟨ac,h [y2-80,y3-20,1]<|rp_two ad ad⟩
 rw[a6 c0];have t2:atI [D.int x0,.int x1,.int x2,.int x3,.int x4,.int x5,.int x6] 2=some (.int x2):=d4 (j:=2) rfl;have t3:atI [D.int x0,.int x1,.int x2,.int x3,.int x4,.int x5,.int x6] 3=some (.int x3):=d4 (j:=3) rfl;have t4:atI [D.int x0,.int x1,.int x2,.int x3,.int x4,.int x5,.int x6] 4=some (.int x4):=d4 (j:=4) rfl
 have t5:atI [D.int x0,.int x1,.int x2,.int x3,.int x4,.int x5,.int x6] 5=some (.int x5):=d4 (j:=5) rfl;unfold cB2;rw[aO];left;rw[mY];dsimp only
 by_cases c1:a=1
 .rw[a7 c1,t2,t3,t4,t5];dsimp only;exact⟨ac,[x2-4,x3-4,x4-4,1],x5-2,rfl,ae,ae,ad,h _<|rp_sh3 ad ad ad ad⟩
 rw[a6 c1];unfold cB1;rw[aO];left;refine⟨ac,c,[3,8,7,7,7,5,7],q,rfl,ac,hq,ac,λys hy=> ?_⟩
 obtain⟨y0,y1,y2,y3,y4,y5,y6,rfl⟩: ∃x0 x1 x2 x3 x4 x5 x6,ys=[x0,x1,x2,x3,x4,x5,x6]:=by
  match ys,hy.1 with
  | [x0,x1,x2,x3,x4,x5,x6],_=>exact⟨x0,x1,x2,x3,x4,x5,x6,rfl⟩
 have k2:=hy.2 2 y2 7 rfl rfl;have k3:=hy.2 3 y3 7 rfl rfl;have k4:=hy.2 4 y4 7 rfl rfl;have k5:=hy.2 5 y5 5 rfl rfl;have k6:=hy.2 6 y6 7 rfl rfl;simp only[cF,jD];unfold cB0;left
 rw[show atI [D.int y0,.int y1,.int y2,.int y3,.int y4,.int y5,.int y6] 2=some (.int y2)from d4 (j:=2) rfl,show atI [D.int y0,.int y1,.int y2,.int y3,.int y4,.int y5,.int y6] 3=some (.int y3)from d4 (j:=3) rfl,show atI [D.int y0,.int y1,.int y2,.int y3,.int y4,.int y5,.int y6] 4=some (.int y4)from d4 (j:=4) rfl,show atI [D.int y0,.int y1,.int y2,.int y3,.int y4,.int y5,.int y6] 5=some (.int y5)from d4 (j:=5) rfl,show atI [D.int y0,.int y1,.int y2,.int y3,.int y4,.int y5,.int y6] 6=some (.int y6)from d4 (j:=6) rfl]
 dsimp only;exact⟨ac,[y2-3,y3-3,y4-3,y6-3,1],y5-2,rfl,ae,ae,ad,h _<|rp_sh4 ad ad ad ad ad⟩
theorem dU6: ∀ds Q,c19 ds Q->c22 {nx:=λ_=>Q (.pu .non),rt:=Q} (init ["c","q","d","w","f"] ds):=by
 rintro ds Q ⟨c,q,rfl,hq,h⟩;unfold c22;show(aT _ _:US) _ [some<|.pu<|.int c,some<|.pu<|.int q,none,none,none];rw[aO];left;refine⟨ac,c,[3,8],q,rfl,ac,hq,ac,λxs hx=> ?_⟩
 obtain⟨a,b,rfl⟩: ∃a b,xs=[a,b]:=by
  match xs,hx.1 with
  | [a,b],_=>exact⟨a,b,rfl⟩
 have ba:=hx.2 0 a 3 rfl rfl;simp only[cF,jD];unfold cB5;rw[aO];left;refine⟨ac,c,[3,8,999,999,999,999],q,rfl,ac,hq,ac,λys hy=> ?_⟩
 obtain⟨y0,y1,y2,y3,y4,y5,rfl⟩: ∃x0 x1 x2 x3 x4 x5,ys=[x0,x1,x2,x3,x4,x5]:=by
  match ys,hy.1 with
  | [x0,x1,x2,x3,x4,x5],_=>exact⟨x0,x1,x2,x3,x4,x5,rfl⟩
 have k2:=hy.2 2 y2 999 rfl rfl;have k3:=hy.2 3 y3 999 rfl rfl;have k4:=hy.2 4 y4 999 rfl rfl;have k5:=hy.2 5 y5 999 rfl rfl;simp only[cF,jD]
 (try left)
 rw[mY];dsimp only;obtain⟨ws,ew,w2,w4,wb⟩: ∃ws:List Int,cutD [D.int y0,.int y1,.int y2,.int y3,.int y4,.int y5] (some 2) (some<|a+4)=ws.map D.int/\2<=ws.length/\ws.length<=4/\ ∀w∈ws,0<=w/\w<999:=by
  rcases(show a=0\/a=1\/a=2 by lia)with rfl|rfl|rfl
  .exact⟨[y2,y3],rfl,ae,ae,by simp;lia⟩
  .exact⟨[y2,y3,y4],rfl,ae,ae,by simp;lia⟩
  .exact⟨[y2,y3,y4,y5],rfl,ae,ae,by simp;lia⟩
 rw[ew];unfold cB4;rw[aO,aU5];left;rw[at1];dsimp only
 by_cases cb:b=7
 .rw[a7 cb];exact d13 c q a b ws w4 Q (h _<|dU5 w2 w4 wb)
 .rw[a6 cb];exact dG7 c q a b _ ba.1 ba.2 hq Q h
def cM3:US:=(aT (fX (uOr (aY4<|dQ<|aR d87<|a8 (aC 0)<|a8 (uC<|.ty "tuple") aM)<|dQ<|uOp (iV true) (lZ<|aX 0)<|aC 1) (cV<|uC<|.bl false) dN)<|cV<|aR cY3<|a8 (dO [] [none,none] 1 (fG<|aC 0) (bU 0) (λρ Q=>Q true ρ)<|aR aU2<|a8 (aC 0) aM) aM)
def cM4:Φ:=λds Q=> ∃(r:List Int),ds=[aJ r,.int (r.length:Int)]/\r.length<=1000/\Q (.pu<|.bl true)
theorem rd_row: ∀ds Q,cM4 ds Q->cM3 {nx:=λ_=>Q (.pu .non),rt:=Q} (init ["f","m"] ds):=by
 rintro ds Q ⟨r,rfl,hl,h⟩;unfold cM3;simp only[aJ];show(aT _ _:US) _ [some<|.pu<|.tup<|r.map .int,some<|.pu<|.int (r.length:Int)];rw[aO];have two:(cV (aR cY3<|a8 (dO [] [none,none] 1 (fG<|aC 0) (bU 0) (λρ Q=>Q true ρ)<|aR aU2<|a8 (aC 0) aM) aM):US) {nx:=λ_=>Q (.pu .non),rt:=Q} [some<|.pu<|.tup<|r.map .int,some<|.pu<|.int (r.length:Int)]:=by
  rw[gW,cM,bK];refine dF (t0:=0) r.length (λk=>(r.map D.int).getD k .non) [some<|.pu<|.tup<|r.map .int,some<|.pu<|.int (r.length:Int)] ?_ ad (λx l=>[x,some<|.ow l]) none rfl (λ_ _ _=>rfl) (λ_ _=>cB _) (λ_ _ _ q=>q) (λ_ _ _=>rfl) (λ_=> .bl true) ?_ ?_
  .intro Q' q;left;rw[aP];exact q
  .intro k l Q' hk q;obtain⟨z,hz⟩:=dD1 (ys:=r) (i:=k) (by rw[aP];exact hk)
   rw[hz]at q⊢;left;exact⟨z,rfl,q⟩
  .left
   have e:(List.range r.length).map (λ_=>D.bl true)=(replicate r.length true).map D.bl:=by apply gD<;>simp
   rw[e,qK];dsimp only;have e2:(replicate r.length true).all id=true:=ae
   rw[e2];exact h
 left
 simp only[aP,u8,decide_true,nN,dC];exact two
def Num (n e:Nat)(r:List Int):Prop:= ∃u:Nat->Int,r=rwF n u/\(∀j,(u j).natAbs<=2^e)/\ ∀j,n<=j->u j=0
theorem Num.of (h: ∀x∈r,x.natAbs<=2^e):Num r.length e r:=by
 refine⟨λj=>r.getD j 0,?_,λj=> ?_,λj hj=> ?_⟩
 .apply gD
  .rw[a36]
  .intro i h1 h2;simp only[rwF,List.getElem_map,List.getElem_range];rw[aQ,aS h1];rfl
 .show(r.getD j 0).natAbs<=2^e
  rw[aQ]
  by_cases c:j<r.length
  .rw[aS c];exact h _ (cY c)
  .rw[iJ ad]
   exact cG _
 .show r.getD j 0=0
  rw[aQ,iJ hj];rfl
theorem cS4 {α:Type}(m:Nat)(x:α):(replicate m [x]).flatten=replicate m x:=ae
def c23:Φ:=λds Q=> ∃(c:Int) (n:Nat) (q:Int),ds=[.int c,.int (n:Int),.int q]/\n<=4/\0<q/\ ∀r:List Int,Num n 400 r->Q (.pu<|aJ r)
def cS5:US:=(cV<|aR cA<|a8 (dO [4] [none,some 4,none] 2 (fG<|uSl (aX 3) (jI<|uC<|.int 1) gU) (bU 0) (λρ Q=>Q true ρ)<|uOp M.gSub (uOp kW (aC 0)<|uOp fY (uOp fL (uC<|.int 2)<|aC 1)<|uC<|.int 1)<|aC 1) aM)
def cS6:US:=(aT (bG 4<|uIx (uV<|gT<|a8 (uC<|.int 2)<|a8 (uC<|.int 20)<|a8 (uC<|.int 100) aM)<|uIx (aX 3)<|uC<|.int 0) cS5)
def cM5:US:=(aT (bG 3<|aR lF<|a8 (aC 0)<|a8 (uOp fY (gT<|a8 (uC<|.int 3) aM)<|uOp fL (gT<|a8 (uC<|.int 201) aM)<|aC 1)<|a8 (aC 2) aM) cS6)
theorem rd_few: ∀ds Q,c23 ds Q->cM5 {nx:=λ_=>Q (.pu .non),rt:=Q} (init ["c","n","q","d","w"] ds):=by
 rintro ds Q ⟨c,n,q,rfl,hn,hq,h⟩;unfold cM5;show(aT _ _:US) _ [some<|.pu<|.int c,some<|.pu<|.int (n:Int),some<|.pu<|.int q,none,none];rw[aO];left;rw[bX,cS4];refine⟨ac,ac,⟨ad,ad,aI (show(0+1)*n<=4 by lia) ac⟩,?_,c,3::replicate n 201,q,by rw[cF,List.map_replicate];rfl,?_,hq,λw hw=> ?_,λxs hx=> ?_⟩
 .rw[jZ];exact aI (show 0+1+n<=5 by lia) ac
 .rw[dX,jZ];lia
 .rcases aZ.mp hw with rfl|hw
  .decide
  .rw[(List.mem_replicate.mp hw).2];decide
 obtain⟨a,ys,rfl⟩: ∃a ys,xs=a::ys:=by
  match xs,hx.1 with
  | a::ys,_=>exact⟨a,ys,rfl⟩
 have ba:=hx.2 0 a 3 rfl rfl;have ly:ys.length=n:=by
  have:=hx.1;rw[dX,dX,jZ]at this
  lia
 unfold cS6;rw[aO];left;rw[cF,mY];dsimp only;obtain⟨w,ew,w2,w1⟩: ∃w:Int,atI [D.int 2,.int 20,.int 100] a=some (.int w)/\2<=w/\w<=100:=by
  rcases(show a=0\/a=1\/a=2 by lia)with rfl|rfl|rfl
  .exact⟨2,rfl,ac,ac⟩
  .exact⟨20,rfl,ac,ac⟩
  .exact⟨100,rfl,ac,ac⟩
 refine⟨ac,?_⟩
 rw[ew];dsimp only;unfold cS5;rw[gW,cM,bK]
 refine dF (t0:=0) ys.length (λk=>(ys.map D.int).getD k .non) [some<|.pu<|.int c,some<|.pu<|.int (n:Int),some<|.pu<|.int q,some<|.ow (.int a::ys.map .int),some<|.pu<|.int w] (λQ' q=> ?_) ad (λx l'=>[x,some<|.pu<|.int w,some<|.ow l']) none rfl (λ_ _ _=>rfl) (λ_ _=>cB _) (λ_ _ _ q=>q) (λ_ _ _=>rfl) (λk=> .int (ys.getD k 0%(2*w+1)-w)) ?_ ?_
 .left
  rw[show(1:Int)=((1:Nat):Int)from rfl,aA0 _ 1 (by rw[dX];lia)]
  show Q' (List.drop 1 (D.int a::ys.map D.int)).length _ _
  rw[List.drop_succ_cons,List.drop_zero,aP];exact q
 .intro k l' Q' hk q';have e3:(ys.map D.int).getD k .non= .int (ys.getD k 0):=by
   rw[aQ,bO,aQ,aS hk];rfl
  rw[e3]at q'⊢;left;rw[d5 _ ad]
  exact⟨cmL ac ac,ad,q'⟩
 .have e4:(List.range ys.length).map (λk=>D.int (ys.getD k 0%(2*w+1)-w))=(ys.map λy=>y%(2*w+1)-w).map D.int:=by
   apply gD
   .simp
   .intro i h1 h2;simp at h1;simp[aQ,h1]
  rw[e4];left;refine h (ys.map λy=>y%(2*w+1)-w) ?_
  have hN:=Num.of (e:=400) (r:=ys.map λy=>y%(2*w+1)-w) (λx hx=> ?_)
  .rw[aP,ly]at hN;exact hN
  .obtain⟨y,hy,rfl⟩:=gE.mp hx;have y0:=dL y (show 2*w+1≠0 by lia)
   have y1:=dJ y (show 0<2*w+1 by lia)
   exact aI (show(y%(2*w+1)-w).natAbs<=100 by lia) af
def yP:Φ:=λds Q=> ∃(c:Int) (n:Nat) (q:Int),ds=[.int c,.int (n:Int),.int q]/\n<=4/\0<q/\ ∀r:List Int,Num n 400 r->Q (.pu<|aJ r)
def xC:US:=(aP4 5<|aC 7)
def xD:US:=(aT (fX (dQ<|uOp (iV false) (uIx (aX 3)<|uC<|.int 1)<|aC 6) (bG 7<|uC<|.int 0) dN) xC)
def xE:US:=(aT (fX (dQ<|uOp (iV false) (uIx (aX 3)<|uC<|.int 0)<|uC<|.int 4) (bG 7<|uOp M.gSub (uOp kW (aC 7)<|uOp M.gSub (uOp fL (uOp fL (uC<|.int 2)<|uOp aT0 (uC<|.int 10)<|uC<|.int 50)<|uOp aT0 (uC<|.int 10)<|uC<|.int 50)<|uC<|.int 1)<|uOp M.gSub (uOp fL (uOp aT0 (uC<|.int 10)<|uC<|.int 50)<|uOp aT0 (uC<|.int 10)<|uC<|.int 50)<|uC<|.int 1) dN) xD)
def xF:US:=(aT (fX (dQ<|uOp (iV false) (uIx (aX 3)<|uC<|.int 0)<|uC<|.int 3) (bG 7<|uOp M.gSub (uOp kW (aC 7)<|uOp fY (uOp fL (uC<|.int 2)<|uOp aT0 (uC<|.int 10)<|uC<|.int 20)<|uC<|.int 1)<|uOp aT0 (uC<|.int 10)<|uC<|.int 20) dN) xE)
def xG:US:=(aT (fX (dQ<|uOp (iV false) (uIx (aX 3)<|uC<|.int 0)<|uC<|.int 2) (bG 7<|uOp M.gSub (uOp kW (aC 7)<|uC<|.int 1999)<|uC<|.int 999) dN) xF)
def xH:US:=(aT (fX (dQ<|uOp (iV false) (uIx (aX 3)<|uC<|.int 0)<|uC<|.int 1) (bG 7<|uOp M.gSub (uOp kW (aC 7)<|uC<|.int 41)<|uC<|.int 20) dN) xG)
def xI:US:=(aT (fX (dQ<|uOp (iV false) (uIx (aX 3)<|uC<|.int 0)<|uC<|.int 0) (bG 7<|uOp M.gSub (uOp kW (aC 7)<|uC<|.int 5)<|uC<|.int 2) dN) xH)
def xJ:US:=(aT (jJ (fG<|uSl (aX 4) (jI<|uOp fL (uC<|.int 13)<|aC 6)<|jI<|uOp fY (uOp fL (uC<|.int 13)<|aC 6)<|uC<|.int 13) (bU 8)<|bG 7<|uOp fY (uOp fL (aC 7)<|uOp aT0 (uC<|.int 10)<|uC<|.int 8)<|aC 8) xI)
def xK:US:=(aT (bG 7<|uC<|.int 0) xJ)
def b50:US:=(cV<|aR cA<|a8 (aC 5) aM)
def b51:US:=(aT (jJ (fP<|a8 (aC 1) aM) (bU 6) xK) b50)
def b52:US:=(aT (bG 5<|gT aM) b51)
def b53:US:=(aT (bG 4<|uSl (uV<|aR lF<|a8 (aC 0)<|a8 (uOp fY (gT<|a8 (uC<|.int 5)<|a8 (uC<|.int 5) aM)<|uOp fL (gT<|a8 (uOp aT0 (uC<|.int 10)<|uC<|.int 8) aM)<|uOp fL (uC<|.int 13)<|aC 1)<|a8 (aC 2) aM) (jI<|uC<|.int 2) gU) b52)
def b03:US:=(aT (bG 3<|aR lF<|a8 (aC 0)<|a8 (gT<|a8 (uC<|.int 5)<|a8 (uC<|.int 5) aM)<|a8 (aC 2) aM) b53)
def cB6 (c q:Int)(n:Nat)(a b:Int)(zs r:List Int)(k:Nat)(Kt:UD):Prop:= ∀(t:Int) (z':Option B),t.natAbs<=2^400->Kt.nx [some<|.pu<|.int c,some<|.pu<|.int (n:Int),some<|.pu<|.int q,some<|.ow [.int a,.int b],some<|.ow<|zs.map .int,some<|.ow<|r.map .int++[.int t],some<|.pu<|.int (k:Int),some<|.pu<|.int t,z']
theorem aJ7 (c q:Int)(n:Nat)(a b:Int)(zs r:List Int)(k:Nat)(f:Int)(z:Option B)(a0:0<=a)(a5:a<5)(lr:r.length<=4)(hf:f.natAbs<=2^400)(Kt:UD)(h:cB6 c q n a b zs r k Kt):xC Kt [some<|.pu<|.int c,some<|.pu<|.int (n:Int),some<|.pu<|.int q,some<|.ow [.int a,.int b],some<|.ow<|zs.map .int,some<|.ow<|r.map .int,some<|.pu<|.int (k:Int),some<|.pu<|.int f,z]:=by
 unfold xC;left;exact⟨by rw[aP];exact nO (show r.length<=4 by omega) ac,h f z hf⟩
theorem aJ8 (c q:Int)(n:Nat)(a b:Int)(zs r:List Int)(k:Nat)(f:Int)(z:Option B)(a0:0<=a)(a5:a<5)(lr:r.length<=4)(hf:f.natAbs<=2^400)(Kt:UD)(h:cB6 c q n a b zs r k Kt):xD Kt [some<|.pu<|.int c,some<|.pu<|.int (n:Int),some<|.pu<|.int q,some<|.ow [.int a,.int b],some<|.ow<|zs.map .int,some<|.ow<|r.map .int,some<|.pu<|.int (k:Int),some<|.pu<|.int f,z]:=by
 unfold xD;rw[aO];left;rw[at1];dsimp only
 by_cases e:b=(k:Int)
 .rw[a7 e];exact aJ7 c q n a b zs r k 0 z a0 a5 lr (cG _) Kt h
 .rw[a6 e];exact aJ7 c q n a b zs r k f z a0 a5 lr hf Kt h
theorem aJ9 (c q:Int)(n:Nat)(a b:Int)(zs r:List Int)(k:Nat)(f:Int)(z:Option B)(a0:0<=a)(a5:a<5)(lr:r.length<=4)(hf:a<4->f.natAbs<=2^400)(Kt:UD)(h:cB6 c q n a b zs r k Kt):xE Kt [some<|.pu<|.int c,some<|.pu<|.int (n:Int),some<|.pu<|.int q,some<|.ow [.int a,.int b],some<|.ow<|zs.map .int,some<|.ow<|r.map .int,some<|.pu<|.int (k:Int),some<|.pu<|.int f,z]:=by
 unfold xE;rw[aO];left;rw[mY];dsimp only
 by_cases e:a=4
 .rw[a7 e];have s50:Sm (10^toNat 50):=Sm.pow (k:=200) af aa
  have s50':Sm (2*10^toNat 50):=Sm.pow (k:=200) af aa
  have g1:(0:Int)<2*10^toNat 50*10^toNat 50-1:=af
  have g2:((2*10^toNat 50*10^toNat 50-1):Int).natAbs+((10^toNat 50*10^toNat 50-1):Int).natAbs<=2^400:=af
  refine⟨cpl ac ac ac,cmL ac ac,cpl ac ac ac,.inr ⟨s50',s50⟩,a17 g1,cpl ac ac ac,cpl ac ac ac,.inr ⟨s50,s50⟩,?_⟩
  generalize (2*10^toNat 50*10^toNat 50-1:Int)=M1 at g1 g2⊢;generalize (10^toNat 50*10^toNat 50-1:Int)=M2 at g2⊢;rw[d5 _ g1];refine aJ8 c q n a b zs r k _ z a0 a5 lr ?_ Kt h;generalize 2^400=T at g2⊢;have y0:=dL f (a17 g1);have y1:=dJ f g1;omega
 .rw[a6 e];exact aJ8 c q n a b zs r k f z a0 a5 lr (hf aa) Kt h
theorem aK0 (c q:Int)(n:Nat)(a b:Int)(zs r:List Int)(k:Nat)(f:Int)(z:Option B)(a0:0<=a)(a5:a<5)(lr:r.length<=4)(hf:a<3->f.natAbs<=2^400)(Kt:UD)(h:cB6 c q n a b zs r k Kt):xF Kt [some<|.pu<|.int c,some<|.pu<|.int (n:Int),some<|.pu<|.int q,some<|.ow [.int a,.int b],some<|.ow<|zs.map .int,some<|.ow<|r.map .int,some<|.pu<|.int (k:Int),some<|.pu<|.int f,z]:=by
 unfold xF;rw[aO];left;rw[mY];dsimp only
 by_cases e:a=3
 .rw[a7 e];have g1:(0:Int)<2*10^toNat 20+1:=af
  have g2:((2*10^toNat 20+1):Int).natAbs+((10^toNat 20):Int).natAbs<=2^400:=af
  refine⟨cpl ac ac ac,cmL ac ac,a17 g1,cpl ac ac ac,?_⟩
  generalize (2*10^toNat 20+1:Int)=M1 at g1 g2⊢;generalize (10^toNat 20:Int)=M2 at g2⊢;rw[d5 _ g1];refine aJ9 c q n a b zs r k _ z a0 a5 lr (λ_=> ?_) Kt h
  generalize 2^400=T at g2⊢;have y0:=dL f (a17 g1);have y1:=dJ f g1
  lia
 .rw[a6 e];exact aJ9 c q n a b zs r k f z a0 a5 lr (λz=>hf ad) Kt h
theorem aK1 (c q:Int)(n:Nat)(a b:Int)(zs r:List Int)(k:Nat)(f:Int)(z:Option B)(a0:0<=a)(a5:a<5)(lr:r.length<=4)(hf:a<2->f.natAbs<=2^400)(Kt:UD)(h:cB6 c q n a b zs r k Kt):xG Kt [some<|.pu<|.int c,some<|.pu<|.int (n:Int),some<|.pu<|.int q,some<|.ow [.int a,.int b],some<|.ow<|zs.map .int,some<|.ow<|r.map .int,some<|.pu<|.int (k:Int),some<|.pu<|.int f,z]:=by
 unfold xG;rw[aO];left;rw[mY];dsimp only
 by_cases e:a=2
 .rw[a7 e];refine⟨ac,?_⟩
  rw[d5 _ ac]
  refine aK0 c q n a b zs r k _ z a0 a5 lr (λ_=> ?_) Kt h
  exact aI (show(f%1999-999).natAbs<=1999 by lia) af
 .rw[a6 e];exact aK0 c q n a b zs r k f z a0 a5 lr (λ_=>hf ad) Kt h
theorem aK2 (c q:Int)(n:Nat)(a b:Int)(zs r:List Int)(k:Nat)(f:Int)(z:Option B)(a0:0<=a)(a5:a<5)(lr:r.length<=4)(hf:a<1->f.natAbs<=2^400)(Kt:UD)(h:cB6 c q n a b zs r k Kt):xH Kt [some<|.pu<|.int c,some<|.pu<|.int (n:Int),some<|.pu<|.int q,some<|.ow [.int a,.int b],some<|.ow<|zs.map .int,some<|.ow<|r.map .int,some<|.pu<|.int (k:Int),some<|.pu<|.int f,z]:=by
 unfold xH;rw[aO];left;rw[mY];dsimp only
 by_cases e:a=1
 .rw[a7 e];refine⟨ac,?_⟩
  rw[d5 _ ac]
  refine aK1 c q n a b zs r k _ z a0 a5 lr (λ_=> ?_) Kt h
  exact aI (show(f%41-20).natAbs<=41 by lia) af
 .rw[a6 e];exact aK1 c q n a b zs r k f z a0 a5 lr (λ_=>hf ad) Kt h
theorem bN3 (c q:Int)(n:Nat)(a b:Int)(zs r:List Int)(k:Nat)(f:Int)(z:Option B)(a0:0<=a)(a5:a<5)(lr:r.length<=4)(Kt:UD)(h:cB6 c q n a b zs r k Kt):xI Kt [some<|.pu<|.int c,some<|.pu<|.int (n:Int),some<|.pu<|.int q,some<|.ow [.int a,.int b],some<|.ow<|zs.map .int,some<|.ow<|r.map .int,some<|.pu<|.int (k:Int),some<|.pu<|.int f,z]:=by
 unfold xI;rw[aO];left;rw[mY];dsimp only
 by_cases e:a=0
 .rw[a7 e];refine⟨ac,?_⟩
  rw[d5 _ ac]
  refine aK2 c q n a b zs r k _ z a0 a5 lr (λ_=> ?_) Kt h
  exact aI (show(f%5-2).natAbs<=5 by lia) af
 .rw[a6 e];exact aK2 c q n a b zs r k f z a0 a5 lr (λ_=>absurd e ad) Kt h
theorem bN4 (c q:Int)(n:Nat)(a b:Int)(zs r:List Int)(k:Nat)(z:Option B)(a0:0<=a)(a5:a<5)(hk:k<n)(hn:n<=4)(lr:r.length<=4)(Kt:UD)(h:cB6 c q n a b zs r k Kt):xJ Kt [some<|.pu<|.int c,some<|.pu<|.int (n:Int),some<|.pu<|.int q,some<|.ow [.int a,.int b],some<|.ow<|zs.map .int,some<|.ow<|r.map .int,some<|.pu<|.int (k:Int),some<|.pu<|.int 0,z]:=by
 unfold xJ;rw[aO];obtain⟨ws,ew⟩:=c88 zs (some<|13*(k:Int)) (some<|13*(k:Int)+13);refine bP ws.length (λi=>(ws.map D.int).getD i .non) _ (λQ' q=> ?_)
  (λi ρ=> ∃(f:Int) (z:Option B),ρ=[some<|.pu<|.int c,some<|.pu<|.int (n:Int),some<|.pu<|.int q,some<|.ow [.int a,.int b],some<|.ow<|zs.map .int,some<|.ow<|r.map .int,some<|.pu<|.int (k:Int),some<|.pu<|.int f,z]) ⟨0,z,rfl⟩ ?_ ?_
 .left
  rw[ew,aP];exact⟨cmL ac ac,cmL ac ac,q⟩
 .rintro i ρ hi ⟨f,z,rfl⟩;have e3:(ws.map D.int).getD i .non= .int (ws.getD i 0):=by
   rw[aQ,bO,aQ,aS hi];rfl
  rw[e3];refine⟨ae,?_⟩
  left
  exact⟨cpl ac ac ac,cmR ac ac,_,_,rfl⟩
 .rintro ρ ⟨f,z,rfl⟩;exact bN3 c q n a b zs r k f z a0 a5 lr Kt h
theorem d14: ∀ds Q,yP ds Q->b03 {nx:=λ_=>Q (.pu .non),rt:=Q} (init ["c","n","q","d","f","r","k","a","b"] ds):=by
 rintro ds Q ⟨c,n,q,rfl,hn,hq,h⟩;unfold b03;show(aT _ _:US) _ [some<|.pu<|.int c,some<|.pu<|.int (n:Int),some<|.pu<|.int q,none,none,none,none,none,none];rw[aO];left;refine⟨ac,c,[5,5],q,rfl,ac,hq,ac,λxs hx=> ?_⟩
 obtain⟨a,b,rfl⟩: ∃a b,xs=[a,b]:=by
  match xs,hx.1 with
  | [a,b],_=>exact⟨a,b,rfl⟩
 have ba:=hx.2 0 a 5 rfl rfl;simp only[cF,jD];unfold b53;rw[aO];left;rw[cS4,show(13*(n:Int)).toNat=13*n by lia]
 refine⟨ac,cpl ac ac ac,ac,cmL ac ac,⟨ad,ad,aI (show(0+1)*(13*n)<=52 by lia) ac⟩,?_,c,5::5::replicate (13*n) 100000000,q,by rw[cF,cF,List.map_replicate];rfl,?_,hq,λw hw=> ?_,λys hy=> ?_⟩
 .rw[jZ];exact aI (show 0+1+1+13*n<=54 by lia) ac
 .rw[dX,dX,jZ];lia
 .rcases aZ.mp hw with rfl|hw
  .decide
  rcases aZ.mp hw with rfl|hw
  .decide
  .rw[(List.mem_replicate.mp hw).2];decide
 obtain⟨zs,ez⟩:=c88 ys (some 2) none;dsimp only;rw[ez];unfold b52;rw[aO];left;refine⟨ac,?_⟩
 unfold b51;rw[aO];refine bP n (λk=> .int (0+k)) _ (λQ' q=> ?_)
  (λk ρ=> ∃(r:List Int) (x y z:Option B),ρ=[some<|.pu<|.int c,some<|.pu<|.int (n:Int),some<|.pu<|.int q,some<|.ow [.int a,.int b],some<|.ow<|zs.map .int,some<|.ow<|r.map .int,x,y,z]/\r.length=k/\ ∀x∈r,x.natAbs<=2^400) ⟨[],none,none,none,rfl,rfl,ae⟩ ?_ ?_
 .left
  refine⟨⟨ad,ad⟩,?_⟩
  rw[bX];exact q
 .rintro k ρ hk ⟨r,x,y,z,rfl,lr,hr⟩;refine⟨ae,?_⟩
  rw[bQ];show xK _ [some<|.pu<|.int c,some<|.pu<|.int (n:Int),some<|.pu<|.int q,some<|.ow [.int a,.int b],some<|.ow<|zs.map .int,some<|.ow<|r.map .int,some<|.pu<|.int (k:Int),y,z];unfold xK;rw[aO];left;exact bN4 c q n a b zs r k z ba.1 ba.2 hk hn ad _ (λt z' ht=>⟨r++[t],_,_,z',by rw[cE];rfl,by rw[cS,lr];rfl,λx hx=>by
   rcases eE.mp hx with hx|hx
   .exact hr x hx
   .rw[j8.mp hx];exact ht⟩)
 .rintro ρ ⟨r,x,y,z,rfl,lr,hr⟩;dsimp only;unfold b50;left;have hN:=Num.of hr;rw[lr]at hN;exact h r hN
noncomputable def cz (n:Nat)(u:Nat->Int):Nat->Int:=λj=>if j<n then u j else 0
theorem b04 (n:Nat)(u:Nat->Int):rwF n (cz n u)=rwF n u:=dU λi hi=>a7 hi
theorem b05 {j:Nat}(h:n<=j):cz n u j=0:=a6 ad
theorem aC3 (h: ∀j,(u j).natAbs<=2^e)(j:Nat):(cz n u j).natAbs<=2^e:=by
 unfold cz;split
 .exact h j
 .exact cG _
noncomputable def mT (k:Int):Nat->Int:=λj=>if j=0 then k else 0
theorem dU7 (k:Int)(h:1<=n):k::replicate (n-1) 0=rwF n (mT k):=by
 apply gD
 .rw[a36,dX,jZ];lia
 .intro i h1 h2;simp only[rwF,List.getElem_map,List.getElem_range]
  match i with
  | 0=>rfl
  | i+1=>rw[List.getElem_cons_succ,List.getElem_replicate];rfl
def iP:Φ:=λds Q=> ∃(C:Addr) (p:List Int) (n:Nat) (k:Int),ds=[cP C p,.int k]/\d7 p/\p.length=n+1/\Q (.pu<|aJ<|rwF n<|mT k)
def v9:US:=(cV<|aR wB<|a8 (i5<|a8 (aC 1) aM)<|a8 (a97 "degree"<|aC 0) aM)
theorem bG1: ∀ds Q,iP ds Q->v9 {nx:=λ_=>Q (.pu .non),rt:=Q} (init ["r","k"] ds):=by
 rintro ds Q ⟨C,p,n,k,rfl,rp,hn,h⟩;have lo:=rp.ok.lo;have hi:=rp.ok.hi;unfold v9;show(cV _:US) _ [some<|.pu<|cP C p,some<|.pu<|.int k];left;rw[jV (C:=C) (p:=p) rfl];left;refine⟨ac,[k],(n:Int),by rw[hn];congr 3;lia,ae,ad,ad,?_⟩
 rw[show((n:Int)-(([k]:List Int).length:Int)).toNat=n-1 by rw[zJ];lia,List.singleton_append,dU7 k ad]
 exact h
noncomputable def b78 (p:List Int)(n:Nat)(u:Nat->Int):Nat->Nat->Int
 | 0=>mT 1
 | k+1=>cz n (iF p n (b78 p n u k) u)
theorem bG2 {a b:Nat}(n4:n<=4)(hp: ∀x∈p,x.natAbs<=499)(hu: ∀j,(u j).natAbs<=2^a)(hv: ∀j,(v j).natAbs<=2^b)(j:Nat):(iF p n u v j).natAbs<=2^(a+b+29):=by
 have h1: ∀i,i<n->(v i*itT p n u i j).natAbs<=2^(a+b+27):=by
  intro i hi;rw[cZ];refine aI (iL (hv i)<|oF (n:=n) hp hu i j) ?_;rw[<-fN];exact cR ac ad
 have h2:=qN (λi=>v i*itT p n u i j) _ n h1
 have h3:(iF p n u v j).natAbs<=n*2^(a+b+27):=h2;have h4:n*2^(a+b+27)<=4*2^(a+b+27):=nJ _ n4;have h5:(2:Nat)^(a+b+29)=2^(a+b+27)*4:=by rw[show a+b+29=a+b+27+2 by lia,fN]
 lia
theorem aQ7 {p:List Int}{n:Nat}{u:Nat->Int}(n4:n<=4)(hp: ∀x∈p,x.natAbs<=499)(hu: ∀j,(u j).natAbs<=2^400): ∀k j,(b78 p n u k j).natAbs<=2^(k*429)
 | 0,j=>by
  show(if j=0 then(1:Int)else 0).natAbs<=_
  split<;>simp
 | k+1,j=>aC3 (λj=>by
  have:=bG2 n4 hp (λj=>aQ7 n4 hp hu k j) hu j
  rw[show(k+1)*429=k*429+400+29 by lia]
  exact this) j
theorem dG8 (k:Nat):rwF n (iF p n (b78 p n u k) u)=rwF n (b78 p n u<|k+1):=(b04 n _).symm
def aQ8:Φ:=λds Q=> ∃(C:Addr) (p:List Int) (n:Nat) (u:Nat->Int) (k:Nat),ds=[cP C p,aJ<|rwF n u,.int (k:Int)]/\d7 p/\p.length=n+1/\k<=20/\(∀j,(u j).natAbs<=2^400)/\Q (.pu<|aJ<|rwF n<|b78 p n u k)
def b54:US:=(rJ 3)
def b55:US:=(aT (jJ (fP<|a8 (aC 2) aM) (bU 4)<|bG 3<|aR v8<|a8 (aC 0)<|a8 (aC 3)<|a8 (aC 1) aM) b54)
def aQ9:US:=(aT (bG 3<|aR iP<|a8 (aC 0)<|a8 (uC<|.int 1) aM) b55)
theorem cM6: ∀ds Q,aQ8 ds Q->aQ9 {nx:=λ_=>Q (.pu .non),rt:=Q} (init ["r","x","k","m","s"] ds):=by
 rintro ds Q ⟨C,p,n,u,k,rfl,rp,hn,hk,hu,h⟩;have lo:=rp.ok.lo;have hi:=rp.ok.hi;unfold aQ9;show(aT _ _:US) _ [some<|.pu<|cP C p,some<|.pu<|aJ<|rwF n u,some<|.pu<|.int (k:Int),none,none];rw[aO];left;refine⟨C,p,n,1,rfl,rp,hn,?_⟩;try dsimp only
 unfold b55;rw[aO];refine bP k (λi=> .int (0+(i:Int))) _ (λQ' q=> ?_)
  (λi ρ=> ∃x,ρ=[some<|.pu<|cP C p,some<|.pu<|aJ<|rwF n u,some<|.pu<|.int (k:Int),some<|.pu<|aJ<|rwF n<|b78 p n u i,x]) ⟨none,rfl⟩ ?_ ?_
 .left
  refine⟨⟨ad,ad⟩,?_⟩
  rw[bX];exact q
 .rintro i ρ hi' ⟨x,rfl⟩;left;refine⟨ac,C,p,n,i*429+400,b78 p n u i,u,rfl,rp,hn,ad,λj=>aI (aQ7 ad rp.ok.small hu i j) (cR ac ad),λj=>aI (hu j) (cR ac ad),?_⟩
  rw[dG8];exact⟨_,rfl⟩
 .rintro ρ ⟨x,rfl⟩;unfold b54;left;exact h
noncomputable def tbL (n:Nat)(t:Nat->Nat->Int):List (List Int):=(List.range n).map λi=>rwF n (t i)
theorem dU8 (n:Nat)(t:Nat->Nat->Int):D.tup (tbF n n t)=c90 (tbL n t):=by
 unfold c90 tbL tbF;rw[i4];rfl
theorem tE (n:Nat)(t:Nat->Nat->Int):(tbL n t).length=n:=by unfold tbL;rw[aP,tY]
theorem dG9 (n1:1<=n)(n4:n<=4)(he:e<2000)(h: ∀i j,i<n->(t i j).natAbs<=2^e):Sq 4 (tbL n t):=by
 refine⟨by rw[tE];exact n1,by rw[tE];exact n4,λr hr=> ?_,λr hr x hx=> ?_⟩
 .rw[tE];obtain⟨i,hi,rfl⟩:=gE.mp hr;exact a36 _ _
 .obtain⟨i,hi,rfl⟩:=gE.mp hr;obtain⟨j,hj,rfl⟩:=gE.mp hx;exact nO (h i j<|eO.mp hi) (aN5 ac he)
theorem bG3 (T:Nat->Nat->Int):i8 4 (tbL 2 T)=1*T 0 0*(T 1 1)+(-1*T 1 0*(T 0 1)+0):=by kernel_rfl
theorem bG4 (T:Nat->Nat->Int):i8 4 (tbL 3 T)=1*T 0 0*(1*T 1 1*(T 2 2)+(-1*T 2 1*(T 1 2)+0))+(-1*T 1 0*(1*T 0 1*(T 2 2)+(-1*T 2 1*(T 0 2)+0))+(1*T 2 0*(1*T 0 1*(T 1 2)+(-1*T 1 1*(T 0 2)+0))+0)):=by kernel_rfl
theorem bG5 (T:Nat->Nat->Int):i8 4 (tbL 4 T)=1*T 0 0*(1*T 1 1*(1*T 2 2*(T 3 3)+(-1*T 3 2*(T 2 3)+0))+(-1*T 2 1*(1*T 1 2*(T 3 3)+(-1*T 3 2*(T 1 3)+0))+(1*T 3 1*(1*T 1 2*(T 2 3)+(-1*T 2 2*(T 1 3)+0))+0)))+(-1*T 1 0*(1*T 0 1*(1*T 2 2*(T 3 3)+(-1*T 3 2*(T 2 3)+0))+(-1*T 2 1*(1*T 0 2*(T 3 3)+(-1*T 3 2*(T 0 3)+0))+(1*T 3 1*(1*T 0 2*(T 2 3)+(-1*T 2 2*(T 0 3)+0))+0)))+(1*T 2 0*(1*T 0 1*(1*T 1 2*(T 3 3)+(-1*T 3 2*(T 1 3)+0))+(-1*T 1 1*(1*T 0 2*(T 3 3)+(-1*T 3 2*(T 0 3)+0))+(1*T 3 1*(1*T 0 2*(T 1 3)+(-1*T 1 2*(T 0 3)+0))+0)))+(-1*T 3 0*(1*T 0 1*(1*T 1 2*(T 2 3)+(-1*T 2 2*(T 1 3)+0))+(-1*T 1 1*(1*T 0 2*(T 2 3)+(-1*T 2 2*(T 0 3)+0))+(1*T 2 1*(1*T 0 2*(T 1 3)+(-1*T 1 2*(T 0 3)+0))+0)))+0))):=by kernel_rfl
noncomputable def nrm (p:List Int)(n:Nat)(u:Nat->Int):Int:=i8 4 (tbL n<|itT p n u)
def b06:Φ:=λds Q=> ∃(C:Addr) (p:List Int) (n e:Nat) (u:Nat->Int),ds=[cP C p,aJ<|rwF n u]/\d7 p/\p.length=n+1/\e<=1900/\(∀j,(u j).natAbs<=2^e)/\Q (.pu<|.int<|nrm p n u)
def b07:US:=(cV<|aR (fZ 4)<|a8 (aR n6<|a8 (aC 0)<|a8 (aC 1) aM) aM)
theorem d15: ∀ds Q,b06 ds Q->b07 {nx:=λ_=>Q (.pu .non),rt:=Q} (init ["r","x"] ds):=by
 rintro ds Q ⟨C,p,n,e,u,rfl,rp,hn,he,hu,h⟩;have lo:=rp.ok.lo;have hi:=rp.ok.hi;unfold b07;show(cV _:US) _ [some<|.pu<|cP C p,some<|.pu<|aJ<|rwF n u];left;refine⟨C,p,n,u,rfl,rp,hn,?_⟩;try dsimp only
 refine⟨tbL n<|itT p n u,by rw[dU8],dG9 (e:=e+27) ad ad ad λi j hi'=>aI (oF (n:=n) rp.ok.small hu i j) (cR ac ad),?_⟩
 exact h
theorem b08 (n2:2<=n)(n4:n<=4)(hu: ∀j,n<=j->u j=0)(hv: ∀j,n<=j->v j=0):rwF n (iF p n u v)=rwF n (iF p n v u):=by
 rw[<-c18 n2 n4 hu hv,<-c18 n2 n4 hv hu,show conv u v n=conv v u n from funext λm=>bS7 hu hv m]
noncomputable def tnF:Nat->Int:=λj=>if j=1 then 1 else 0
theorem cS7 {j:Nat}(n2:2<=n)(h:n<=j):tnF j=0:=a6 ad
theorem d16 (e j:Nat):(tnF j).natAbs<=2^e:=aI (show(tnF j).natAbs<=1 by unfold tnF;split<;>decide) Nat.one_le_two_pow
theorem tim_tn (n2:2<=n)(n4:n<=4)(j:Nat):iF p n u tnF j=ttF p n u j:=by
 show((List.range n).map λi=>tnF i*itT p n u i j).sum=ttF p n u j
 match n,n2,n4 with
 | 2,_,_=>simp[bB,tnF,itT]
 | 3,_,_=>simp[bB,tnF,itT]
 | 4,_,_=>simp[bB,tnF,itT]
theorem ttF_cz (n1:1<=n){j:Nat}(hj:j<n):ttF p n (cz n u) j=ttF p n u j:=by
 unfold ttF cz;rw[a7<|show n-1<n by omega,a7<|show j-1<n by omega]
theorem tn_row (n2:2<=n)(n4:n<=4):rwF n (iF p n (cz n u) tnF)=rwF n (ttF p n u):=dU λj hj=>by rw[tim_tn n2 n4,ttF_cz ad hj]
theorem nt_row (n2:2<=n)(n4:n<=4):rwF n (iF p n tnF<|cz n u)=rwF n (ttF p n u):=by
 rw[b08 n2 n4 (λj hj=>cS7 n2 hj) λj hj=>b05 hj,tn_row n2 n4]
theorem d17 {s:Nat}(c:Nat)(hz:z=(c:Int))(n:Nat)(hn:n<=4)(hs:ρ[s]? =some (some<|.pu<|.int (n:Int)))(h:Q (.pu<|aJ<|rwF n λk=>if k=c then 1 else 0) ρ) :
  aR cA (a8 (dO [] [none,none] 1 (fP<|a8 (aC s) aM) (bU 0) (λρ Q=>Q true ρ)<|aR bY2<|a8 (uOp (iV false) (aC 0)<|uC<|.int z) aM) aM) ρ Q:=by
 subst hz;rw[cM,bK];refine dF (t0:=0) n (λk=> .int (0+(k:Int))) ρ (λQ' q=> ?_) ad (λx l'=>[x,some<|.ow l']) none rfl (λ_ _ _=>rfl) (λ_ _=>cB _) (λ_ _ _ q=>q) (λ_ _ _=>rfl) (λk=> .int (if k=c then 1 else 0)) ?_ ?_
 .unfold fP;rw[bK,aU6 hs];left;refine⟨⟨ad,ad⟩,?_⟩
  rw[bX];exact q
 .intro k l' Q' hk q';rw[bQ]at q'⊢;left
  by_cases e:k=c
  .subst e
   simpa using q'
  .rw[a6 e]at q';rw[a6<|show ¬(k:Int)=(c:Int)by lia]
   exact q'
 .rw[kJ];exact h
theorem dH0 (i n:Nat)(t:Nat->Nat->Int):tbF i n t++[aJ<|rwF n<|t i]=tbF (i+1) n t:=by
 unfold tbF;rw[bB,cE];rfl
def bG6:Φ:=λds Q=> ∃(p:List Int) (n e:Nat) (u:Nat->Int),ds=[aJ p,aJ<|rwF n u]/\d7 p/\p.length=n+1/\e<=1900/\(∀j,(u j).natAbs<=2^e)/\Q (.ow<|tbF n n<|itT p n u)
def bT5:US:=(rJ 4)
def bT6:US:=(aT (jJ (fP<|a8 (aC 2) aM) (bU 6)<|aT (aP4 4<|aC 5)<|bG 5<|aR aC0<|a8 (aC 0)<|a8 (aC 3)<|a8 (aC 5) aM) bT5)
def bT7:US:=(aT (bG 5<|aR cA<|a8 (aC 1) aM) bT6)
def b09:US:=(aT (bG 4<|gT aM) bT7)
def b10:US:=(aT (bG 3<|aR cA<|a8 (dO [] [none,none] 1 (fP<|a8 (aC 2) aM) (bU 0) (λρ Q=>Q true ρ)<|aR bY2<|a8 (uOp (iV false) (aC 0)<|uC<|.int 1) aM) aM) b09)
def bG7:US:=(aT (bG 2<|uOp M.gSub (lZ<|aX 0)<|uC<|.int 1) b10)
theorem dH1: ∀ds Q,bG6 ds Q->bG7 {nx:=λ_=>Q (.pu .non),rt:=Q} (init ["p","x","m","t","r","w","k"] ds):=by
 rintro ds Q ⟨p,n,e,u,rfl,rp,hn,he,hu,h⟩;have lo:=rp.ok.lo;have hi:=rp.ok.hi;have n2:2<=n:=ad
 have n4:n<=4:=ad
 unfold bG7;show(aT _ _:US) _ [some<|.pu<|.tup<|p.map .int,some<|.pu<|aJ<|rwF n u,none,none,none,none,none];rw[aO];left;rw[aP,show(p.length:Int)-1=(n:Int)by lia]
 change b10 _ [some<|.pu<|aJ p,some<|.pu<|aJ<|rwF n u,some<|.pu<|.int (n:Int),none,none,none,none]
 unfold b10;rw[aO,j4];refine d17 1 rfl n n4 rfl ?_;show b09 _ [some<|.pu<|aJ p,some<|.pu<|aJ<|rwF n u,some<|.pu<|.int (n:Int),some<|.pu<|aJ<|rwF n tnF,none,none,none];unfold b09;rw[aO];left;refine⟨ac,?_⟩
 unfold bT7;rw[aO];simp only[aJ];left;unfold bT6;rw[aO];refine bP n (λi=> .int (0+(i:Int))) _ (λQ' q=> ?_)
  (λi ρ=> ∃x,ρ=[some<|.pu<|aJ p,some<|.pu<|aJ<|rwF n u,some<|.pu<|.int (n:Int),some<|.pu<|aJ<|rwF n tnF,some<|.ow<|tbF i n<|itT p n u,some<|.pu<|aJ<|rwF n<|itT p n u i,x]) ⟨none,rfl⟩ ?_ ?_
 .left
  refine⟨⟨ad,ad⟩,?_⟩
  rw[bX];exact q
 .rintro i ρ hi' ⟨x,rfl⟩;left;rw[c06];refine⟨ac,b9 (show i<10 by lia) ac,p,n,e+27,tnF,cz n<|itT p n u i,?_,rp,hn,ad,λj=>d16 _ j,?_,λj hj=>cS7 n2 hj,λj hj=>b05 hj,?_⟩
  .rw[b04]
  .exact aC3 λj=>aI (oF (n:=n) rp.ok.small hu i j) (cR ac ad)
  .rw[nt_row n2 n4,dH0];exact⟨_,rfl⟩
 .rintro ρ ⟨x,rfl⟩;dsimp only;unfold bT5;left;exact h
def lJ (n:Nat):Φ:=λds Q=> ∃t:List (List Int),ds=[.lst<|t.map aJ]/\Sq n t/\Q (.pu<|.int<|i8 n t)
def cM7 (lJ:Φ):US:=(aT (fX (dQ<|uOp (iV false) (lZ<|aX 0)<|uC<|.int 1) (cV<|uIx (uV<|uIx (aX 0)<|uC<|.int 0)<|uC<|.int 0) dN)<|aT (bG 1<|uC<|.int 0)<|aT (jJ (fP<|a8 (lZ<|aX 0) aM) (bU 2)<|aT (bG 3<|dO [] [none,none] 1 (fG<|uOp fY (uSl (aX 0) gU<|jI<|aC 2)<|uSl (aX 0) (jI<|uOp fY (aC 2)<|uC<|.int 1) gU) (bU 0) (λρ Q=>Q true ρ)<|uSl (aX 0) (jI<|uC<|.int 1) gU)<|bG 1<|uOp fY (aC 1)<|uOp fL (uOp fL (uOp M.gSub (uC<|.int 1)<|uOp fL (uC<|.int 2)<|uOp kW (aC 2)<|uC<|.int 2)<|uIx (uV<|uIx (aX 0)<|aC 2)<|uC<|.int 0)<|aR lJ<|a8 (aC 3) aM)<|rJ 1)
theorem bA2 (n:Nat): ∀ds Q,lJ n ds Q->ds.length=1:=by rintro ds Q ⟨a,rfl,_⟩;rfl
theorem dH2: ∀ds Q,¬lJ 0 ds Q:=by
 rintro ds Q ⟨t,rfl,sq,_⟩;have:=sq.pos;have:=sq.le
 lia
theorem c24 (n:Nat)(hn:n<4): ∀ds Q,lJ (n+1) ds Q->cM7 (lJ n) {nx:=λ_=>Q (.pu .non),rt:=Q} (init ["t","o","i","m"] ds):=by
 rintro ds Q ⟨t,rfl,sq,h⟩;have hp:=sq.pos;have hle:=sq.le;have lt:(t.map aJ).length=t.length:=aP _;have lrow: ∀i,i<t.length->0< (t.getD i []).length:=λi hi=>by
  rw[aQ,aS hi];have:=sq.row _ (cY hi);show 0< (t[i]).length
  lia
 unfold cM7;show(aT _ _:US) _ [some<|.pu<|.lst<|t.map aJ,none,none,none];left;rw[lt];split
 .rename_i h1
  have h1':t.length=1:=ad
  have:=b97 (t:=t) (i:=0) ad
  rw[show(0:Int)+((0:Nat):Int)=0 from rfl]at this
  rw[this];simp only[aJ];rw[aA1<|lrow 0 ad]
  unfold i8 at h;rw[a7 h1']at h;exact h
 .rename_i h1
  have h1':t.length≠1:=ad
  unfold i8 at h;rw[a6 h1']at h;refine bP t.length (λi=> .int (0+i)) [some<|.pu<|.lst<|t.map aJ,some<|.pu<|.int 0,none,none] ?_ (λi ρ=> ∃x y,ρ=[some<|.pu<|.lst<|t.map aJ,some<|.pu<|.int ((List.range i).map λi=>(if i%2=0 then 1 else -1)*(t.getD i []).getD 0 0*i8 n ((t.eraseIdx i).map List.tail)).sum,x,y]) ?_ ?_ ?_
  .intro Q' q;simp only[fP];left;rw[lt];refine⟨⟨ad,ad⟩,?_⟩
   rw[bX];exact q
  .exact⟨none,none,rfl⟩
  .rintro i ρ hi ⟨x,y,rfl⟩;rw[bQ];refine⟨ae,?_⟩
   dsimp only[set_cons_zero,set_cons_succ];rw[aO,j4];refine aQ0 hi ad (λr hr=>by rw[sq.row r hr];exact hp) (λQ' q=> ?_) ?_
   .simp only[fG];left;rw[<-cS,bD5 hi];exact⟨aI (show _<=2000 by rw[aP,tQ hi];lia) ac,q⟩
   left
   have ai:=b97 hi;rw[bQ]at ai;rw[ai,d5 _ ad]
   simp only[aJ];rw[aA1<|lrow i hi];have e1:1-2*((i:Int)%2)=(if i%2=0 then(1:Int)else -1):=by
    split<;>lia
   have eg:t.getD i []=t[i]:=by rw[aQ,aS hi];rfl
   have en:((t.getD i []).getD 0 0).natAbs<=2^2000:=by
    have h0:=lrow i hi;rw[eg]at h0⊢;rw[aQ,aS h0];exact nW (sq.small _ (cY hi) _<|cY h0)
   have se:Sm ((t.getD i []).getD 0 0):=Sm.pow en ac
   have sg:Sm (if i%2=0 then(1:Int)else -1):=by split<;>exact aP9 ac ac
   have sp:Sm ((if i%2=0 then(1:Int)else -1)*(t.getD i []).getD 0 0):=by
    refine Sm.pow (k:=2000) ?_ ac
    rw[cZ];have e1:(if i%2=0 then(1:Int)else -1).natAbs=1:=by split<;>rfl
    rw[e1,uD];exact en
   have sd:Sm (i8 n<|(t.eraseIdx i).map List.tail):=Sm.pow (tK n _ ad<|sq.less h1' hi) ad
   have sm:Sm ((i:Int)%2):=aP9 ad ad
   rw[e1];refine⟨ac,.inr ⟨aP9 ac ac,sm⟩,.inr ⟨sg,se⟩,(t.eraseIdx i).map List.tail,rfl,sq.less h1' hi,.inr ⟨sp,sd⟩,?_⟩
   rw[bB,cE,a04];simp
  .rintro ρ ⟨x,y,rfl⟩;left;exact h
theorem cay2 (p:List Int)(u:Nat->Int): ∀j,j<2->itT p 2 u 2 j= -(p.getD 0 0*itT p 2 u 0 j+p.getD 1 0*itT p 2 u 1 j)
 | 0,_=>by simp[itT,ttF];grind
 | 1,_=>by simp[itT,ttF];grind
theorem cay3 (p:List Int)(u:Nat->Int): ∀j,j<3->itT p 3 u 3 j= -(p.getD 0 0*itT p 3 u 0 j+p.getD 1 0*itT p 3 u 1 j+p.getD 2 0*itT p 3 u 2 j)
 | 0,_=>by simp[itT,ttF];grind
 | 1,_=>by simp[itT,ttF];grind
 | 2,_=>by simp[itT,ttF];grind
theorem cay4 (p:List Int)(u:Nat->Int): ∀j,j<4->itT p 4 u 4 j= -(p.getD 0 0*itT p 4 u 0 j+p.getD 1 0*itT p 4 u 1 j+p.getD 2 0*itT p 4 u 2 j+p.getD 3 0*itT p 4 u 3 j)
 | 0,_=>by simp[itT,ttF];grind
 | 1,_=>by simp[itT,ttF];grind
 | 2,_=>by simp[itT,ttF];grind
 | 3,_=>by simp[itT,ttF];grind
noncomputable def gA (n:Nat)(w:Nat->Int)(r:Nat->Nat->Int):Nat->Int:=λj=>iA n λk=>w k*r k j
theorem wC (w:Nat->Int)(r:Nat->Nat->Int)(j:Nat):gA 2 w r j=w 0*r 0 j+w 1*r 1 j:=by simp[gA,iA,bB]
theorem vA (w:Nat->Int)(r:Nat->Nat->Int)(j:Nat):gA 3 w r j=w 0*r 0 j+w 1*r 1 j+w 2*r 2 j:=by simp[gA,iA,bB,Int.add_assoc]
theorem sU (w:Nat->Int)(r:Nat->Nat->Int)(j:Nat):gA 4 w r j=w 0*r 0 j+w 1*r 1 j+w 2*r 2 j+w 3*r 3 j:=by simp[gA,iA,bB,Int.add_assoc]
theorem dH3 (w u:Nat->Int)(n2:2<=n)(n4:n<=4): ∀j,j<n->ttF p n (gA n w<|itT p n u) j=gA n (ttF p n w) (itT p n u) j:=by
 intro j hj
 match n,n2,n4 with
 | 2,_,_=>
  have c:=cay2 p u j hj;have s1:itT p 2 u 1 j=ttF p 2 (itT p 2 u 0) j:=rfl;have s2:itT p 2 u 2 j=ttF p 2 (itT p 2 u 1) j:=rfl;have t0:ttF p 2 w 0= -(w 1*p.getD 0 0):=by simp[ttF]
  have t1:ttF p 2 w 1=w 0-w 1*p.getD 1 0:=by simp[ttF]
  rw[wC,t0,t1];unfold ttF at s1 s2⊢;rw[wC,wC];split at s1<;>split at s2<;>split<;>grind
 | 3,_,_=>
  have c:=cay3 p u j hj;have s1:itT p 3 u 1 j=ttF p 3 (itT p 3 u 0) j:=rfl;have s2:itT p 3 u 2 j=ttF p 3 (itT p 3 u 1) j:=rfl;have s3:itT p 3 u 3 j=ttF p 3 (itT p 3 u 2) j:=rfl;have t0:ttF p 3 w 0= -(w 2*p.getD 0 0):=by simp[ttF]
  have t1:ttF p 3 w 1=w 0-w 2*p.getD 1 0:=by simp[ttF]
  have t2:ttF p 3 w 2=w 1-w 2*p.getD 2 0:=by simp[ttF]
  rw[vA,t0,t1,t2];unfold ttF at s1 s2 s3⊢;rw[vA,vA]
  by_cases z:j=0
  .rw[a7 z]at s1 s2 s3⊢
   grind
  .rw[a6 z]at s1 s2 s3⊢
   grind
 | 4,_,_=>
  have c:=cay4 p u j hj;have s1:itT p 4 u 1 j=ttF p 4 (itT p 4 u 0) j:=rfl;have s2:itT p 4 u 2 j=ttF p 4 (itT p 4 u 1) j:=rfl;have s3:itT p 4 u 3 j=ttF p 4 (itT p 4 u 2) j:=rfl;have s4:itT p 4 u 4 j=ttF p 4 (itT p 4 u 3) j:=rfl;have t0:ttF p 4 w 0= -(w 3*p.getD 0 0):=by simp[ttF]
  have t1:ttF p 4 w 1=w 0-w 3*p.getD 1 0:=by simp[ttF]
  have t2:ttF p 4 w 2=w 1-w 3*p.getD 2 0:=by simp[ttF]
  have t3:ttF p 4 w 3=w 2-w 3*p.getD 3 0:=by simp[ttF]
  rw[sU,t0,t1,t2,t3];unfold ttF at s1 s2 s3 s4⊢;rw[sU,sU]
  by_cases z:j=0
  .rw[a7 z]at s1 s2 s3 s4⊢
   grind
  .rw[a6 z]at s1 s2 s3 s4⊢
   grind
theorem b11 (n1:1<=n)(h: ∀j,j<n->f j=g j): ∀j,j<n->ttF p n f j=ttF p n g j:=by
 intro j hj;unfold ttF;rw[h (n-1) aa,h (j-1) aa]
theorem c25 {p:List Int}{n:Nat}(u v:Nat->Int)(n2:2<=n)(n4:n<=4): ∀i j,j<n->itT p n (iF p n u v) i j=gA n (itT p n v i) (itT p n u) j
 | 0,j,_=>rfl
 | i+1,j,hj=>by
  show ttF p n (itT p n (iF p n u v) i) j=_
  rw[b11 aa (c25 u v n2 n4 i) j hj,dH3 _ _ n2 n4 j hj]
  rfl
theorem b12 {s:Nat->Nat->Int}(h: ∀i j,j<n->s i j=t i j):tbL n s=tbL n t:=by
 unfold tbL;exact nL λi _=>dU λj hj=>h i j hj
set_option maxHeartbeats 0 in
theorem mulD4 (A B:Nat->Nat->Int):i8 4 (tbL 4 λi=>gA 4 (A i) B)=i8 4 (tbL 4 A)*i8 4 (tbL 4 B):=by
 rw[bG5,bG5,bG5];simp only[sU]
 grind (ringSteps:=100000000)
theorem mulD3 (A B:Nat->Nat->Int):i8 4 (tbL 3 λi=>gA 3 (A i) B)=i8 4 (tbL 3 A)*i8 4 (tbL 3 B):=by
 rw[bG4,bG4,bG4];simp only[vA]
 grind
theorem mulD2 (A B:Nat->Nat->Int):i8 4 (tbL 2 λi=>gA 2 (A i) B)=i8 4 (tbL 2 A)*i8 4 (tbL 2 B):=by
 rw[bG3,bG3,bG3];simp only[wC]
 grind
theorem cS8 (u v:Nat->Int)(n2:2<=n)(n4:n<=4):nrm p n (iF p n u v)=nrm p n u*nrm p n v:=by
 unfold nrm;rw[b12 (t:=λi=>gA n (itT p n v i) (itT p n u))<|c25 u v n2 n4,kE]
 match n,n2,n4 with
 | 2,_,_=>exact mulD2 _ _
 | 3,_,_=>exact mulD3 _ _
 | 4,_,_=>exact mulD4 _ _
noncomputable def ch2 (A:Nat->Nat->Int):Nat->Int
 | 0=>1
 | 1=> -((A 0 0)+(A 1 1))
 | 2=>((A 0 0*(A 1 1)-A 1 0*(A 0 1)))
 | _=>0
noncomputable def ch3 (A:Nat->Nat->Int):Nat->Int
 | 0=>1
 | 1=> -((A 0 0)+(A 1 1)+(A 2 2))
 | 2=>((A 0 0*(A 1 1)-A 1 0*(A 0 1))+(A 0 0*(A 2 2)-A 2 0*(A 0 2))+(A 1 1*(A 2 2)-A 2 1*(A 1 2)))
 | 3=> -((A 0 0*(A 1 1*(A 2 2)-A 2 1*(A 1 2))-A 1 0*(A 0 1*(A 2 2)-A 2 1*(A 0 2))+A 2 0*(A 0 1*(A 1 2)-A 1 1*(A 0 2))))
 | _=>0
noncomputable def ch4 (A:Nat->Nat->Int):Nat->Int
 | 0=>1
 | 1=> -((A 0 0)+(A 1 1)+(A 2 2)+(A 3 3))
 | 2=>((A 0 0*(A 1 1)-A 1 0*(A 0 1))+(A 0 0*(A 2 2)-A 2 0*(A 0 2))+(A 0 0*(A 3 3)-A 3 0*(A 0 3))+(A 1 1*(A 2 2)-A 2 1*(A 1 2))+(A 1 1*(A 3 3)-A 3 1*(A 1 3))+(A 2 2*(A 3 3)-A 3 2*(A 2 3)))
 | 3=> -((A 0 0*(A 1 1*(A 2 2)-A 2 1*(A 1 2))-A 1 0*(A 0 1*(A 2 2)-A 2 1*(A 0 2))+A 2 0*(A 0 1*(A 1 2)-A 1 1*(A 0 2)))+(A 0 0*(A 1 1*(A 3 3)-A 3 1*(A 1 3))-A 1 0*(A 0 1*(A 3 3)-A 3 1*(A 0 3))+A 3 0*(A 0 1*(A 1 3)-A 1 1*(A 0 3)))+(A 0 0*(A 2 2*(A 3 3)-A 3 2*(A 2 3))-A 2 0*(A 0 2*(A 3 3)-A 3 2*(A 0 3))+A 3 0*(A 0 2*(A 2 3)-A 2 2*(A 0 3)))+(A 1 1*(A 2 2*(A 3 3)-A 3 2*(A 2 3))-A 2 1*(A 1 2*(A 3 3)-A 3 2*(A 1 3))+A 3 1*(A 1 2*(A 2 3)-A 2 2*(A 1 3))))
 | 4=>((A 0 0*(A 1 1*(A 2 2*(A 3 3)-A 3 2*(A 2 3))-A 2 1*(A 1 2*(A 3 3)-A 3 2*(A 1 3))+A 3 1*(A 1 2*(A 2 3)-A 2 2*(A 1 3)))-A 1 0*(A 0 1*(A 2 2*(A 3 3)-A 3 2*(A 2 3))-A 2 1*(A 0 2*(A 3 3)-A 3 2*(A 0 3))+A 3 1*(A 0 2*(A 2 3)-A 2 2*(A 0 3)))+A 2 0*(A 0 1*(A 1 2*(A 3 3)-A 3 2*(A 1 3))-A 1 1*(A 0 2*(A 3 3)-A 3 2*(A 0 3))+A 3 1*(A 0 2*(A 1 3)-A 1 2*(A 0 3)))-A 3 0*(A 0 1*(A 1 2*(A 2 3)-A 2 2*(A 1 3))-A 1 1*(A 0 2*(A 2 3)-A 2 2*(A 0 3))+A 2 1*(A 0 2*(A 1 3)-A 1 2*(A 0 3)))))
 | _=>0
noncomputable def chn (n:Nat)(A:Nat->Nat->Int)(k:Nat):Int:=if n=2 then ch2 A k else if n=3 then ch3 A k else ch4 A k
noncomputable def pwM (n:Nat)(A:Nat->Nat->Int):Nat->Nat->Nat->Int
 | 0=>λi j=>if i=j then 1 else 0
 | k+1=>λi=>gA n (A i) (pwM n A k)
noncomputable def trP (n:Nat)(A:Nat->Nat->Int)(k:Nat):Int:=iA n λi=>pwM n A k i i
theorem newt2 (A:Nat->Nat->Int): ∀k,1<=k->k<=2-> -(iA k λi=>ch2 A i*trP 2 A (k-i))=(k:Int)*ch2 A k
 | 1,_,_=>by simp[iA,bB,trP,pwM,wC,ch2]
 | 2,_,_=>by
  simp[iA,bB,trP,pwM,wC,ch2]
  grind
set_option maxHeartbeats 0 in
theorem newt3 (A:Nat->Nat->Int): ∀k,1<=k->k<=3-> -(iA k λi=>ch3 A i*trP 3 A (k-i))=(k:Int)*ch3 A k
 | 1,_,_=>by
  simp[iA,bB,trP,pwM,vA,ch3]
  grind
 | 2,_,_=>by
  simp[iA,bB,trP,pwM,vA,ch3]
  grind
 | 3,_,_=>by
  simp[iA,bB,trP,pwM,vA,ch3]
  grind (ringSteps:=100000000)
set_option maxHeartbeats 0 in
theorem newt4 (A:Nat->Nat->Int): ∀k,1<=k->k<=4-> -(iA k λi=>ch4 A i*trP 4 A (k-i))=(k:Int)*ch4 A k
 | 1,_,_=>by
  simp[iA,bB,trP,pwM,sU,ch4]
  grind
 | 2,_,_=>by
  simp[iA,bB,trP,pwM,sU,ch4]
  grind (ringSteps:=100000000)
 | 3,_,_=>by
  simp[iA,bB,trP,pwM,sU,ch4]
  grind (ringSteps:=100000000)
 | 4,_,_=>by
  simp[iA,bB,trP,pwM,sU,ch4]
  grind (ringSteps:=100000000)
theorem newt (n2:2<=n)(n4:n<=4)(A:Nat->Nat->Int)(k:Nat)(k1:1<=k)(kn:k<=n): -(iA k λi=>chn n A i*trP n A (k-i))=(k:Int)*chn n A k:=by
 match n,n2,n4 with
 | 2,_,_=>exact newt2 A k k1 kn
 | 3,_,_=>exact newt3 A k k1 kn
 | 4,_,_=>exact newt4 A k k1 kn
noncomputable def hoF (n:Nat)(A:Nat->Nat->Int):Nat->Nat->Int
 | 0=>λ_=>0
 | i+1=>λj=>gA n (hoF n A i) A j+(if j=0 then chn n A i else 0)
set_option maxHeartbeats 0 in
theorem cS9 (n2:2<=n)(n4:n<=4)(A:Nat->Nat->Int)(j:Nat)(hj:j<n):hoF n A (n+1) j=0:=by
 match n,n2,n4 with
 | 2,_,_=>
  have h:j=0\/j=1:=ad
  rcases h with rfl|rfl<;>simp[hoF,wC,chn,ch2]<;>grind
 | 3,_,_=>
  have h:j=0\/j=1\/j=2:=ad
  rcases h with rfl|rfl|rfl<;>simp[hoF,vA,chn,ch3]<;>grind (ringSteps:=100000000)
 | 4,_,_=>
  have h:j=0\/j=1\/j=2\/j=3:=ad
  rcases h with rfl|rfl|rfl|rfl<;>simp[hoF,sU,chn,ch4]<;>grind (ringSteps:=100000000)
theorem cT0 (n2:2<=n)(n4:n<=4)(A:Nat->Nat->Int):chn n A n=(if n%2=0 then 1 else -1)*i8 4 (tbL n A):=by
 match n,n2,n4 with
 | 2,_,_=>
  show ch2 A 2=1*_
  rw[bG3];unfold ch2
  grind
 | 3,_,_=>
  show ch3 A 3= -1*_
  rw[bG4];unfold ch3
  grind
 | 4,_,_=>
  show ch4 A 4=1*_
  rw[bG5];unfold ch4
  grind
theorem aV3 (n2:2<=n)(n4:n<=4)(A:Nat->Nat->Int):chn n A 0=1:=by
 match n,n2,n4 with
 | 2,_,_=>rfl
 | 3,_,_=>rfl
 | 4,_,_=>rfl
theorem qS (h: ∀i,i<n->f i=g i):iA n f=iA n g:=by
 unfold iA;rw[nL λi hi=>h i (eO.mp hi)]
theorem dH4 {p:List Int}{n:Nat}{u:Nat->Int}(n1:1<=n): ∀i j,j<n->itT p n (cz n u) i j=itT p n u i j
 | 0,j,hj=>a7 hj
 | i+1,j,hj=>b11 n1 (dH4 n1 i) j hj
theorem dH5 (n2:2<=n)(n4:n<=4)(i j:Nat)(hi:i<n)(hj:j<n):itT p n (mT 1) i j=if i=j then 1 else 0:=by
 match n,n2,n4 with
 | 2,_,_=>
  have h:(i=0\/i=1)/\(j=0\/j=1):=ad
  rcases h with⟨rfl|rfl,rfl|rfl⟩<;>simp[itT,ttF,mT]
 | 3,_,_=>
  have h:(i=0\/i=1\/i=2)/\(j=0\/j=1\/j=2):=ad
  rcases h with⟨rfl|rfl|rfl,rfl|rfl|rfl⟩<;>simp[itT,ttF,mT]
 | 4,_,_=>
  have h:(i=0\/i=1\/i=2\/i=3)/\(j=0\/j=1\/j=2\/j=3):=ad
  rcases h with⟨rfl|rfl|rfl|rfl,rfl|rfl|rfl|rfl⟩<;>simp[itT,ttF,mT]
theorem dH6 {p:List Int}{n:Nat}{u:Nat->Int}(n2:2<=n)(n4:n<=4): ∀k i j,i<n->j<n->itT p n (b78 p n u k) i j=pwM n (itT p n u) k i j
 | 0,i,j,hi,hj=>dH5 n2 n4 i j hi hj
 | k+1,i,j,hi,hj=>by
  show itT p n (cz n<|iF p n (b78 p n u k) u) i j=_
  rw[dH4 ad i j hj,c25 _ _ n2 n4 i j hj]
  exact qS λm hm=>by rw[dH6 n2 n4 k m j hm hj]
noncomputable def trc (p:List Int)(n:Nat)(u:Nat->Int):Int:=iA n λi=>itT p n u i i
theorem cT1 (n2:2<=n)(n4:n<=4)(k:Nat):trc p n (b78 p n u k)=trP n (itT p n u) k:=qS λi hi=>dH6 n2 n4 k i i hi hi
theorem bT8 (n2:2<=n)(n4:n<=4)(hp: ∀x∈p,x.natAbs<=499)(hu: ∀j,(u j).natAbs<=2^400)(k:Nat):(trP n (itT p n u) k).natAbs<=2^(429*k+29):=by
 rw[<-cT1 n2 n4];refine aI (qN _ (2^(429*k+27)) n λi hi=> ?_) ?_
 .exact aI (oF (n:=n) hp (aQ7 n4 hp hu k) i i) (cR ac ad)
 .have e:(2:Nat)^(429*k+29)=4*2^(429*k+27):=by rw[show 429*k+29=2+(429*k+27)by lia,fN]
  rw[e];exact nJ _ n4
theorem d18 (n2:2<=n)(n4:n<=4)(hp: ∀x∈p,x.natAbs<=499)(hu: ∀j,(u j).natAbs<=2^400)(k:Nat)(kn:k<=n):(chn n (itT p n u) k).natAbs<=2^(470*k):=by
 induction k using Nat.strongRecOn with
 | _ k ih=>
  by_cases k0:k=0
  .subst k0;rw[aV3 n2 n4]
   decide
  .have h1:=newt n2 n4 (itT p n u) k ad kn
   have h2:(iA k λi=>chn n (itT p n u) i*trP n (itT p n u) (k-i)).natAbs<=k*2^(470*k-12):=by
    refine qN _ _ k λi hi=> ?_
    rw[cZ];refine aI (iL (ih i hi ad)<|bT8 n2 n4 hp hu<|k-i) ?_
    rw[<-fN];exact cR ac ad
   have h3:((k:Int)*chn n (itT p n u) k).natAbs<=k*2^(470*k-12):=by
    rw[<-h1,l7];exact h2
   rw[cZ,aO2]at h3;exact aI (Nat.le_of_mul_le_mul_left h3 ad) (cR ac ad)
theorem bT9 (n2:2<=n)(n4:n<=4)(hp: ∀x∈p,x.natAbs<=499)(hu: ∀j,(u j).natAbs<=2^400)(k:Nat)(kn:k<=n):(chn n (itT p n u) k).natAbs<=2^1880:=
 aI (d18 n2 n4 hp hu k kn) (cR ac ad)
theorem b13 {p:List Int}{n:Nat}{u:Nat->Int}(n2:2<=n)(n4:n<=4)(hp: ∀x∈p,x.natAbs<=499)(hu: ∀j,(u j).natAbs<=2^400): ∀i,i<=n+1-> ∀j,(hoF n (itT p n u) i j).natAbs<=2^(1880+430*i)
 | 0,_,j=>cG _
 | i+1,hi,j=>by
  have ih:=b13 n2 n4 hp hu i ad
  have h1:(gA n (hoF n (itT p n u) i) (itT p n u) j).natAbs<=n*2^(1880+430*i+427):=by
   refine qN _ _ n λk hk=> ?_
   rw[cZ];refine aI (iL (ih k)<|oF (n:=n) hp hu k j) ?_;rw[<-fN];exact cR ac ad
  have h2:(if j=0 then chn n (itT p n u) i else 0).natAbs<=2^(1880+430*i+427):=by
   split
   .exact aI (bT9 n2 n4 hp hu i ad) (cR ac ad)
   .exact cG _
  have h3:=pX (gA n (hoF n (itT p n u) i) (itT p n u) j) (if j=0 then chn n (itT p n u) i else 0);have h4:n*2^(1880+430*i+427)<=4*2^(1880+430*i+427):=nJ _ n4;have h5:(2:Nat)^(1880+430*(i+1))=8*2^(1880+430*i+427):=by
   rw[show 1880+430*(i+1)=3+(1880+430*i+427)by lia,fN]
  show(gA n (hoF n (itT p n u) i) (itT p n u) j+(if j=0 then chn n (itT p n u) i else 0)).natAbs<=_
  rw[h5];generalize 2^(1880+430*i+427)=M at *
  lia
theorem aC4 (u v:Nat->Int)(j:Nat):iF p n u v j=gA n v (itT p n u) j:=rfl
theorem c26 (v:Nat->Int)(r:Nat->Nat->Int)(j:Nat):gA n (cz n v) r j=gA n v r j:=qS λk hk=>by rw[show cz n v k=v k from a7 hk]
theorem dU9 {x:Nat->Int}(n2:2<=n)(n4:n<=4)(hx: ∀j,n<=j->x j=0):rwF n (iF p n (cz n v) x)=rwF n (gA n v<|itT p n x):=by
 rw[b08 n2 n4 (λj hj=>b05 hj) hx]
 exact dU λj hj=>by rw[aC4,c26]
theorem d19 {T:Nat->Nat->Int}{b:D}(n4:n<=4)(hb:b= .tup (tbF n n T)\/b= .lst (tbF n n T))(hui: ∀Q':Nat->(Nat->D)->Ev->Prop,Q' n (λk=> .int (0+(k:Int))) ρ->ui ρ Q')
  (h0:rK (a75 ρ []) [none,some 2,none] 2=[none,some<|.pu b,some<|.ow []]) (h:Q (.ow<|((List.range n).map λi=>T i i).map .int) ρ) :
  dO [] [none,some 2,none] 2 ui (bU 0) (λρ Q=>Q true ρ) (uIx (uV<|uIx (aX 1)<|aC 0)<|aC 0) ρ Q:=by
 refine dF (t0:=0) n (λk=> .int (0+(k:Int))) ρ hui ad (λx l'=>[x,some<|.pu b,some<|.ow l']) none h0 (λ_ _ _=>rfl) (λ_ _=>cB _) (λ_ _ _ q=>q) (λ_ _ _=>rfl) (λk=> .int (T k k)) ?_ ?_
 .intro k l' Q' hk q';rw[bQ]at q'⊢;rcases hb with rfl|rfl
  .left
   rw[cL0 hk];simp only[aJ];rw[jO hk];exact q'
  .left
   rw[cL0 hk];simp only[aJ];rw[jO hk];exact q'
 .rw[kJ];exact h
def aR0:Φ:=λds Q=> ∃(C:Addr) (p:List Int) (n:Nat) (u:Nat->Int),ds=[cP C p,aJ<|rwF n u]/\d7 p/\p.length=n+1/\Q (.pu<|.int<|trc p n u)
def b56:US:=(cV<|aR cY4<|a8 (dO [] [none,some 2,none] 2 (fP<|a8 (a97 "degree"<|aC 0) aM) (bU 0) (λρ Q=>Q true ρ)<|uIx (uV<|uIx (aX 1)<|aC 0)<|aC 0) aM)
def aR1:US:=(aT (bG 2<|aR n6<|a8 (aC 0)<|a8 (aC 1) aM) b56)
theorem cM8: ∀ds Q,aR0 ds Q->aR1 {nx:=λ_=>Q (.pu .non),rt:=Q} (init ["r","x","t"] ds):=by
 rintro ds Q ⟨C,p,n,u,rfl,rp,hn,h⟩;have lo:=rp.ok.lo;have hi:=rp.ok.hi;unfold aR1;show(aT _ _:US) _ [some<|.pu<|cP C p,some<|.pu<|aJ<|rwF n u,none];rw[aO];left;refine⟨C,p,n,u,rfl,rp,hn,?_⟩;try dsimp only
 unfold b56;rw[gW,cM,bK];refine d19 (T:=itT p n u) ad (.inl rfl) (λQ' q=> ?_) rfl ?_
 .unfold fP;rw[bK,jV (C:=C) (p:=p) rfl];left;rw[show(p.length:Int)-1=(n:Int)by lia]
  refine⟨⟨ad,ad⟩,?_⟩
  rw[bX];exact q
 .left
  rw[aG2];exact h
theorem c27 (h:rwF n f=rwF n g)(j:Nat)(hj:j<n):f j=g j:=by
 have e:(rwF n f)[j]? =(rwF n g)[j]? :=by rw[h]
 rw[b99 hj,b99 hj]at e;exact hJ e
theorem tim_at {x:Nat->Int}(n2:2<=n)(n4:n<=4)(hx: ∀j,n<=j->x j=0)(j:Nat)(hj:j<n):iF p n (cz n v) x j=gA n v (itT p n x) j:=c27 (dU9 n2 n4 hx) j hj
theorem dV0 (f:Nat->Int):((rwF (n+1) f).map D.int).reverse=(rwF (n+1) λj=>f (n-j)).map D.int:=by
 apply gD
 .simp[rwF]
 .intro i h1 h2;simp[rwF]at h1 h2⊢
def bG8:Φ:=λds Q=> ∃(C:Addr) (p:List Int) (n:Nat) (u:Nat->Int),ds=[cP C p,aJ<|rwF n u]/\d7 p/\p.length=n+1/\(∀j,(u j).natAbs<=2^400)/\Q (.pu<|aJ<|rwF (n+1) λj=>chn n (itT p n u) (n-j))
def bU0:US:=(cV<|aR cA<|a8 (dB5 (aX 4)<|pG<|uC<|.int 1) aM)
def bU1:US:=(aT (jJ (b39<|a8 (uC<|.int 1)<|a8 (uOp fY (aC 2)<|uC<|.int 1) aM) (bU 5)<|aT (bG 6<|aR cY4<|a8 (dO [5] [none,some 4,some 3,some 5,none] 4 (fP<|a8 (aC 5) aM) (bU 0) (λρ Q=>Q true ρ)<|uOp fL (uIx (aX 1)<|aC 0)<|uIx (aX 2)<|uOp M.gSub (aC 3)<|aC 0) aM)<|aP4 4<|uOp aS9 (pG<|aC 6)<|aC 5) bU0)
def b14:US:=(aT (bG 4<|gT<|a8 (uC<|.int 1) aM) bU1)
def b15:US:=(aT (bG 3<|dO [0,1] [none,some 0,some 1,none] 3 (fP<|a8 (uOp fY (aC 2)<|uC<|.int 1) aM) (bU 0) (λρ Q=>Q true ρ)<|aR aR0<|a8 (aC 1)<|a8 (aR aQ8<|a8 (aC 1)<|a8 (aC 2)<|a8 (aC 0) aM) aM) b14)
def bG9:US:=(aT (bG 2<|a97 "degree"<|aC 0) b15)
theorem dH7: ∀ds Q,bG8 ds Q->bG9 {nx:=λ_=>Q (.pu .non),rt:=Q} (init ["r","x","n","s","p","k","t"] ds):=by
 rintro ds Q ⟨C,p,n,u,rfl,rp,hn,hu,h⟩;have lo:=rp.ok.lo;have hi:=rp.ok.hi;have n2:2<=n:=ad
 have n4:n<=4:=ad
 obtain⟨A,eA⟩: ∃A,A=itT p n u:=⟨_,rfl⟩;rw[<-eA]at h;have cb: ∀k,k<=n->Sm (chn n A k):=λk hk=>by rw[eA];exact Sm.pow (bT9 n2 n4 rp.ok.small hu k hk) ac
 have tb: ∀k,k<=n->Sm (trP n A k):=λk hk=>by rw[eA];exact Sm.pow (bT8 n2 n4 rp.ok.small hu k) ad
 unfold bG9;show(aT _ _:US) _ [some<|.pu<|cP C p,some<|.pu<|aJ<|rwF n u,none,none,none,none,none];rw[aO,j4,jV (C:=C) (p:=p) rfl,show(p.length:Int)-1=(n:Int)by lia]
 show b15 _ [some<|.pu<|cP C p,some<|.pu<|aJ<|rwF n u,some<|.pu<|.int (n:Int),none,none,none,none]
 unfold b15;rw[aO,j4];refine dF (t0:=0) (n+1) (λk=> .int (0+(k:Int))) [some<|.pu<|cP C p,some<|.pu<|aJ<|rwF n u,some<|.pu<|.int (n:Int),none,none,none,none] (λQ' q=> ?_) ad (λx l'=>[x,some<|.pu<|cP C p,some<|.pu<|aJ<|rwF n u,some<|.ow l']) none rfl (λ_ _ _=>rfl) (λ_ _=>cB _) (λ_ _ _ q=>q) (λ_ _ _=>rfl) (λk=> .int (trP n A k)) ?_ ?_
 .left
  refine⟨⟨ad,ad⟩,?_⟩
  rw[show((n:Int)+1).toNat=n+1 by lia]
  exact q
 .intro k l' Q' hk q';rw[bQ]at q'⊢;left;refine⟨C,p,n,u,k,rfl,rp,hn,ad,hu,C,p,n,b78 p n u k,rfl,rp,hn,?_⟩
  rw[cT1 n2 n4,<-eA];exact q'
 rw[kJ];change b14 _ [some<|.pu<|cP C p,some<|.pu<|aJ<|rwF n u,some<|.pu<|.int (n:Int),some<|.ow<|(rwF (n+1)<|trP n A).map .int,none,none,none];unfold b14;rw[aO];left;refine⟨ac,?_⟩
 unfold bU1;rw[aO];refine bP n (λi=> .int (1+(i:Int))) _ (λQ' q=> ?_)
  (λi ρ=> ∃x y,ρ=[some<|.pu<|cP C p,some<|.pu<|aJ<|rwF n u,some<|.pu<|.int (n:Int),some<|.ow<|(rwF (n+1)<|trP n A).map .int,some<|.ow<|(rwF (i+1)<|chn n A).map .int,x,y]) ⟨none,none,by rw[show(rwF (0+1)<|chn n A).map D.int=[.int 1]by show [D.int<|chn n A 0]=_;rw[aV3 n2 n4]]⟩ ?_ ?_
 .left
  refine⟨⟨ad,ad,ad,ad⟩,?_⟩
  rw[show((n:Int)+1-1).toNat=n by lia]
  exact q
 .rintro i ρ hi' ⟨x,y,rfl⟩;have e1:1+(i:Int)=((i+1:Nat):Int):=ad
  rw[e1];refine⟨ae,?_⟩
  dsimp only[set_cons_zero,set_cons_succ];rw[aO,j4,cM,bK]
  refine dF (t0:=0) (i+1) (λk=> .int (0+(k:Int))) [some<|.pu<|cP C p,some<|.pu<|aJ<|rwF n u,some<|.pu<|.int (n:Int),some<|.ow<|(rwF (n+1)<|trP n A).map .int,some<|.ow<|(rwF (i+1)<|chn n A).map .int,some<|.pu<|.int ((i+1:Nat):Int),y] (λQ' q=> ?_) ad (λx l'=>[x,some<|.bo<|(rwF (i+1)<|chn n A).map .int,some<|.bo<|(rwF (n+1)<|trP n A).map .int,some<|.pu<|.int ((i+1:Nat):Int),some<|.ow l']) none rfl (λ_ _ _=>rfl) (λ_ _=>cB _) (λ_ _ _ q=>q) (λ_ _ _=>rfl) (λm=> .int (chn n A m*trP n A (i+1-m))) ?_ ?_
  .left
   refine⟨⟨ad,ad⟩,?_⟩
   rw[bX];exact q
  .intro m l' Q' hm q';rw[bQ]at q'⊢;left;rw[jO hm];dsimp only;rw[show((i+1:Nat):Int)-(m:Int)=((i+1-m:Nat):Int)by lia,jO<|show i+1-m<n+1 by lia]
   dsimp only;exact⟨.inr ⟨cb m ad,tb _ ad⟩,q'⟩
  .rw[kJ];left;unfold rwF;rw[aG2];dsimp only;have nw:=newt n2 n4 A (i+1) ad ad
   have e2:(-(List.map (λm=>chn n A m*trP n A (i+1-m))<|List.range<|i+1).sum).fdiv ((i+1:Nat):Int)=chn n A (i+1):=by
    rw[show -(List.map (λm=>chn n A m*trP n A (i+1-m))<|List.range<|i+1).sum=((i+1:Nat):Int)*chn n A (i+1)from nw,uO _ ad,Int.mul_ediv_cancel_left _ ad]
   rw[e2,aP,aP,tY,show List.map D.int (List.map (chn n A)<|List.range<|i+1)++[D.int<|chn n A<|i+1]=List.map D.int (List.map (chn n A)<|List.range<|i+1+1)by rw[bB (n:=i+1),cE,cE];rfl]
   exact⟨⟨ad,aP9 ad ad⟩,b9 (show i+1<100 by lia) ac,_,_,rfl⟩
 .rintro ρ ⟨x,y,rfl⟩;dsimp only;unfold bU0;left;rw[dV0];exact⟨trivial,h⟩
noncomputable def maF (n:Nat)(A:Nat->Nat->Int):Nat->Int:=λj=>if n%2=0 then -hoF n A n j else hoF n A n j
def b16:Φ:=λds Q=> ∃(C:Addr) (p:List Int) (n:Nat) (u:Nat->Int),ds=[cP C p,aJ<|rwF n u]/\d7 p/\p.length=n+1/\(∀j,(u j).natAbs<=2^400)/\(∀j,n<=j->u j=0)/\Q (.pu<|aJ<|rwF n<|maF n<|itT p n u)
def bH0:US:=(rJ 4)
def bH1:US:=(aT (fX (dQ<|uOp (iV false) (uOp kW (aC 2)<|uC<|.int 2)<|uC<|.int 0) (cV<|aR b01<|a8 (aC 0)<|a8 (aR iP<|a8 (aC 0)<|a8 (uC<|.int 0) aM)<|a8 (aC 4) aM) dN) bH0)
def bH2:US:=(aT (jJ (bR5<|a8 (uOp M.gSub (aC 2)<|uC<|.int 1)<|a8 (uC<|.int 0)<|a8 (pG<|uC<|.int 1) aM) (bU 5)<|bG 4<|aR bF5<|a8 (aC 0)<|a8 (aR v8<|a8 (aC 0)<|a8 (aC 4)<|a8 (aC 1) aM)<|a8 (aR iP<|a8 (aC 0)<|a8 (uIx (aX 3)<|aC 5) aM) aM) bH1)
def bH3:US:=(aT (bG 4<|aR iP<|a8 (aC 0)<|a8 (uC<|.int 1) aM) bH2)
def aR2:US:=(aT (bG 3<|aR bG8<|a8 (aC 0)<|a8 (aC 1) aM) bH3)
def b17:US:=(aT (bG 2<|a97 "degree"<|aC 0) aR2)
theorem dV1 (n2:2<=n)(n4:n<=4)(A:Nat->Nat->Int):hoF n A 1=mT 1:=by
 funext j
 show gA n (λ_=>0) A j+(if j=0 then chn n A 0 else 0)=mT 1 j
 rw[aV3 n2 n4,show gA n (λ_=>0) A j=0 by
  match n,n2,n4 with
  | 2,_,_=>simp[wC]
  | 3,_,_=>simp[vA]
  | 4,_,_=>simp[sU]]
 unfold mT
 lia
theorem d20: ∀ds Q,b16 ds Q->b17 {nx:=λ_=>Q (.pu .non),rt:=Q} (init ["r","x","n","p","m","i"] ds):=by
 rintro ds Q ⟨C,p,n,u,rfl,rp,hn,hu,hz,h⟩;have lo:=rp.ok.lo;have hi:=rp.ok.hi;have n2:2<=n:=ad
 have n4:n<=4:=ad
 have hb:=b13 n2 n4 rp.ok.small hu;obtain⟨A,eA⟩: ∃A,A=itT p n u:=⟨_,rfl⟩;rw[<-eA]at h hb;unfold b17;show(aT _ _:US) _ [some<|.pu<|cP C p,some<|.pu<|aJ<|rwF n u,none,none,none,none];rw[aO,j4,jV (C:=C) (p:=p) rfl,show(p.length:Int)-1=(n:Int)by lia]
 show aR2 _ [some<|.pu<|cP C p,some<|.pu<|aJ<|rwF n u,some<|.pu<|.int (n:Int),none,none,none]
 unfold aR2;rw[aO];left;refine⟨C,p,n,u,rfl,rp,hn,hu,?_⟩;rw[<-eA];try dsimp only
 unfold bH3;rw[aO];left;refine⟨C,p,n,1,rfl,rp,hn,?_⟩;try dsimp only
 unfold bH2;rw[aO];refine bP (n-1) (λi=> .int ((n:Int)-1-(i:Int))) _ (λQ' q=> ?_)
  (λi ρ=> ∃x,ρ=[some<|.pu<|cP C p,some<|.pu<|aJ<|rwF n u,some<|.pu<|.int (n:Int),some<|.pu<|aJ<|rwF (n+1) λj=>chn n A (n-j),some<|.pu<|aJ<|rwF n<|hoF n A<|i+1,x]) ⟨none,by rw[dV1 n2 n4]⟩ ?_ ?_
 .left
  refine⟨trivial,⟨ad,ad,ad,ad⟩,?_⟩
  rw[show((n:Int)-1-0).toNat=n-1 by lia]
  exact q
 .rintro i ρ hi' ⟨x,rfl⟩;have e1:(n:Int)-1-(i:Int)=((n-1-i:Nat):Int):=ad
  rw[e1];simp only[aJ];left;rw[jO<|show n-1-i<n+1 by lia]
  dsimp only;rw[show n-(n-1-i)=i+1 by lia]
  refine⟨ac,C,p,n,1880+430*(i+1),cz n<|hoF n A<|i+1,u,?_,rp,hn,ad,aC3<|hb (i+1) ad,λj=>aI (hu j) (cR ac ad),C,p,n,chn n A<|i+1,rfl,rp,hn,_,n,iF p n (cz n<|hoF n A<|i+1) u,mT<|chn n A<|i+1,rfl,ad,?_⟩
  .rw[b04];rfl
  .rw[show rwF n (λj=>iF p n (cz n<|hoF n A<|i+1) u j+mT (chn n A<|i+1) j)=rwF n (hoF n A<|i+1+1)from dU λj hj=>by rw[tim_at n2 n4 hz j hj,<-eA];rfl]
   exact⟨_,rfl⟩
 .rintro ρ ⟨x,rfl⟩;dsimp only;rw[show n-1+1=n by lia]
  unfold bH1;rw[aO];left;rw[d5 _ ac]
  by_cases c:n%2=0
  .rw[a7 ad]
   refine⟨ac,C,p,n,0,rfl,rp,hn,_,n,mT 0,hoF n A n,rfl,ad,?_⟩
   rw[show rwF n (λj=>mT 0 j-hoF n A n j)=rwF n (maF n A)from dU λj hj=>by
    unfold maF mT;rw[a7 c];split<;>lia]
   exact h
  .rw[a6 ad]
   refine⟨ac,?_⟩
   unfold bH0;left;rw[show rwF n (hoF n A n)=rwF n (maF n A)from dU λj hj=>by
    unfold maF;rw[a6 c]]
   exact h
structure PrI (P:Int):Prop where
 lo:2<=P
 or: ∀x y:Int,P∣x*y->P∣x\/P∣y
theorem bU2: ∀(n m:Nat),m<=n->2<=m-> ∃k,2<=k/\k∣m/\ ∀l,2<=l->l∣k->l=k
 | 0,m,h,h2=>aa
 | n+1,m,h,h2=>by
  by_cases c: ∃l,2<=l/\l∣m/\l≠m
  .obtain⟨l,l2,lm,ne⟩:=c;have:=le_of_dvd aa lm
   obtain⟨k,k2,kl,hk⟩:=bU2 n l aa l2
   exact⟨k,k2,Nat.dvd_trans kl lm,hk⟩
  .refine⟨m,h2,Nat.dvd_refl m,λl l2 lm=> ?_⟩
   exact iI λne=>c ⟨l,l2,lm,ne⟩
theorem pr_div (h:2<=c.natAbs): ∃P:Int,PrI P/\P∣c:=by
 obtain⟨k,k2,kc,hk⟩:=bU2 c.natAbs c.natAbs (aG _) h;refine⟨(k:Int),⟨aa,λx y hxy=> ?_⟩,zT.mpr kc⟩
 have h1:k∣x.natAbs*y.natAbs:=by
  rw[<-cZ];exact zT.mp hxy
 by_cases cx:k∣x.natAbs
 .exact .inl (zT.mpr cx)
 .have g1:Nat.gcd k x.natAbs=1:=by
   have d1:=Nat.gcd_dvd_left k x.natAbs;have d2:=Nat.gcd_dvd_right k x.natAbs;have p0:0<Nat.gcd k x.natAbs:=Nat.gcd_pos_of_pos_left _ aa
   by_cases e:Nat.gcd k x.natAbs=1
   .exact e
   .have:=hk _ aa d1
    rw[this]at d2;exact absurd d2 cx
  exact .inr (zT.mpr<|Nat.Coprime.dvd_of_dvd_mul_left (show Nat.Coprime k x.natAbs from g1) h1)
theorem cB7 {u b:Nat->Int}{i j:Nat}(hu: ∀k,k<i->u k=0)(hb: ∀k,k<j->b k=0): ∀n,conv u b n (i+j)=if i<n then u i*b j else 0
 | 0=>rfl
 | n+1=>by
  show conv u b n (i+j)+u n*shF b n (i+j)=_
  rw[cB7 hu hb n];unfold shF;rcases Nat.lt_trichotomy n i with h|h|h
  .rw[hu n h,eQ,eF,a6<|show ¬i<n by lia,a6<|show ¬i<n+1 by lia]
  .subst h;rw[a6<|show ¬n<n by lia,a7<|show n<=n+j by lia,a7<|show n<n+1 by lia,show n+j-n=j by lia,bQ]
  .rw[a7 h,a7<|show i<n+1 by lia]
   by_cases c:n<=i+j
   .rw[a7 c,hb (i+j-n) ad,b6,eF]
   .rw[a6 c,b6,eF]
theorem bU3 {P:Int}{a:Nat->Int}{d:Nat}(h: ¬ ∀j,j<=d->P∣a j): ∃i,i<=d/\ ¬P∣a i/\ ∀k,k<i->P∣a k:=by
 induction d with
 | zero=>exact⟨0,aG _,λz=>h λj hj=>by rw[show j=0 by lia];exact z,λk hk=>absurd hk (Nat.not_lt_zero _)⟩
 | succ d ih=>
  by_cases c: ∀j,j<=d->P∣a j
  .exact⟨d+1,aG _,λz=>h λj hj=>by
    by_cases e:j=d+1
    .rw[e];exact z
    .exact c j ad,λk hk=>c k ad⟩
  .obtain⟨i,h1,h2,h3⟩:=ih c;exact⟨i,ad,h2,h3⟩
theorem dV2 {P:Int}(pr:PrI P){a q:Nat->Int}{d:Nat}(hd: ∀m,P∣conv a q (d+1) m):(∀j,j<=d->P∣a j)\/ ∀j,j<=e->P∣q j:=by
 by_cases ca: ∀j,j<=d->P∣a j
 .exact .inl ca
 .by_cases cq: ∀j,j<=e->P∣q j
  .exact .inr cq
  .exfalso
   obtain⟨i,i1,i2,i3⟩:=bU3 ca;obtain⟨j,j1,j2,j3⟩:=bU3 cq;have lo:=pr.lo;have e1:conv (λk=>if k<i then 0 else a k) (λk=>if k<j then 0 else q k) (d+1) (i+j)%P=conv a q (d+1) (i+j)%P:=by
    refine aU7 (λx y=> ?_) (d+1) (i+j)
    try dsimp only
    by_cases cx:x<i
    .rw[a7 cx,eQ,eP,zH<|Int.dvd_mul_of_dvd_left<|i3 x cx]
    .rw[a6 cx]
     by_cases cy:y<j
     .rw[a7 cy,b6,eP,zH<|Int.dvd_mul_of_dvd_right<|j3 y cy]
     .rw[a6 cy]
   rw[cB7 (λk hk=>a7 hk) λk hk=>a7 hk,a7 ad,zH<|hd _]at e1
   try dsimp only at e1
   rw[a6<|d3 _,a6<|d3 _]at e1;rcases pr.or _ _ (Int.dvd_of_emod_eq_zero e1)with z|z
   .exact i2 z
   .exact j2 z
theorem cT2 {P:Int}{a:Nat->Int}{d:Nat}(ha: ∀j,d<j->a j=0)(h: ∀j,j<=d->P∣a j): ∃b:Nat->Int,(∀j,d<j->b j=0)/\ ∀j,a j=P*b j:=by
 refine⟨λj=>if j<=d then a j/P else 0,λj hj=>a6 ad,λj=> ?_⟩
 dsimp only
 by_cases c:j<=d
 .rw[a7 c,Int.mul_ediv_cancel'<|h j c]
 .rw[a6 c,ha j ad,b6]
theorem b18 (c:Int)(u b:Nat->Int)(m:Nat): ∀n,conv u (λj=>c*b j) n m=c*conv u b n m
 | 0=>by show(0:Int)=c*0;rw[b6]
 | n+1=>by
  show conv u (λj=>c*b j) n m+u n*shF (λj=>c*b j) n m=c*(conv u b n m+u n*shF b n m)
  rw[b18 c u b m n,cR7,qG]
  congr 1
  rw[<-hZ,<-hZ,kE<|u n]
theorem dH8 {f:Nat->Int}{d e:Nat}(f1:f (d+e)=1): ∀(N:Nat) (c:Int) (a q:Nat->Int),c.natAbs<=N->c≠0->(∀j,d<j->a j=0)->(∀j,e<j->q j=0)->(∀m,c*f m=conv a q (d+1) m)->
  ∃a' q':Nat->Int,a' d=1/\(∀j,d<j->a' j=0)/\q' e=1/\(∀j,e<j->q' j=0)/\ ∀m,f m=conv a' q' (d+1) m
 | 0,c,a,q,hN,c0,_,_,_=>aa
 | N+1,c,a,q,hN,c0,ha,hq,h=>by
  have top:=h (d+e);rw[f1,kF,bE3 hq]at top
  by_cases c1:c.natAbs=1
  .have hs:(a d).natAbs=1/\(q e).natAbs=1:=by
    have:(a d).natAbs*(q e).natAbs=1:=by rw[<-cZ,<-top,c1]
    exact⟨Nat.eq_one_of_mul_eq_one_right this,Nat.eq_one_of_mul_eq_one_left this⟩
   have sq: ∀x:Int,x.natAbs=1->x*x=1:=λx hx=>by
    rcases Int.natAbs_eq x with z|z<;>rw[hx]at z<;>rw[z]<;>rfl
   have s1:=sq _ hs.1;have s2:=sq _ c1;refine⟨λj=>a d*a j,λj=>(c*a d)*q j,s1,λj hj=>(by show a d*a j=0;rw[ha j hj,b6]),?_,λj hj=>(by show c*a d*q j=0;rw[hq j hj,b6]),λm=> ?_⟩
   .show c*a d*q e=1
    rw[hZ,<-top];exact s2
   .rw[aG8,b18,<-h m];have:a d*(c*a d*(c*f m))=(a d*a d)*(c*c)*f m:=by grind
    rw[this,s1,s2]
    grind
  .obtain⟨P,pr,c',hc⟩:=pr_div (c:=c) aa
   have lo:=pr.lo;have less:c'.natAbs<c.natAbs:=by
    rw[hc,cZ];have:0<c'.natAbs:=Int.natAbs_pos.mpr λz=>c0 (by rw[hc,z,b6])
    have h2:2<=P.natAbs:=aa
    have:=nJ c'.natAbs h2;omega
   have c'0:c'≠0:=λz=>c0 (by rw[hc,z,b6])
   have all: ∀m,P∣conv a q (d+1) m:=λm=>by
    rw[<-h m,hc,hZ];exact Int.dvd_mul_right _ _
   have cut: ∀x y:Int,P*x=P*y->x=y:=λx y z=>Int.eq_of_mul_eq_mul_left aa z
   rcases dV2 (e:=e) pr all with z|z
   .obtain⟨b,hb,eb⟩:=cT2 ha z;have ea:a=λj=>P*b j:=funext eb
    refine dH8 f1 N c' b q aa c'0 hb hq λm=>cut _ _ ?_
    rw[<-hZ,<-hc,h m,ea,aG8]
   .obtain⟨b,hb,eb⟩:=cT2 hq z;have ea:q=λj=>P*b j:=funext eb
    refine dH8 f1 N c' a b aa c'0 ha hb λm=>cut _ _ ?_
    rw[<-hZ,<-hc,h m,ea,b18]
theorem pdiv {a:Nat->Int}{D:Nat}(aD:a D≠0)(aH: ∀j,D<j->a j=0){K:(Nat->Int)->Prop}(cl: ∀(g:Nat->Int) (α β:Int) (E:Nat),K g->K λm=>α*g m-β*shF a E m): ∀(E:Nat) (g:Nat->Int),K g->(∀j,D+E<=j->g j=0)->
  ∃(c:Int) (q r:Nat->Int),c≠0/\(∀j,E<=j->q j=0)/\(∀j,D<=j->r j=0)/\K r/\ ∀m,c*g m=conv a q (D+1) m+r m
 | 0,g,kg,hg=>⟨1,λ_=>0,g,ac,λ_ _=>rfl,λj hj=>hg j ad,kg,λm=>by
   have: ∀n,conv a (λ_=>0) n m=0:=by
    intro n
    induction n with
    | zero=>rfl
    | succ n ih=>
     show conv a (λ_=>0) n m+a n*shF (λ_=>0) n m=0
     rw[ih];unfold shF;split<;>rw[b6]<;>rfl
   rw[this]
   lia⟩
 | E+1,g,kg,hg=>by
  obtain⟨c,q,r,c0,hq,hr,kr,e⟩:=pdiv aD aH cl E (λm=>a D*g m-g (D+E)*shF a E m) (cl g _ _ E kg) λj hj=>by
   show a D*g j-g (D+E)*shF a E j=0
   unfold shF;rw[a7 ad]
   by_cases z:j=D+E
   .rw[z,show D+E-E=D by lia,kE,uA]
   .rw[hg j ad,aH (j-E) ad,b6,b6,uA]
  refine⟨c*a D,λj=>q j+(if j=E then c*g (D+E)else 0),r,Int.mul_ne_zero c0 aD,λj hj=> ?_,hr,kr,λm=> ?_⟩
  .show q j+(if j=E then c*g (D+E)else 0)=0
   rw[hq j ad,a6 ad]
   rfl
  .have h1:=e m;rw[aG9,aA5 (c*g (D+E)) E λj hj=>aH j ad]
   have h2:c*(a D*g m-g (D+E)*shF a E m)=conv a q (D+1) m+r m:=h1;have h3:c*a D*g m=c*(a D*g m-g (D+E)*shF a E m)+c*g (D+E)*shF a E m:=by grind
   rw[h3,h2]
   lia
noncomputable def act (p:List Int)(n:Nat)(z a:Nat->Int)(N:Nat):Nat->Int:=λj=>iA N λk=>a k*itT p n z k j
theorem eS (n:Nat)(f:Nat->Int):iA (n+1) f=iA n f+f n:=by
 unfold iA;rw[bB,cE,a04];simp
theorem aC5 {p:List Int}{n:Nat}{z a:Nat->Int}{N:Nat}(h: ∀k,N<=k->a k=0)(j:Nat): ∀M,N<=M->act p n z a M j=act p n z a N j
 | 0,hM=>by rw[show N=0 by lia]
 | M+1,hM=>by
  by_cases c:N=M+1
  .rw[c]
  .show iA (M+1) _=_
   rw[eS,h M ad,eQ,eF]
   exact aC5 h j M ad
theorem cT3 {p:List Int}{n:Nat}{z g b:Nat->Int}(α β:Int)(j:Nat): ∀N,act p n z (λm=>α*g m-β*b m) N j=α*act p n z g N j-β*act p n z b N j
 | 0=>by show(0:Int)=α*0-β*0;lia
 | N+1=>by
  have ih:=cT3 (p:=p) (n:=n) (z:=z) (g:=g) (b:=b) α β j N;unfold act at ih⊢;rw[eS,eS,eS,ih]
  grind
theorem dV3 (u v:Nat->Int)(c:Int)(j:Nat):ttF p n (λi=>u i+c*v i) j=ttF p n u j+c*ttF p n v j:=by
 unfold ttF
 by_cases h:j=0
 .rw[a7 h,a7 h,a7 h]
  grind
 .rw[a6 h,a6 h,a6 h]
  grind
theorem bU4 {p:List Int}{n:Nat}{z a:Nat->Int}(j:Nat): ∀N,act p n z (shF a 1) (N+1) j=ttF p n (act p n z a N) j
 | 0=>by
  show iA 1 (λk=>shF a 1 k*itT p n z k j)=ttF p n (λ_=>0) j
  have e:iA 1 (λk=>shF a 1 k*itT p n z k j)=shF a 1 0*itT p n z 0 j:=by simp[iA,bB]
  rw[e];unfold shF ttF;rw[a6 ad]
  split<;>lia
 | N+1=>by
  have ih:=bU4 (p:=p) (n:=n) (z:=z) (a:=a) j N;have e1:act p n z a (N+1)=λi=>act p n z a N i+a N*itT p n z N i:=funext λi=>by
   show iA (N+1) _=_
   rw[eS];rfl
  rw[e1,dV3];show iA (N+1+1) _=_;rw[eS];have e2:iA (N+1) (λk=>shF a 1 k*itT p n z k j)=ttF p n (act p n z a N) j:=ih
  rw[e2]
  congr 1
  try unfold shF
  try rw[a7 ad,iK]
  try rfl
def Kz (p:List Int)(n:Nat)(z a:Nat->Int):Prop:= ∃N,(∀k,N<=k->a k=0)/\ ∀j,j<n->act p n z a N j=0
theorem bH4 (n1:1<=n)(h: ∀j,j<n->u j=0): ∀j,j<n->ttF p n u j=0:=λj hj=>by
 unfold ttF;rw[h (n-1) ad]
 by_cases c:j=0
 .rw[a7 c];lia
 .rw[a6 c,h (j-1) ad];lia
theorem Kz.one {z a:Nat->Int}(n1:1<=n)(h:Kz p n z a):Kz p n z (shF a 1):=by
 obtain⟨N,h1,h2⟩:=h;refine⟨N+1,λk hk=> ?_,λj hj=> ?_⟩
 .unfold shF;rw[a7 ad,h1 (k-1) ad]
 .rw[bU4];exact bH4 n1 h2 j hj
theorem Kz.sh {p:List Int}{n:Nat}{z a:Nat->Int}(n1:1<=n)(h:Kz p n z a): ∀E,Kz p n z (shF a E)
 | 0=>by
  have:shF a 0=a:=funext λm=>by unfold shF;rw[a7<|cG _,u9]
  rw[this];exact h
 | E+1=>by
  have:shF a (E+1)=shF (shF a E) 1:=funext λm=>(dE5 a E 1 m).symm
  rw[this];exact Kz.one n1 (Kz.sh n1 h E)
theorem Kz.lin {z b:Nat->Int}(α β:Int)(h:Kz p n z g)(h':Kz p n z b):Kz p n z λm=>α*g m-β*b m:=by
 obtain⟨N,h1,h2⟩:=h;obtain⟨M,h3,h4⟩:=h';refine⟨N+M,λk hk=> ?_,λj hj=> ?_⟩
 .show α*g k-β*b k=0
  rw[h1 k ad,h3 k ad,b6,b6,uA]
 .rw[cT3,aC5 h1 j (N+M) ad,aC5 h3 j (N+M) ad,h2 j hj,h4 j hj,b6,b6,uA]
theorem Kz.poly (rp:d7 p)(hn:p.length=n+1)(z:Nat->Int):Kz p n z (fOf p):=by
 have lo:=rp.ok.lo;have hi:=rp.ok.hi;have rf:=rp.rf;rw[hn,iK]at rf;refine⟨n+1,λk hk=>rf.hi k ad,λj hj=> ?_⟩
 show iA (n+1) (λk=>fOf p k*itT p n z k j)=0
 rw[eS,rf.top,a19];rcases(show n=2\/n=3\/n=4 by lia)with rfl|rfl|rfl
 .rw[cay2 p z j hj,eS,eS];show 0+fOf p 0*_+fOf p 1*_+_=0;unfold fOf
  lia
 .rw[cay3 p z j hj,eS,eS,eS];show 0+fOf p 0*_+fOf p 1*_+fOf p 2*_+_=0;unfold fOf
  lia
 .rw[cay4 p z j hj,eS,eS,eS,eS];show 0+fOf p 0*_+fOf p 1*_+fOf p 2*_+fOf p 3*_+_=0;unfold fOf
  lia
theorem bH5 {r:Nat->Int}: ∀(D:Nat),(∀j,D<=j->r j=0)->(∃j,r j≠0)-> ∃E,E<D/\r E≠0/\ ∀j,E<j->r j=0
 | 0,h,⟨j,hj⟩=>absurd (h j<|cG _) hj
 | D+1,h,ex=>by
  by_cases c:r D=0
  .obtain⟨E,e1,e2,e3⟩:=bH5 D (λj hj=>by
    by_cases z:j=D
    .rw[z];exact c
    .exact h j ad) ex
   exact⟨E,ad,e2,e3⟩
  .exact⟨D,ad,c,λj hj=>h j ad⟩
theorem red_of (rp:d7 p)(hn:p.length=n+1){a q:Nat->Int}{d:Nat}(d1:1<=d)(e1:1<=e)(de:d+e=n)(a1:a d=1)(ha: ∀j,d<j->a j=0)(q1:q e=1)(hq: ∀j,e<j->q j=0)(h: ∀m,fOf p m=conv a q (d+1) m):Red p:=by
 have lo:=rp.ok.lo;have hi:=rp.ok.hi;have rf:=rp.rf;rw[hn,iK]at rf;have ef:fOf p=conv a q (d+1):=funext h;have val: ∀z,ev p z=ps a z (d+1)*ps q z (e+1):=λz=>by
  have e2:ps (fOf p) z (n+2)=ps (fOf p) z (n+1):=bE4 (n:=n+1) (n+2) ad λj h1 h2=>rf.hi j ad
  show ps (fOf p) z p.length=_
  rw[hn,<-e2,ef,c13 (V:=e+1) (λj hj=>hq j ad) (d+1) (n+2) ad]
 by_cases c1:d=1
 .subst c1;refine .inl ⟨-a 0,?_⟩;rw[val];have:ps a (-a 0) (1+1)=0:=by
   show 0+a 0*(-a 0)^0+a 1*(-a 0)^1=0
   rw[a1]
   grind
  rw[this,eQ]
 .by_cases c2:e=1
  .subst c2;refine .inl ⟨-q 0,?_⟩;rw[val];have:ps q (-q 0) (1+1)=0:=by
    show 0+q 0*(-q 0)^0+q 1*(-q 0)^1=0
    rw[q1]
    grind
   rw[this,b6]
  .obtain rfl:d=2:=ad
   obtain rfl:e=2:=ad
   refine .inr ⟨a 0,a 1,q 0,q 1,?_⟩
   rcases rp.cases with⟨x,y,rfl,_⟩| ⟨x,y,z,rfl,_⟩| ⟨x,y,z,w,rfl,_⟩
   .simp at hn;lia
   .simp at hn;lia
   .have h0:=h 0;have h1:=h 1;have h2:=h 2;have h3:=h 3;have k3:=hq 3 ad
    have f0:x=0+a 0*q 0+a 1*0+a 2*0:=h0;have f1:y=0+a 0*q 1+a 1*q 0+a 2*0:=h1;have f2:z=0+a 0*q 2+a 1*q 1+a 2*q 0:=h2;have f3:w=0+a 0*q 3+a 1*q 2+a 2*q 1:=h3;rw[a1,q1]at f2;rw[a1,q1,k3]at f3;unfold qq;rw[f0,f1,f2,f3]
    congr 1
    .grind
    .congr 1
     .grind
     .congr 1
      .grind
      .congr 1
       grind
theorem cB8 {p:List Int}{n:Nat}(rp:d7 p)(hn:p.length=n+1){z:Nat->Int}(hz: ∃j,j<n/\z j≠0): ∀(M D:Nat),D<=M->D<n-> ∀a:Nat->Int,a D≠0->(∀j,D<j->a j=0)->Kz p n z a->Red p
 | M,0,_,_,a,a0,ah,ka=>by
  exfalso
  obtain⟨j,hj,zj⟩:=hz;obtain⟨N,h1,h2⟩:=ka;have e:act p n z a 1 j=0:=by
   by_cases c:N<=1
   .rw[aC5 h1 j 1 c];exact h2 j hj
   .rw[<-aC5 (p:=p) (n:=n) (z:=z) (N:=1) (λk hk=>ah k ad) j N ad];exact h2 j hj
  have e':0+a 0*z j=0:=by
   have:act p n z a 1 j=iA 0 (λk=>a k*itT p n z k j)+a 0*itT p n z 0 j:=eS 0 _
   rw[this]at e;exact e
  rw[bQ]at e';rcases Int.mul_eq_zero.mp e' with z'|z'
  .exact a0 z'
  .exact zj z'
 | 0,D+1,h,_,_,_,_,_=>aa
 | M+1,D+1,h,hD,a,a0,ah,ka=>by
  have lo:=rp.ok.lo;have rf:=rp.rf;rw[hn,iK]at rf;obtain⟨c,q,r,c0,hq,hr,kr,e⟩:=pdiv a0 ah (K:=Kz p n z) (λg α β E kg=>Kz.lin α β kg (Kz.sh ad ka E)) (n-D) (fOf p) (Kz.poly rp hn z) λj hj=>rf.hi j ad
  by_cases cr: ∃j,r j≠0
  .obtain⟨E,e1,e2,e3⟩:=bH5 (D+1) hr cr;exact cB8 rp hn hz M E ad ad r e2 e3 kr
  .have r0: ∀j,r j=0:=λj=>iI λz=>cr ⟨j,z⟩
   obtain⟨a',q',h1,h2,h3,h4,h5⟩:=dH8 (f:=fOf p) (d:=D+1) (e:=n-(D+1)) (by rw[show D+1+(n-(D+1))=n by lia];exact rf.top) c.natAbs c a q (aG _) c0 ah (λj hj=>hq j ad) λm=>by rw[e m,r0 m,eF]
   exact red_of rp hn ad ad ad h1 h2 h3 h4 h5
theorem bH6 {p:List Int}{n:Nat}{f g:Nat->Int}(n1:1<=n)(h: ∀j,j<n->f j=g j): ∀i j,j<n->itT p n f i j=itT p n g i j
 | 0,j,hj=>h j hj
 | i+1,j,hj=>b11 n1 (bH6 n1 h i) j hj
theorem d21 (n1:1<=n)(h: ∀j,j<n->f j=g j):nrm p n f=nrm p n g:=by
 unfold nrm;rw[b12 λi j hj=>bH6 n1 h i j hj]
theorem dV4 (k:Int)(u:Nat->Int)(j:Nat):ttF p n (λi=>k*u i) j=k*ttF p n u j:=by
 unfold ttF
 by_cases h:j=0
 .rw[a7 h,a7 h];grind
 .rw[a6 h,a6 h];grind
theorem dH9 {p:List Int}{n:Nat}(k:Int)(u:Nat->Int): ∀i j,itT p n (λj=>k*u j) i j=k*itT p n u i j
 | 0,j=>rfl
 | i+1,j=>by
  have e:itT p n (λj=>k*u j) i=λj=>k*itT p n u i j:=funext λj=>dH9 k u i j
  show ttF p n (itT p n (λj=>k*u j) i) j=_
  rw[e,dV4];rfl
theorem cM9 {s:Nat->Nat->Int}(h: ∀i j,i<n->j<n->s i j=t i j):tbL n s=tbL n t:=by
 unfold tbL;refine nL λi hi=> ?_
 exact dU λj hj=>h i j (eO.mp hi) hj
theorem dI0 (n2:2<=n)(n4:n<=4){k:Int}(k0:k≠0):nrm p n (mT k)≠0:=by
 have e:nrm p n (mT k)=i8 4 (tbL n λi j=>k*if i=j then 1 else 0):=by
  unfold nrm;rw[cM9 λi j hi hj=> ?_]
  have ec:mT k=λj=>k*mT 1 j:=funext λj=>by
   unfold mT;split
   .rw[kF]
   .rw[b6]
  rw[ec,dH9,dH5 n2 n4 i j hi hj]
 rw[e]
 match n,n2,n4 with
 | 2,_,_=>
  rw[bG3];simp;exact k0
 | 3,_,_=>
  rw[bG4];simp;exact k0
 | 4,_,_=>
  rw[bG5];simp;exact k0
theorem aC6 (rp:d7 p)(hn:p.length=n+1)(irr: ¬Red p)(hy: ∃j,j<n/\y j≠0):nrm p n y≠0:=by
 intro h0;have lo:=rp.ok.lo;have hi:=rp.ok.hi;have n2:2<=n:=ad
 have n4:n<=4:=ad
 have cn:chn n (itT p n y) n=0:=by
  rw[cT0 n2 n4];have:i8 4 (tbL n<|itT p n y)=0:=h0;rw[this,b6]
 have key: ∀i,(∃j,j<n/\hoF n (itT p n y) i j≠0)-> ∃j,j<n/\hoF n (itT p n y) (i+1) j≠0:=λi hh=>by
  refine iI λno=> ?_
  have nx: ∀j,j<n->hoF n (itT p n y) (i+1) j=0:=λj hj=>iI λz=>no ⟨j,hj,z⟩
  have st: ∀j,j<n->gA n (hoF n (itT p n y) i) (itT p n y) j+(if j=0 then chn n (itT p n y) i else 0)=0:=nx;generalize hoF n (itT p n y) i=a at *;generalize chn n (itT p n y) i=c at *
  by_cases c0:c=0
  .refine irr ?_
   obtain⟨E,e1,e2,e3⟩:=bH5 (r:=cz n a) n (λj hj=>a6 ad) (by
    obtain⟨j,hj,z⟩:=hh;exact⟨j,by rw[show cz n a j=a j from a7 hj];exact z⟩)
   refine cB8 rp hn hy n E ad e1 (cz n a) e2 e3 ⟨n,λk hk=>a6 ad,λj hj=> ?_⟩
   have:=st j hj;rw[c0]at this;have e4:act p n y (cz n a) n j=gA n a (itT p n y) j:=c26 a (itT p n y) j;rw[e4];have e5:(if j=0 then(0:Int)else 0)=0:=by split<;>rfl
   rw[e5,eF]at this;exact this
  .have m:=cS8 (p:=p) (n:=n) y a n2 n4;rw[h0,eQ]at m;refine dI0 (p:=p) n2 n4 (k:= -c) ad ?_
   rw[<-m];refine d21 ad λj hj=> ?_
   have:=st j hj;show(if j=0 then -c else 0)=gA n a (itT p n y) j
   by_cases z:j=0
   .rw[a7 z]at this ⊢; lia
   .rw[a6 z]at this ⊢; lia
 have all: ∀i,∃j,j<n/\hoF n (itT p n y) (i+1) j≠0:=by
  intro i
  induction i with
  | zero=>
   refine⟨0,ad,?_⟩
   show gA n (λ_=>0) (itT p n y) 0+(if 0=0 then chn n (itT p n y) 0 else 0)≠0
   rw[a7 rfl,aV3 n2 n4];have:gA n (λ_=>0) (itT p n y) 0=0:=by
    unfold gA;have: ∀k,iA k (λi=>(0:Int)*itT p n y i 0)=0:=by
     intro k
     induction k with
     | zero=>rfl
     | succ k ih=>rw[eS,ih,eQ];rfl
    exact this n
   rw[this]
   decide
  | succ i ih=>exact key (i+1) ih
 obtain⟨j,hj,z⟩:=all n;exact z (cS9 n2 n4 _ j hj)
noncomputable def aC7 (n:Nat)(T:Nat->Nat->Int)(i:Nat):Int:=(if i%2=0 then 1 else -1)*i8 4 (((tbL n T).eraseIdx i).map List.tail)
theorem bes_20 (T:Nat->Nat->Int):aC7 2 T 0=1*(T 1 1):=by kernel_rfl
theorem bes_21 (T:Nat->Nat->Int):aC7 2 T 1= -1*(T 0 1):=by kernel_rfl
theorem bes_30 (T:Nat->Nat->Int):aC7 3 T 0=1*(1*T 1 1*(T 2 2)+(-1*T 2 1*(T 1 2)+0)):=by kernel_rfl
theorem bes_31 (T:Nat->Nat->Int):aC7 3 T 1= -1*(1*T 0 1*(T 2 2)+(-1*T 2 1*(T 0 2)+0)):=by kernel_rfl
theorem bes_32 (T:Nat->Nat->Int):aC7 3 T 2=1*(1*T 0 1*(T 1 2)+(-1*T 1 1*(T 0 2)+0)):=by kernel_rfl
theorem bes_40 (T:Nat->Nat->Int):aC7 4 T 0=1*(1*T 1 1*(1*T 2 2*(T 3 3)+(-1*T 3 2*(T 2 3)+0))+(-1*T 2 1*(1*T 1 2*(T 3 3)+(-1*T 3 2*(T 1 3)+0))+(1*T 3 1*(1*T 1 2*(T 2 3)+(-1*T 2 2*(T 1 3)+0))+0))):=by kernel_rfl
theorem bes_41 (T:Nat->Nat->Int):aC7 4 T 1= -1*(1*T 0 1*(1*T 2 2*(T 3 3)+(-1*T 3 2*(T 2 3)+0))+(-1*T 2 1*(1*T 0 2*(T 3 3)+(-1*T 3 2*(T 0 3)+0))+(1*T 3 1*(1*T 0 2*(T 2 3)+(-1*T 2 2*(T 0 3)+0))+0))):=by kernel_rfl
theorem bes_42 (T:Nat->Nat->Int):aC7 4 T 2=1*(1*T 0 1*(1*T 1 2*(T 3 3)+(-1*T 3 2*(T 1 3)+0))+(-1*T 1 1*(1*T 0 2*(T 3 3)+(-1*T 3 2*(T 0 3)+0))+(1*T 3 1*(1*T 0 2*(T 1 3)+(-1*T 1 2*(T 0 3)+0))+0))):=by kernel_rfl
theorem bes_43 (T:Nat->Nat->Int):aC7 4 T 3= -1*(1*T 0 1*(1*T 1 2*(T 2 3)+(-1*T 2 2*(T 1 3)+0))+(-1*T 1 1*(1*T 0 2*(T 2 3)+(-1*T 2 2*(T 0 3)+0))+(1*T 2 1*(1*T 0 2*(T 1 3)+(-1*T 1 2*(T 0 3)+0))+0))):=by kernel_rfl
theorem cT4 (n2:2<=n)(n4:n<=4)(A:Nat->Nat->Int)(j:Nat)(hj:j<n):gA n (maF n A) A j=mT (i8 4<|tbL n A) j:=by
 have h1:=cS9 n2 n4 A j hj;have h2:gA n (hoF n A n) A j+(if j=0 then chn n A n else 0)=0:=h1;rw[cT0 n2 n4]at h2;unfold mT
 by_cases c:n%2=0
 .have e:gA n (maF n A) A j= -gA n (hoF n A n) A j:=by
   unfold gA;rw[show(λk=>maF n A k*A k j)=λk=>(-1)*(hoF n A n k*A k j)from funext λk=>by unfold maF;rw[a7 c];grind]
   match n,n2,n4 with
   | 2,_,_=>simp[iA,bB];lia
   | 3,_,_=>simp[iA,bB];lia
   | 4,_,_=>simp[iA,bB];lia
  rw[e];rw[a7 c]at h2;split at h2<;>lia
 .have e:gA n (maF n A) A j=gA n (hoF n A n) A j:=by
   unfold gA;rw[show(λk=>maF n A k*A k j)=λk=>hoF n A n k*A k j from funext λk=>by unfold maF;rw[a6 c]]
  rw[e];rw[a6 c]at h2;split at h2<;>lia
set_option maxHeartbeats 0 in
theorem bes_eq (n2:2<=n)(n4:n<=4)(A:Nat->Nat->Int)(j:Nat)(hj:j<n):gA n (aC7 n A) A j=mT (i8 4<|tbL n A) j:=by
 match n,n2,n4 with
 | 2,_,_=>
  rw[wC,bes_20,bes_21,bG3];have h:j=0\/j=1:=ad
  rcases h with rfl|rfl<;>simp[mT]<;>grind
 | 3,_,_=>
  rw[vA,bes_30,bes_31,bes_32,bG4];have h:j=0\/j=1\/j=2:=ad
  rcases h with rfl|rfl|rfl<;>simp[mT]<;>grind
 | 4,_,_=>
  rw[sU,bes_40,bes_41,bes_42,bes_43,bG5];have h:j=0\/j=1\/j=2\/j=3:=ad
  rcases h with rfl|rfl|rfl|rfl<;>simp[mT]<;>grind
theorem dI1 (n2:2<=n)(n4:n<=4)(u v:Nat->Int)(A:Nat->Nat->Int)(j:Nat):gA n (λi=>u i-v i) A j=gA n u A j-gA n v A j:=by
 match n,n2,n4 with
 | 2,_,_=>rw[wC,wC,wC];grind
 | 3,_,_=>rw[vA,vA,vA];grind
 | 4,_,_=>rw[sU,sU,sU];grind
theorem d22 (n2:2<=n)(n4:n<=4)(u:Nat->Int)(A B:Nat->Nat->Int)(j:Nat):gA n u (λi=>gA n (A i) B) j=gA n (gA n u A) B j:=by
 match n,n2,n4 with
 | 2,_,_=>simp only[wC];grind
 | 3,_,_=>simp only[vA];grind
 | 4,_,_=>simp only[sU];grind
theorem bH7 (n2:2<=n)(n4:n<=4)(h: ∀j,j<n->y j=0):nrm p n y=0:=by
 have it0: ∀i j,j<n->itT p n y i j=0:=by
  intro i
  induction i with
  | zero=>exact h
  | succ i ih=>exact bH4 ad ih
 unfold nrm;rw[b12 (t:=λ_ _=>0) it0]
 match n,n2,n4 with
 | 2,_,_=>rw[bG3];simp
 | 3,_,_=>rw[bG4];simp
 | 4,_,_=>rw[bG5];simp
theorem one_of (rp:d7 p)(hn:p.length=n+1)(irr: ¬Red p)(hy: ∃j,j<n/\y j≠0)(h: ∀j,j<n->gA n u (itT p n y) j=gA n v (itT p n y) j)(j:Nat)(hj:j<n):u j=v j:=by
 have lo:=rp.ok.lo;have hi:=rp.ok.hi;have n2:2<=n:=ad
 have n4:n<=4:=ad
 refine iI λne=> ?_
 have m:=cS8 (p:=p) (n:=n) y (λi=>u i-v i) n2 n4
 rw[bH7 n2 n4 λj hj=>by rw[aC4,dI1 n2 n4,h j hj,uA]]at m
 rcases Int.mul_eq_zero.mp m.symm with z|z
 .exact aC6 rp hn irr hy z
 .exact aC6 rp hn irr ⟨j,hj,ad⟩ z
theorem dI2 (rp:d7 p)(hn:p.length=n+1)(irr: ¬Red p)(hy: ∃j,j<n/\y j≠0)(j:Nat)(hj:j<n):aC7 n (itT p n y) j=maF n (itT p n y) j:=by
 have lo:=rp.ok.lo;have hi:=rp.ok.hi;exact one_of rp hn irr hy (λj hj=>by rw[bes_eq ad ad _ j hj,cT4 ad ad _ j hj]) j hj
theorem dI3 (n2:2<=n)(n4:n<=4){z:Nat->Int}(yz: ∀j,n<=j->y j=0)(zz: ∀j,n<=j->z j=0)(j:Nat)(hj:j<n):iF p n (cz n<|iF p n y z) (maF n<|itT p n y) j=nrm p n y*z j:=by
 have e0: ∀j,j<n->iF p n y z j=iF p n z y j:=c27 (b08 n2 n4 yz zz);have e1: ∀i j,j<n->itT p n (cz n<|iF p n y z) i j=gA n (itT p n y i) (itT p n z) j:=λi j hj=>by
  rw[dH4 ad i j hj,bH6 ad e0 i j hj,c25 z y n2 n4 i j hj]
 rw[aC4];have e2:gA n (maF n<|itT p n y) (itT p n<|cz n<|iF p n y z) j=gA n (maF n<|itT p n y) (λi=>gA n (itT p n y i) (itT p n z)) j:=qS λk hk=>by rw[e1 k j hj]
 rw[e2,d22 n2 n4];have e3:gA n (gA n (maF n<|itT p n y)<|itT p n y) (itT p n z) j=gA n (mT<|nrm p n y) (itT p n z) j:=qS λk hk=>by rw[cT4 n2 n4 _ k hk];rfl
 rw[e3]
 match n,n2,n4 with
 | 2,_,_=>rw[wC];simp[mT,itT]
 | 3,_,_=>rw[vA];simp[mT,itT]
 | 4,_,_=>rw[sU];simp[mT,itT]
noncomputable def ovF (p:List Int)(n:Nat)(x y:Nat->Int):Nat->Int:=iF p n x (maF n<|itT p n y)
noncomputable def aI5 (p:List Int)(n:Nat)(x y:Nat->Int):List D:=if ∀j,j<n->y j=0 then [.str "nought",.non]else if ∀j,j<n->nrm p n y∣ovF p n x y j then [.str "told",aJ<|rwF n λj=>(ovF p n x y j).fdiv (nrm p n y)]else [.str "held",.non]
theorem cB9 (rp:d7 p)(hn:p.length=n+1)(irr: ¬Red p){z:Nat->Int}(hy: ∃j,j<n/\y j≠0)(yz: ∀j,n<=j->y j=0)(zz: ∀j,n<=j->z j=0):aI5 p n (cz n<|iF p n y z) y=[.str "told",aJ<|rwF n z]:=by
 have lo:=rp.ok.lo;have hi:=rp.ok.hi;have n2:2<=n:=ad
 have n4:n<=4:=ad
 have ne:=aC6 rp hn irr hy;have e: ∀j,j<n->ovF p n (cz n<|iF p n y z) y j=nrm p n y*z j:=dI3 n2 n4 yz zz;unfold aI5;rw[a6 (λall=>let ⟨j,hj,c⟩:=hy;c (all j hj)),a7 (λj hj=>by rw[e j hj];exact Int.dvd_mul_right _ _)]
 rw[show rwF n (λj=>(ovF p n (cz n<|iF p n y z) y j).fdiv (nrm p n y))=rwF n z from dU λj hj=>by rw[e j hj,kE,Int.mul_fdiv_cancel _ ne]]
theorem uOr_eq (t u:UT)(ρ:Ev)(Q:Bool->Ev->Prop):uOr t u ρ Q=t ρ λc ρ1=>if c=true then Q true ρ1 else u ρ1 Q:=rfl
section
variable {n:Nat}{f:Nat->Int}{N:Int}{s:Nat}{ρ:Ev}{ui:UI}{Q:B->Ev->Prop}
theorem cC0 (hn:n<=100)(n0:N≠0)(hui: ∀Q':Nat->(Nat->D)->Ev->Prop,Q' n (λk=>((rwF n f).map D.int).getD k .non) ρ->ui ρ Q')(h0:rK (a75 ρ [s]) [none,some s,none] 2=[none,some<|.pu<|.int N,some<|.ow []])(hf:a75 ρ [s]=ρ)(h:Q (.ow<|((List.range n).map λk=> !decide (N∣f k)).map .bl) ρ) :
  dO [s] [none,some s,none] 2 ui (bU 0) (λρ Q=>Q true ρ) (uOp (iV true) (uOp kW (aC 0)<|aC 1)<|uC<|.int 0) ρ Q:=by
 refine dF (t0:=0) n (λk=>((rwF n f).map D.int).getD k .non) ρ hui ad (λx l=>[x,some<|.pu<|.int N,some<|.ow l]) none h0 (λ_ _ _=>rfl) (λ_ _=>cB _) (λ_ _ _ q=>q) (λ_ _ _=>rfl) (λk=> .bl (!decide (N∣f k))) ?_ ?_
 .intro k l Q' hk q;rw[mZ hk]at q⊢;left;refine⟨n0,?_⟩;rw[show decide ((f k).fmod N=0)=decide (N∣f k)from decide_eq_decide.mpr (Int.dvd_iff_fmod_eq_zero).symm]
  exact q
 .rw[i4]at h;rw[hf];exact h
theorem cC1 (hn:n<=100)(n0:N≠0)(sN:Sm N)(hui: ∀Q':Nat->(Nat->D)->Ev->Prop,Q' n (λk=>((rwF n f).map D.int).getD k .non) ρ->ui ρ Q')(h0:rK (a75 ρ [s]) [none,some s,none] 2=[none,some<|.pu<|.int N,some<|.ow []])(hf:a75 ρ [s]=ρ)(h:Q (.ow<|(rwF n λk=>(f k).fdiv N).map .int) ρ) :
  dO [s] [none,some s,none] 2 ui (bU 0) (λρ Q=>Q true ρ) (uOp aS9 (aC 0)<|aC 1) ρ Q:=by
 refine dF (t0:=0) n (λk=>((rwF n f).map D.int).getD k .non) ρ hui ad (λx l=>[x,some<|.pu<|.int N,some<|.ow l]) none h0 (λ_ _ _=>rfl) (λ_ _=>cB _) (λ_ _ _ q=>q) (λ_ _ _=>rfl) (λk=> .int ((f k).fdiv N)) ?_ ?_
 .intro k l Q' hk q;rw[mZ hk]at q⊢;left;exact⟨⟨n0,sN⟩,q⟩
 .rw[kJ,hf];exact h
end
theorem c28 {P:Nat->Prop}[DecidablePred P]:((List.range n).map λk=> !decide (P k)).any id= !decide (∀j,j<n->P j):=by
 rw[u5];simp
theorem aH1 (h:ρ[i]? =some (some<|.pu<|aJ<|rwF n f))(Q:Nat->(Nat->D)->Ev->Prop)(q:Q n (λk=>((rwF n f).map D.int).getD k .non) ρ):fG (aC i) ρ Q:=by
 unfold fG;rw[aU6 h];simp only[aJ];left;rw[bY];exact q
theorem bH8 (rp:d7 p)(hn:p.length=n+1)(yb: ∀j,(y j).natAbs<=2^400):Sq 4 (tbL n<|itT p n y)/\Sm (nrm p n y):=by
 have lo:=rp.ok.lo;have hi:=rp.ok.hi;have sq:Sq 4 (tbL n<|itT p n y):=dG9 (e:=427) ad ad ac λi j hi'=>aI (oF (n:=n) rp.ok.small yb i j) (cR ac ad)
 exact⟨sq,Sm.pow (tK 4 _ ac sq) ac⟩
theorem dI4 (rp:d7 p)(hn:p.length=n+1)(yb: ∀j,(y j).natAbs<=2^400)(j:Nat):(maF n (itT p n y) j).natAbs<=2^3600:=by
 have lo:=rp.ok.lo;have hi:=rp.ok.hi;have:=b13 (n:=n) ad ad rp.ok.small yb n ad j
 unfold maF;split
 .rw[l7];exact aI this (cR ac ad)
 .exact aI this (cR ac ad)
def a42:ΦX:=λds Q Ex=> ∃(C:Addr) (p:List Int) (n:Nat) (x y:Nat->Int),ds=[cP C p,aJ<|rwF n x,aJ<|rwF n y]/\d7 p/\p.length=n+1/\ ¬Red p/\(∀j,(x j).natAbs<=2^400)/\(∀j,(y j).natAbs<=2^400)/\(∀j,n<=j->y j=0)/\
 if ∀j,j<n->y j=0 then Ex "Nought" []else if ∀j,j<n->nrm p n y∣ovF p n x y j then Q (.pu<|aJ<|rwF n λj=>(ovF p n x y j).fdiv (nrm p n y))else Ex "NotHeld" []
def b57:USX:=(λ_=>(cV<|aR cA<|a8 (dO [3] [none,some 3,none] 2 (fG<|aC 4) (bU 0) (λρ Q=>Q true ρ)<|uOp aS9 (aC 0)<|aC 1) aM))
def b58:USX:=(λEx=>aT ((λEx=>fX (dQ<|aR dB1<|a8 (dO [3] [none,some 3,none] 2 (fG<|aC 4) (bU 0) (λρ Q=>Q true ρ)<|uOp (iV true) (uOp kW (aC 0)<|aC 1)<|uC<|.int 0) aM) ((aZ2 "NotHeld"<|a8 (uC<|.str "there is no such number in the ring") aM) Ex) ((λ_=>dN) Ex)) Ex) (b57 Ex))
def b59:USX:=(λEx=>aT ((λ_=>(bG 4<|aR v8<|a8 (aC 0)<|a8 (aC 1)<|a8 (aR b16<|a8 (aC 0)<|a8 (aC 2) aM) aM)) Ex) (b58 Ex))
def b60:USX:=(λEx=>aT ((λ_=>(bG 3<|aR b06<|a8 (aC 0)<|a8 (aC 2) aM)) Ex) (b59 Ex))
def aR3:USX:=(λEx=>aT ((λEx=>fX (dQ<|uOp (b71 false) (aC 2)<|aR iP<|a8 (aC 0)<|a8 (uC<|.int 0) aM) ((aZ2 "Nought"<|a8 (uC<|.str "nothing is told over nought") aM) Ex) ((λ_=>dN) Ex)) Ex) (b60 Ex))
theorem cC2: ∀ds Q Ex,a42 ds Q Ex->ds.length=3:=by rintro ds Q Ex ⟨C,p,n,x,y,rfl,_⟩;rfl
theorem cN0: ∀ds Q Ex,a42 ds Q Ex->aR3 Ex {nx:=λ_=>Q (.pu .non),rt:=Q} (init ["r","x","y","s","m"] ds):=by
 rintro ds Q Ex ⟨C,p,n,x,y,rfl,rp,hn,irr,xb,yb,yz,h⟩;have lo:=rp.ok.lo;have hi:=rp.ok.hi;unfold aR3;dsimp only;show(aT _ _:US) _ [some<|.pu<|cP C p,some<|.pu<|aJ<|rwF n x,some<|.pu<|aJ<|rwF n y,none,none];rw[aO];left;refine⟨C,p,n,0,rfl,rp,hn,c94 ?_⟩
 by_cases c: ∀j,j<n->y j=0
 .rw[a7 c]at h;rw[hV (dU λj hj=>by rw[c j hj];unfold mT;split<;>rfl)]
  left
  exact⟨ac,h⟩
 rw[a6 c]at h;have hy: ∃j,j<n/\y j≠0:=iI λno=>c λj hj=>iI λz=>no ⟨j,hj,z⟩
 have n0:=aC6 rp hn irr hy;rw[eC λe=>c λj hj=>by rw[c27 e j hj];unfold mT;split<;>rfl]
 left
 try simp only[nN,dC]
 unfold b60;rw[aO];left;refine⟨C,p,n,400,y,rfl,rp,hn,ac,yb,?_⟩
 try dsimp only
 unfold b59;rw[aO];left;refine⟨C,p,n,y,rfl,rp,hn,yb,yz,C,p,n,3600,x,_,rfl,rp,hn,ac,λj=>aI (xb j) (cR ac ac),dI4 rp hn yb,?_⟩
 try dsimp only
 unfold b58;dsimp only;rw[aO,aU5,c08,cM,bK];refine cC0 (n:=n) (f:=ovF p n x y) ad n0 (aH1 rfl) rfl rfl ?_
 left
 rw[qK];dsimp only;rw[c28]
 by_cases d: ∀j,j<n->nrm p n y∣ovF p n x y j
 .rw[a7 d]at h;rw[hV d];try simp only[u8,nN,dC]
  unfold b57;rw[gW,cM,bK];refine cC1 (n:=n) (f:=ovF p n x y) ad n0 (bH8 rp hn yb).2 (aH1 rfl) rfl rfl ?_
  left
  exact h
 .rw[a6 d]at h;rw[eC d];try simp only[a07,cU]
  exact⟨ac,h⟩
theorem near_b {u N:Int}{M:Nat}(h0:0<N)(hM:N<=(M:Int)):(if(if u<0 then -u else u)<N then u else u%N).natAbs<=M:=by
 have e0:=dL u (show N≠0 by lia)
 have e1:=dJ u h0;split<;>lia
def aH2:Φ:=λds Q=> ∃(n:Nat) (r:List Int),ds=[aJ r]/\n<=4/\Num n 400 r/\ ∀r:List Int,Num n 133 r->Q (.pu<|aJ r)
def b19:US:=(cV<|aR cA<|a8 (dO [] [none,none] 1 (fG<|aC 0) (bU 0) (λρ Q=>Q true ρ)<|uIf (dQ<|uOp (wP λi j=>decide (i<j)) (aR cY2<|a8 (aC 0) aM)<|uOp aT0 (uC<|.int 10)<|uC<|.int 40) (aC 0)<|uOp kW (aC 0)<|uOp aT0 (uC<|.int 10)<|uC<|.int 40) aM)
theorem d23: ∀ds Q,aH2 ds Q->b19 {nx:=λ_=>Q (.pu .non),rt:=Q} (init ["x"] ds):=by
 rintro ds Q ⟨n,r,rfl,n4,⟨u,rfl,ub,uz⟩,h⟩;have T:(10:Int)^(40:Int).toNat=10000000000000000000000000000000000000000:=ac
 unfold b19;show(cV _:US) _ [some<|.pu<|aJ<|rwF n u];rw[gW,cM,bK]
 refine dF (t0:=0) n (λk=>((rwF n u).map D.int).getD k .non) [some<|.pu<|aJ<|rwF n u] (aH1 rfl) ad (λx l=>[x,some<|.ow l]) none rfl (λ_ _ _=>rfl) (λ_ _=>cB _) (λ_ _ _ q=>q) (λ_ _ _=>rfl) (λk=> .int (if(if u k<0 then -u k else u k)<10000000000000000000000000000000000000000 then u k else u k%10000000000000000000000000000000000000000)) ?_ ?_
 .intro k l Q' hk q;rw[mZ hk]at q⊢;left;rw[T];refine⟨⟨ac,ac,ac⟩,?_⟩
  by_cases c:(if u k<0 then -u k else u k)<10000000000000000000000000000000000000000
  .rw[a7 c]at q;rw[a7 c];exact q
  .rw[a6 c]at q;rw[a6 c,d5 _ ac]
   exact⟨⟨ac,ac,ac⟩,ac,q⟩
 .rw[kJ];left;refine h _ ⟨cz n _,(b04 n _).symm,λj=>aC3 (λj=> ?_) j,λj hj=>b05 hj⟩
  exact near_b ac ac
def aC8:Φ:=λds Q=> ∃(C:Addr) (p:List Int) (n:Nat) (x y:Nat->Int),ds=[cP C p,aJ<|rwF n x,aJ<|rwF n y]/\d7 p/\p.length=n+1/\ ¬Red p/\(∀j,(x j).natAbs<=2^400)/\(∀j,(y j).natAbs<=2^400)/\(∀j,n<=j->y j=0)/\Q (.ow<|aI5 p n x y)
def aH3:US:=(cV<|gT<|a8 (aC 3)<|a8 (aC 4) aM)
def bU5:US:=(aT (cK6 5 "NotHeld" "Nought" (λa _ _=> .adr a) (λa _ _=> .adr a) (λEx=>bG 4 (cK4 a42 (a8 (aC 0)<|a8 (aC 1)<|a8 (aC 2) aM) Ex)) (λx=>(bG 3<|uIf (bX5 (dQ<|cK5 x 5 true)<|aY4<|dQ<|cK5 x 5 false) (uC<|.str "held")<|uC<|.str "")) λx=>(bG 3<|uIf (bX5 (dQ<|cK5 x 5 true)<|aY4<|dQ<|cK5 x 5 false) (uC<|.str "nought")<|uC<|.str "")) aH3)
def bU6:US:=(aT (bG 4<|uC .non) bU5)
def bH9:US:=(aT (bG 3<|uC<|.str "told") bU6)
theorem dI5: ∀ds Q,aC8 ds Q->bH9 {nx:=λ_=>Q (.pu .non),rt:=Q} (init ["r","x","y","w","f","e"] ds):=by
 rintro ds Q ⟨C,p,n,x,y,rfl,rp,hn,irr,xb,yb,yz,h⟩;unfold bH9;show(aT _ _:US) _ [some<|.pu<|cP C p,some<|.pu<|aJ<|rwF n x,some<|.pu<|aJ<|rwF n y,none,none,none];rw[aO];left;unfold bU6;rw[aO];left;unfold bU5;rw[aO];left;refine⟨C,p,n,x,y,rfl,rp,hn,irr,xb,yb,yz,?_⟩;unfold aI5 at h
 by_cases c: ∀j,j<n->y j=0
 .rw[a7 c]at h⊢;refine .inr ⟨rfl,λa d=> ?_⟩
  unfold aH3;try left
  exact⟨trivial,trivial,ac,h⟩
 rw[a6 c]at h⊢
 by_cases d: ∀j,j<n->nrm p n y∣ovF p n x y j
 .rw[a7 d]at h⊢;unfold aH3;try left
  exact⟨ac,h⟩
 .rw[a6 d]at h⊢;refine .inl ⟨rfl,λa d=> ?_⟩
  unfold aH3;try left
  exact⟨trivial,trivial,ac,h⟩
theorem dV5 (n:Nat)(t:Nat->Nat->Int):tbF n n t=(tbL n t).map aJ:=by
 unfold tbL tbF;rw[i4];rfl
theorem cT5 (i:Nat)(f:Nat->Int):(rwF i f).map D.int++[D.int<|f i]=(rwF (i+1) f).map D.int:=by
 unfold rwF;rw[bB,cE,cE];rfl
theorem Sq.up {t:List (List Int)}(h:Sq 3 t):Sq 4 t:=⟨h.pos,zW h.le,h.row,h.small⟩
theorem dI6 (rp:d7 p)(hn:p.length=n+1)(yb: ∀j,(y j).natAbs<=2^400)(hi':i<n):Sq 4 (((tbL n<|itT p n y).eraseIdx i).map List.tail):=by
 have lo:=rp.ok.lo;exact((bH8 rp hn yb).1.less (by rw[tE];lia) (by rw[tE];exact hi')).up
theorem d24 (rp:d7 p)(hn:p.length=n+1)(yb: ∀j,(y j).natAbs<=2^400)(j:Nat):(cz n (aC7 n<|itT p n y) j).natAbs<=2^8040:=by
 unfold cz;split
 .rename_i hj
  unfold aC7;have:=tK 4 _ ac (dI6 rp hn yb hj)
  rw[cZ];split
  .rw[show(1:Int).natAbs=1 from rfl,uD];exact this
  .rw[show(-1:Int).natAbs=1 from rfl,uD];exact this
 .exact cG _
def cN1:Φ:=λds Q=> ∃(C:Addr) (p:List Int) (n:Nat) (x y:Nat->Int),ds=[cP C p,aJ<|rwF n x,aJ<|rwF n y]/\d7 p/\p.length=n+1/\ ¬Red p/\(∀j,(x j).natAbs<=2^400)/\(∀j,(y j).natAbs<=2^400)/\(∀j,n<=j->x j=0)/\Q (.ow<|aI5 p n x y)
def cT6:US:=(cV<|gT<|a8 (uC<|.str "told")<|a8 (aR cA<|a8 (dO [5] [none,some 5,none] 2 (fG<|aC 9) (bU 0) (λρ Q=>Q true ρ)<|uOp aS9 (aC 0)<|aC 1) aM) aM)
def cT7:US:=(aT (fX (dQ<|aR dB1<|a8 (dO [5] [none,some 5,none] 2 (fG<|aC 9) (bU 0) (λρ Q=>Q true ρ)<|uOp (iV true) (uOp kW (aC 0)<|aC 1)<|uC<|.int 0) aM) (cV<|gT<|a8 (uC<|.str "held")<|a8 (uC .non) aM) dN) cT6)
def cT8:US:=(aT (bG 9<|aR aC0<|a8 (a97 "poly"<|aC 0)<|a8 (aC 1)<|a8 (aR cA<|a8 (aC 6) aM) aM) cT7)
def cT9:US:=(aT (jJ (fP<|a8 (aC 4) aM) (bU 7)<|aT (bG 8<|dO [] [none,none] 1 (fG<|uOp fY (uSl (aX 3) gU<|jI<|aC 7)<|uSl (aX 3) (jI<|uOp fY (aC 7)<|uC<|.int 1) gU) (bU 0) (λρ Q=>Q true ρ)<|uSl (aX 0) (jI<|uC<|.int 1) gU)<|aP4 6<|uOp fL (uOp M.gSub (uC<|.int 1)<|uOp fL (uC<|.int 2)<|uOp kW (aC 7)<|uC<|.int 2)<|aR (lJ 4)<|a8 (aC 8) aM) cT8)
def cU0:US:=(aT (bG 6<|gT aM) cT9)
def cU1:US:=(aT (fX (dQ<|uOp (iV false) (aC 5)<|uC<|.int 0) (cV<|gT<|a8 (uC<|.str "nought")<|a8 (uC .non) aM) dN) cU0)
def cU2:US:=(aT (bG 5<|aR (lJ 4)<|a8 (aC 3) aM) cU1)
def cU3:US:=(aT (bG 4<|lZ<|aX 2) cU2)
def cN2:US:=(aT (bG 3<|aR bG6<|a8 (a97 "poly"<|aC 0)<|a8 (aC 2) aM) cU3)
theorem rd_due: ∀ds Q,cN1 ds Q->cN2 {nx:=λ_=>Q (.pu .non),rt:=Q} (init ["r","x","y","t","m","b","s","i","o","f"] ds):=by
 rintro ds Q ⟨C,p,n,x,y,rfl,rp,hn,irr,xb,yb,xz,h⟩;have lo:=rp.ok.lo;have hi:=rp.ok.hi;have n2:2<=n:=ad
 have n4:n<=4:=ad
 unfold cN2;show(aT _ _:US) _ [some<|.pu<|cP C p,some<|.pu<|aJ<|rwF n x,some<|.pu<|aJ<|rwF n y,none,none,none,none,none,none,none];rw[aO,j4,cM,bK,aH0 (C:=C) (p:=p) rfl];left;refine⟨p,n,400,y,rfl,rp,hn,ac,yb,?_⟩
 rw[dV5];try dsimp only
 unfold cU3;rw[aO];simp only[aJ];left;rw[bY];unfold cU2;rw[aO];left;refine⟨tbL n<|itT p n y,rfl,(bH8 rp hn yb).1,?_⟩;rw[show i8 4 (tbL n<|itT p n y)=nrm p n y from rfl]
 try dsimp only
 unfold cU1;rw[aO];left;unfold aI5 at h
 by_cases c: ∀j,j<n->y j=0
 .rw[a7 c]at h;rw[a7<|bH7 n2 n4 c];exact⟨ac,h⟩
 rw[a6 c]at h;have hy: ∃j,j<n/\y j≠0:=iI λno=>c λj hj=>iI λz=>no ⟨j,hj,z⟩
 have n0:=aC6 rp hn irr hy;rw[a6 n0];unfold cU0;rw[aO];left;refine⟨ac,?_⟩
 unfold cT9;rw[aO];refine bP n (λi=> .int (0+(i:Int))) _ (λQ' q=> ?_)
  (λi ρ=> ∃v w,ρ=[some<|.pu<|cP C p,some<|.pu<|aJ<|rwF n x,some<|.pu<|aJ<|rwF n y,some<|.pu<|.lst<|(tbL n<|itT p n y).map aJ,some<|.pu<|.int (n:Int),some<|.pu<|.int<|nrm p n y,some<|.ow<|(rwF i<|aC7 n<|itT p n y).map .int,v,w,none]) ⟨none,none,rfl⟩ ?_ ?_
 .left
  refine⟨⟨ad,ad⟩,?_⟩
  rw[bX];exact q
 .rintro i ρ hi' ⟨v,w,rfl⟩;rw[bQ];refine⟨ae,?_⟩
  dsimp only[set_cons_zero,set_cons_succ];have ht:i< (tbL n<|itT p n y).length:=by rw[tE];exact hi'
  rw[aO,j4];refine aQ0 ht (by rw[tE];lia) (λr hr=>by rw[(bH8 rp hn yb).1.row r hr,tE];lia) (λQ' q=> ?_) ?_
  .simp only[fG];left;rw[<-cS,bD5 ht];exact⟨aI (show _<=2000 by rw[aP,tQ ht,tE];lia) ac,q⟩
  left
  rw[d5 _ ac]
  have e1:1-2*((i:Int)%2)=(if i%2=0 then(1:Int)else -1):=by
   split<;>lia
  have sg:Sm (if i%2=0 then(1:Int)else -1):=by split<;>exact aP9 ac ac
  have sq:=dI6 rp hn yb hi';have sd:Sm (i8 4<|((tbL n<|itT p n y).eraseIdx i).map List.tail):=Sm.pow (tK 4 _ ac sq) ac
  have sm:Sm ((i:Int)%2):=aP9 ad ad
  rw[e1,bY];refine⟨ac,.inr ⟨aP9 ac ac,sm⟩,_,rfl,sq,.inr ⟨sg,sd⟩,b9 (show i<100 by lia) ac,?_⟩
  rw[show(if i%2=0 then(1:Int)else -1)*i8 4 (((tbL n<|itT p n y).eraseIdx i).map List.tail)=aC7 n (itT p n y) i from rfl,cT5]
  exact⟨_,_,rfl⟩
 .rintro ρ ⟨v,w,rfl⟩;dsimp only;unfold cT8;rw[aO,j4,cM,bK,aH0 (C:=C) (p:=p) rfl];left;refine⟨p,n,8040,x,cz n<|aC7 n<|itT p n y,by rw[b04];rfl,rp,hn,ac,λj=>aI (xb j) (cR ac ac),d24 rp hn yb,xz,λj hj=>b05 hj,?_⟩
  rw[show rwF n (iF p n x<|cz n<|aC7 n<|itT p n y)=rwF n (ovF p n x y)from dU λj hj=>by
   unfold ovF;rw[aC4,aC4,c26];exact qS λk hk=>by rw[dI2 rp hn irr hy k hk]]
  try dsimp only
  unfold cT7;rw[aO,aU5,c08,cM,bK];refine cC0 (n:=n) (f:=ovF p n x y) ad n0 (aH1 rfl) rfl rfl ?_
  left
  rw[qK];dsimp only;rw[c28]
  by_cases d: ∀j,j<n->nrm p n y∣ovF p n x y j
  .rw[a7 d]at h;rw[hV d];try simp only[u8,nN,dC]
   unfold cT6;rw[gW];show(a8 _ _:UA) _ _;rw[bK];unfold uC;dsimp only;rw[bK,cM,bK];refine cC1 (n:=n) (f:=ovF p n x y) ad n0 (bH8 rp hn yb).2 (aH1 rfl) rfl rfl ?_
   left
   exact⟨ac,h⟩
  .rw[a6 d]at h;rw[eC d];try simp only[a07,cU]
   exact⟨ac,h⟩
theorem pd_str {s:Str}(h:PyData.canLay0 (.str s)=true):pd (.str s)=some (.str s):=by
 simp only[pd];exact a7 h
theorem cN3 {s:Str}{d:D}{P:PyData}{Q:B->Prop}(h:PyData.canLay0 (.str s)=true)(e:pd d=some P)(hp:P.depth<=30)(q:Q (.pu<|.bl<|neg ^^ true)):b71 neg (.lst [.str s,d]) (.lst [.str s,d]) Q:=by
 have e1:pd (.lst [.str s,d])=some (.list [.str s,P]):=by
  show((pd<|.str s).bind λx=>((pd d).bind λy=>some [y]).map (x::·)).map _=_
  rw[pd_str h,e];rfl
 exact⟨_,_,e1,e1,by simp only[PyData.depth,PyData.depthAll];omega,by rw[PySem.SeqAt.eqv_refl _<|aZ0 _ e1];exact q⟩
theorem cN4 {x:Nat->Int}{Q:B->Prop}(q:Q (.pu<|.bl<|neg ^^ true)):b71 neg (.lst<|aI5 p n x y) (.lst<|aI5 p n x y) Q:=by
 have non:pd .non=some .none:=by simp only[pd]
 unfold aI5;split
 .exact cN3 (by simp only[PyData.canLay0];decide +kernel) non ac q
 .split
  .exact cN3 (by simp only[PyData.canLay0];decide +kernel) (cL2 _) (dB4 _) q
  .exact cN3 (by simp only[PyData.canLay0];decide +kernel) non ac q
def a43:Φ:=λds Q=> ∃(C:Addr) (p:List Int) (n:Nat) (x y:Nat->Int),ds=[cP C p,aJ<|rwF n x,aJ<|rwF n y]/\d7 p/\p.length=n+1/\ ¬Red p/\(∀j,(x j).natAbs<=2^400)/\(∀j,(y j).natAbs<=2^400)/\(∀j,n<=j->x j=0)/\(∀j,n<=j->y j=0)/\Q (.pu<|.bl true)
def bI0:US:=(cV<|uOp (b71 false) (aC 3)<|aR cN1<|a8 (aC 0)<|a8 (aC 1)<|a8 (aC 2) aM)
def cC3:US:=(aT (fX (bX5 (dQ<|uOp (iV false) (uIx (aX 3)<|uC<|.int 0)<|uC<|.str "told")<|aY4<|dQ<|aR cM4<|a8 (uIx (aX 3)<|uC<|.int 1)<|a8 (lZ<|aX 1) aM) (cV<|uC<|.bl false) dN) bI0)
def c29:US:=(aT (bG 3<|aR aC8<|a8 (aC 0)<|a8 (aC 1)<|a8 (aC 2) aM) cC3)
theorem dV6 {x:Nat->Int}:(atI (aI5 p n x y) 0=some (.str "told")/\ ∃r:List Int,r.length=n/\atI (aI5 p n x y) 1=some (aJ r))\/ ∃t:Str,t≠"told"/\atI (aI5 p n x y) 0=some (.str t):=by
 unfold aI5;split
 .exact .inr ⟨"nought",ac,d4 (j:=0) rfl⟩
 .split
  .exact .inl ⟨d4 (j:=0) rfl,_,a36 _ _,d4 (j:=1) rfl⟩
  .exact .inr ⟨"held",ac,d4 (j:=0) rfl⟩
theorem dV7: ∀ds Q,a43 ds Q->c29 {nx:=λ_=>Q (.pu .non),rt:=Q} (init ["r","x","y","t"] ds):=by
 rintro ds Q ⟨C,p,n,x,y,rfl,rp,hn,irr,xb,yb,xz,yz,h⟩;have lo:=rp.ok.lo;have hi:=rp.ok.hi;have fin:bI0 {nx:=λ_=>Q (.pu .non),rt:=Q} [some<|.pu<|cP C p,some<|.pu<|aJ<|rwF n x,some<|.pu<|aJ<|rwF n y,some<|.ow<|aI5 p n x y]:=by
  unfold bI0;left;refine⟨C,p,n,x,y,rfl,rp,hn,irr,xb,yb,xz,cN4 ?_⟩;exact h
 unfold c29;show(aT _ _:US) _ [some<|.pu<|cP C p,some<|.pu<|aJ<|rwF n x,some<|.pu<|aJ<|rwF n y,none];rw[aO];left;refine⟨C,p,n,x,y,rfl,rp,hn,irr,xb,yb,yz,?_⟩;try dsimp only
 unfold cC3;rw[aO];simp only[aJ]at fin⊢;left;rcases dV6 (p:=p) (n:=n) (x:=x) (y:=y)with⟨e0,r,hr,e1⟩| ⟨t,ht,e0⟩
 .rw[e0];dsimp only;rw[a7 rfl,e1];dsimp only;refine⟨r,by rw[bY,hr],ad,?_⟩
  exact fin
 .rw[e0];dsimp only;rw[a6 ht];exact fin
theorem bU7 (n:Nat):(replicate n (D.int 0):List D)=(rwF n λ_=>0).map D.int:=by
 unfold rwF;rw[i4];apply gD
 .simp
 .intro i h1 h2;simp
theorem dI7 (h:1<=n):(replicate (n-1) (D.int 0)++[D.int 2]:List D)=(rwF n λj=>if j=n-1 then 2 else 0).map D.int:=by
 obtain⟨m,rfl⟩: ∃m,n=m+1:=⟨n-1,ad⟩
 rw[iK];have:=cT5 m λj=>if j=m then 2 else 0
 rw[a7 rfl]at this;rw[<-this,bU7]
 congr 2
 exact dU λj hj=>(a6 ad).symm
theorem d25 (f:Nat->Int)(c:Int)(h:1<=n):([D.int<|f 0+c]++cutD ((rwF n f).map D.int) (some 1) none:List D)=(rwF n λj=>f j+if j=0 then c else 0).map D.int:=by
 have e:=aA0 ((rwF n f).map D.int) 1 (by rw[bY];exact h)
 rw[show((1:Nat):Int)=1 from rfl]at e
 rw[e];apply gD
 .simp[rwF]
  lia
 .intro i h1 h2
  match i with
  | 0=>simp[rwF]
  | i+1=>simp[rwF]
theorem dI8 {ρ':Ev}(hn:n<=100)(hui: ∀Q':Nat->(Nat->D)->Ev->Prop,Q' n (λk=>((rwF n f).map D.int).getD k .non) ρ'->ui ρ Q')(h:Q (.ow<|((List.range n).map λk=> !decide (f k=0)).map .bl) ρ') :
  dO [] [none,none] 1 ui (bU 0) (λρ Q=>Q true ρ) (uOp (iV true) (aC 0)<|uC<|.int 0) ρ Q:=by
 refine dF (t0:=0) n (λk=>((rwF n f).map D.int).getD k .non) ρ' hui ad (λx l=>[x,some<|.ow l]) none rfl (λ_ _ _=>rfl) (λ_ _=>cB _) (λ_ _ _ q=>q) (λ_ _ _=>rfl) (λk=> .bl (!decide (f k=0))) ?_ ?_
 .intro k l Q' hk q;rw[mZ hk]at q⊢;left;exact q
 .rw[i4]at h;exact h
theorem uv {a:D}(h:ρ[i]? =some (some<|.pu a))(Q:B->Ev->Prop)(q:Q (.pu a) ρ):aC i ρ Q:=by
 rw[aU6 h];exact q
theorem b20 {ta tb:UE}{a b:D}(h: ∀Q:B->Ev->Prop,Q (.pu a) ρ->ta ρ Q)(h2: ∀Q:B->Ev->Prop,Q (.pu b) ρ->tb ρ Q)(q:Q (.pu<|.tup [a,b]) ρ):i5 (a8 ta<|a8 tb aM) ρ Q:=h _ (h2 _ ⟨show 2<=sizeLine by decide,q⟩)
theorem dV8 (n1:2<=n)(n4:n<=4)(h:ρ[i]? =some (some<|.pu<|aJ<|rwF n f))(h2:ρ[k]? =some (some<|.pu<|.int c))(q:Q (.pu<|aJ<|rwF n λj=>f j+if j=0 then c else 0) ρ) :
  uOp fY (i5<|a8 (uOp fY (uIx (aX i)<|uC<|.int 0)<|aC k) aM) (uSl (aX i) (jI<|uC<|.int 1) gU) ρ Q:=by
 have hcl:(cutD ((rwF n f).map D.int) (some 1) none).length<=4:=by
  have e:=aA0 ((rwF n f).map D.int) 1 (by rw[bY];lia)
  rw[show((1:Nat):Int)=1 from rfl]at e
  rw[e,tZ,bY]
  lia
 have hs: ¬(HT.sIx ((rwF n f).map D.int).length 0 (some 1)=0/\HT.sIx ((rwF n f).map D.int).length ((rwF n f).map D.int).length none=((rwF n f).map D.int).length):=by
  rw[bY];have:HT.sIx n 0 (some 1)=min 1 n:=HT.sIx_nat n 0 1;rw[this]
  lia
 have a0:atI ((rwF n f).map D.int) 0=some (.int<|f 0):=jO (i:=0) (show 0<n by lia)
 unfold aJ at h;simp only[uOp,i5,a8,uIx,aX,bQ3,h,uC,gIx,oO,B.d,a0,aC,a85,h2,fY,aM,uSl,jI,gU,gSl,dX,bA9];rw[d25 _ _ ad]
 exact⟨ac,hs,aI (Nat.add_le_add_left hcl 1) ac,q⟩
def Gd (n:Nat)(f:Nat->Int):Prop:=(∀j,(f j).natAbs<=2^400)/\ ∀j,n<=j->f j=0
def cC4:US:=(cV<|uOp (b71 false) (aR aC8<|a8 (aC 1)<|a8 (aC 5)<|a8 (aC 3) aM)<|gT<|a8 (uC<|.str "told")<|a8 (aC 4) aM)
def cC5:US:=(aT (jJ (fG<|gT<|a8 (i5<|a8 (uOp fY (i5<|a8 (uOp fY (uIx (aX 5)<|uC<|.int 0)<|aC 6) aM)<|uSl (aX 5) (jI<|uC<|.int 1) gU)<|a8 (aC 3) aM)<|a8 (i5<|a8 (aC 8)<|a8 (aC 9) aM)<|a8 (i5<|a8 (aC 5)<|a8 (aC 7) aM)<|a8 (i5<|a8 (aC 7)<|a8 (aC 7) aM)<|a8 (i5<|a8 (aC 7)<|a8 (aC 3) aM)<|a8 (i5<|a8 (aC 4)<|a8 (aC 3) aM) aM) (sS<|fJ 11<|fJ 12 sR)<|fX (aY4<|dQ<|aR a43<|a8 (aC 1)<|a8 (aC 11)<|a8 (aC 12) aM) (cV<|uC<|.bl false) dN) cC4)
def bI1:US:=(aT (fX (uOr (aY4<|dQ<|aR a43<|a8 (aC 1)<|a8 (aC 10)<|a8 (aC 8) aM)<|uOr (aY4<|dQ<|aR a43<|a8 (aC 1)<|a8 (aC 8)<|a8 (aC 10) aM)<|aY4<|dQ<|aR a43<|a8 (aC 1)<|a8 (aC 10)<|a8 (aC 10) aM) (cV<|uC<|.bl false) dN) cC5)
def cC6:US:=(aT (bG 10<|aR yP<|a8 (aR rE<|a8 (aC 0)<|a8 (uC<|.int 8) aM)<|a8 (aC 2)<|a8 (uC<|.int 999999757) aM) bI1)
def cC7:US:=(aT (bG 9<|aR c23<|a8 (aR rE<|a8 (aC 0)<|a8 (uC<|.int 7) aM)<|a8 (aC 2)<|a8 (uC<|.int 999999761) aM) cC6)
def cU4:US:=(aT (bG 8<|aR c23<|a8 (aR rE<|a8 (aC 0)<|a8 (uC<|.int 6) aM)<|a8 (aC 2)<|a8 (uC<|.int 999999797) aM) cC7)
def cU5:US:=(aT (bG 7<|aR cA<|a8 (uOp fL (gT<|a8 (uC<|.int 0) aM)<|aC 2) aM) cU4)
def cU6:US:=(aT (bG 6<|uOp M.gSub (uIx (uV<|aR lF<|a8 (aR rE<|a8 (aC 0)<|a8 (uC<|.int 5) aM)<|a8 (gT<|a8 (uC<|.int 7) aM)<|a8 (uC<|.int 999999883) aM)<|uC<|.int 0)<|uC<|.int 3) cU5)
def cU7:US:=(aT (fX (dQ<|uOp (b71 true) (aR aC8<|a8 (aC 1)<|a8 (aC 5)<|a8 (aC 3) aM)<|gT<|a8 (uC<|.str "told")<|a8 (aC 4) aM) (cV<|uC<|.bl false) dN) cU6)
def c30:US:=(aT (bG 5<|aR aC0<|a8 (a97 "poly"<|aC 1)<|a8 (aC 3)<|a8 (aC 4) aM) cU7)
def cU8:US:=(aT (fX (aY4<|dQ<|aR dB1<|a8 (dO [] [none,none] 1 (fG<|aC 3) (bU 0) (λρ Q=>Q true ρ)<|uOp (iV true) (aC 0)<|uC<|.int 0) aM) (bG 3<|aR cA<|a8 (uOp fY (uOp fL (gT<|a8 (uC<|.int 0) aM)<|uOp M.gSub (aC 2)<|uC<|.int 1)<|gT<|a8 (uC<|.int 2) aM) aM) dN) c30)
def cU9:US:=(aT (bG 4<|aR aH2<|a8 (aR yP<|a8 (aR rE<|a8 (aC 0)<|a8 (uC<|.int 4) aM)<|a8 (aC 2)<|a8 (uC<|.int 999999893) aM) aM) cU8)
def c31:US:=(aT (bG 3<|aR aH2<|a8 (aR yP<|a8 (aR rE<|a8 (aC 0)<|a8 (uC<|.int 3) aM)<|a8 (aC 2)<|a8 (uC<|.int 999999929) aM) aM) cU9)
def cV0:US:=(aT (bG 2<|a97 "degree"<|aC 1) c31)
def c32:US:=(aT (bG 1<|aR c20<|a8 (aC 0)<|a8 (uC<|.int 0)<|a8 (uC<|.int 999999937) aM) cV0)
section
variable {ns:List Int}{C:Addr}{p:List Int}{n:Nat}{y z:Nat->Int}{Q:B->Prop}(rp:d7 p)(hn:p.length=n+1)(irr: ¬Red p)(hy: ∃j,j<n/\y j≠0)(yb: ∀j,(y j).natAbs<=2^133)(zb: ∀j,(z j).natAbs<=2^133)(yz: ∀j,n<=j->y j=0)(zz: ∀j,n<=j->z j=0)(h:Q (.pu (.bl true)))
include rp hn irr hy yb zb yz zz h
theorem dI9 {X fe le wi:Nat->Int}(eX:X=cz n (iF p n y z))(gX: ∀j,(X j).natAbs<=2^295)(cb:c.natAbs<=10)(gf:Gd n fe)(gl:Gd n le)(gw:Gd n wi) :
  bI1 {nx:=λ_=>Q (.pu .non),rt:=Q} [some<|.pu<|.rol<|ns.map .int,some<|.pu<|cP C p,some<|.pu<|.int (n:Int),some<|.pu<|aJ<|rwF n y,some<|.pu<|aJ<|rwF n z,some<|.pu<|aJ<|rwF n X,some<|.pu<|.int c,some<|.pu<|aJ<|rwF n λ_=>0,some<|.pu<|aJ<|rwF n fe,some<|.pu<|aJ<|rwF n le,some<|.pu<|aJ<|rwF n wi,none,none]:=by
 have lo:=rp.ok.lo;have hi:=rp.ok.hi;have n4:n<=4:=ad
 have Xz: ∀j,n<=j->X j=0:=λj hj=>by rw[eX];exact b05 hj
 have up: ∀{f:Nat->Int} {e:Nat},e<=400->(∀j,(f j).natAbs<=2^e)-> ∀j,(f j).natAbs<=2^400:=λhe hf j=>aI (hf j) (cR ac he)
 have g0:Gd n λ_=>0:=⟨λ_=>cG _,λ_ _=>rfl⟩
 have gy:Gd n y:=⟨up ac yb,yz⟩
 have gz:Gd n z:=⟨up ac zb,zz⟩
 have gx:Gd n X:=⟨up ac gX,Xz⟩
 have gx':Gd n λj=>X j+if j=0 then c else 0:=by
  refine⟨λj=> ?_,λj hj=> ?_⟩
  .have h1:=gX j;have h2:(if j=0 then c else 0).natAbs<=10:=by split;exact cb;exact cG _
   have h3:=pX (X j) (if j=0 then c else 0);have h4:(2:Nat)^295+10<=2^400:=ac
   lia
  .show X j+(if j=0 then c else 0)=0
   rw[Xz j hj,a6 ad]
   rfl
 have wl: ∀{a b:Nat->Int} {Q':B->Prop},Gd n a->Gd n b->Q' (.pu<|.bl true)->a43 [cP C p,aJ<|rwF n a,aJ<|rwF n b] Q':=λ{a b Q'} ga gb q=>⟨C,p,n,a,b,rfl,rp,hn,irr,ga.1,gb.1,ga.2,gb.2,q⟩
 unfold bI1;rw[aO,aU5,uOr_eq];left;refine wl gw gf ?_;try dsimp only
 try rw[a6 ac]
 refine wl gf gw ?_
 try dsimp only
 try rw[a6 ac]
 refine wl gw gw ?_
 try dsimp only
 try rw[a6 ac]
 unfold cC5;rw[aO];obtain⟨L,eL⟩: ∃L:List ((Nat->Int)×(Nat->Int)),L=[(λj=>X j+if j=0 then c else 0,y),(fe,le),(X,λ_=>0),(λ_=>0,λ_=>0),(λ_=>0,y),(z,y)]:=⟨_,rfl⟩
 have gL: ∀q∈L,Gd n q.1/\Gd n q.2:=by
  intro q hq;rw[eL]at hq;simp only[aZ,eB,eG]at hq;rcases hq with rfl|rfl|rfl|rfl|rfl|rfl
  .exact⟨gx',gy⟩
  .exact⟨gf,gl⟩
  .exact⟨gx,g0⟩
  .exact⟨g0,g0⟩
  .exact⟨g0,gy⟩
  .exact⟨gz,gy⟩
 refine bP L.length (λi=>(L.map λq=>D.tup [aJ<|rwF n q.1,aJ<|rwF n q.2]).getD i .non) _ (λQ' q=> ?_)
  (λi ρ=> ∃a b,ρ=[some<|.pu<|.rol<|ns.map .int,some<|.pu<|cP C p,some<|.pu<|.int (n:Int),some<|.pu<|aJ<|rwF n y,some<|.pu<|aJ<|rwF n z,some<|.pu<|aJ<|rwF n X,some<|.pu<|.int c,some<|.pu<|aJ<|rwF n λ_=>0,some<|.pu<|aJ<|rwF n fe,some<|.pu<|aJ<|rwF n le,some<|.pu<|aJ<|rwF n wi,a,b]) ⟨none,none,rfl⟩ ?_ ?_
 .subst eL;unfold fG gT;rw[bK];refine b20 (λ_=>dV8 ad n4 rfl rfl) (uv rfl) ?_
  rw[bK];refine b20 (uv rfl) (uv rfl) ?_;rw[bK];refine b20 (uv rfl) (uv rfl) ?_;rw[bK];refine b20 (uv rfl) (uv rfl) ?_;rw[bK];refine b20 (uv rfl) (uv rfl) ?_;rw[bK];refine b20 (uv rfl) (uv rfl) ?_;exact⟨show 6<=sizeLine by decide,q⟩
 .rintro i ρ hi' ⟨a,b,rfl⟩;have e3:(L.map λq=>D.tup [aJ<|rwF n q.1,aJ<|rwF n q.2]).getD i .non= .tup [aJ<|rwF n L[i].1,aJ<|rwF n L[i].2]:=by
   rw[aQ,bO,aS hi'];rfl
  rw[e3];obtain⟨g1,g2⟩:=gL L[i] (cY hi');generalize L[i]=q at g1 g2;left;refine⟨ac,ac,trivial,wl g1 g2 ?_⟩
  try dsimp only
  try rw[a6 ac]
  exact⟨_,_,rfl⟩
 .rintro ρ ⟨a,b,rfl⟩;dsimp only;unfold cC4;left;refine⟨C,p,n,X,y,rfl,rp,hn,irr,gx.1,gy.1,yz,ac,?_⟩
  have e:=cB9 rp hn irr hy yz zz;rw[<-eX]at e;show b71 false (.lst<|aI5 p n X y) (.lst [.str "told",aJ<|rwF n z]) _;rw[<-e];exact cN4 h
theorem cV1 (hl:ns.length<=63) :
  c30 {nx:=λ_=>Q (.pu .non),rt:=Q} [some<|.pu<|.rol<|ns.map .int,some<|.pu<|cP C p,some<|.pu<|.int (n:Int),some<|.pu<|aJ<|rwF n y,some<|.pu<|aJ<|rwF n z,none,none,none,none,none,none,none,none]:=by
 have lo:=rp.ok.lo;have hi:=rp.ok.hi;have n4:n<=4:=ad
 unfold c30;rw[aO,j4,cM,bK,aH0 (C:=C) (p:=p) rfl];left;refine⟨p,n,133,y,z,rfl,rp,hn,ac,yb,zb,yz,zz,?_⟩
 try dsimp only
 obtain⟨X,eX⟩: ∃X,X=cz n (iF p n y z):=⟨_,rfl⟩;rw[<-b04 n (iF p n y z),<-eX];have gX: ∀j,(X j).natAbs<=2^295:=λj=>by
  rw[eX];exact aC3 (bG2 n4 rp.ok.small yb zb) j
 unfold cU7;rw[aO];left;refine⟨C,p,n,X,y,rfl,rp,hn,irr,λj=>aI (gX j) (cR ac ac),λj=>aI (yb j) (cR ac ac),yz,ac,?_⟩
 have e:=cB9 rp hn irr hy yz zz;rw[<-eX]at e;show b71 true (.lst<|aI5 p n X y) (.lst [.str "told",aJ<|rwF n z]) _;rw[<-e];refine cN4 ?_;try dsimp only
 try rw[a6 ac]
 unfold cU6;rw[aO];left;refine⟨ns,5,rfl,hl,ac,ac,λc=> ?_⟩
 try dsimp only
 refine⟨ac,c,[7],999999883,rfl,ac,ac,ac,λxs hx=> ?_⟩
 obtain⟨d0,rfl⟩: ∃d0,xs=[d0]:=by
  match xs,hx.1 with
  | [a],_=>exact⟨a,rfl⟩
 have b0:=hx.2 0 d0 7 rfl rfl;try dsimp only
 simp only[cF,jD];rw[show atI [D.int d0] 0=some (.int d0)from d4 (j:=0) rfl]
 try dsimp only
 unfold cU5;rw[aO];left;rw[cS4,bX,bU7];refine⟨ac,⟨ad,ad,aI (show(0+1)*n<=4 by lia) ac⟩,?_⟩
 unfold cU4;rw[aO];left;refine⟨ns,6,rfl,hl,ac,ac,λc=> ?_⟩
 try dsimp only
 refine⟨c,n,999999797,rfl,n4,ac,λrf hf=> ?_⟩
 obtain⟨fe,rfl,f1,f2⟩:=hf;try dsimp only
 unfold cC7;rw[aO];left;refine⟨ns,7,rfl,hl,ac,ac,λc=> ?_⟩
 try dsimp only
 refine⟨c,n,999999761,rfl,n4,ac,λrf hf=> ?_⟩
 obtain⟨le,rfl,l1,l2⟩:=hf;try dsimp only
 unfold cC6;rw[aO];left;refine⟨ns,8,rfl,hl,ac,ac,λc=> ?_⟩
 try dsimp only
 refine⟨c,n,999999757,rfl,n4,ac,λrf hf=> ?_⟩
 obtain⟨wi,rfl,w1,w2⟩:=hf;try dsimp only
 exact dI9 rp hn irr hy yb zb yz zz h eX gX ad ⟨f1,f2⟩ ⟨l1,l2⟩ ⟨w1,w2⟩
end
theorem rd_law: ∀ds Q,bQ7 ds Q->c32 {nx:=λ_=>Q (.pu .non),rt:=Q} (init ["s","r","m","y","z","x","e","o","f","l","w","a","b"] ds):=by
 rintro ds Q ⟨ns,rfl,hl,h⟩;unfold c32;show(aT _ _:US) _ [some<|.pu<|.rol<|ns.map .int,none,none,none,none,none,none,none,none,none,none,none,none];rw[aO];left;refine⟨ns,0,999999937,rfl,hl,ac,ac,λC p rp irr=> ?_⟩
 try dsimp only
 have lo:=rp.ok.lo;have hi:=rp.ok.hi;obtain⟨n,hn⟩: ∃n,p.length=n+1:=⟨p.length-1,ad⟩
 unfold cV0;rw[aO,j4,jV (C:=C) (p:=p) rfl,show(p.length:Int)-1=(n:Int)by lia]
 show c31 _ [some<|.pu<|.rol<|ns.map .int,some<|.pu<|cP C p,some<|.pu<|.int (n:Int),none,none,none,none,none,none,none,none,none,none]
 unfold c31;rw[aO];left;refine⟨ns,3,rfl,hl,ac,ac,λc=> ?_⟩
 try dsimp only
 refine⟨c,n,999999929,rfl,ad,ac,λry hy=>⟨n,ry,rfl,ad,hy,λry hy=> ?_⟩⟩
 obtain⟨y,rfl,yb,yz⟩:=hy;try dsimp only
 unfold cU9;rw[aO];left;refine⟨ns,4,rfl,hl,ac,ac,λc=> ?_⟩
 try dsimp only
 refine⟨c,n,999999893,rfl,ad,ac,λry hy=>⟨n,ry,rfl,ad,hy,λry hy=> ?_⟩⟩
 obtain⟨z,rfl,zb,zz⟩:=hy;try dsimp only
 unfold cU8;rw[aO,aU5,dT4,c08,cM,bK];refine dI8 (n:=n) (f:=y) ad (aH1 rfl) ?_
 left
 rw[qK];dsimp only;rw[c28]
 by_cases c: ∀j,j<n->y j=0
 .rw[hV c];try simp only[u8,a07,nN,dC,cU]
  try left
  rw[cS4,show((n:Int)-1).toNat=n-1 by lia,dI7 ad]
  refine⟨ac,⟨ad,ad,aI (show(0+1)*(n-1)<=4 by lia) ac⟩,ac,?_,?_⟩
  .rw[jZ];exact aI (show n-1+(0+1)<=5 by lia) ac
  .refine cV1 rp hn irr ⟨n-1,ad,by rw[a7 rfl];decide⟩ (λj=> ?_) zb (λj hj=>a6 ad) zz h hl
   show(if j=n-1 then(2:Int)else 0).natAbs<=2^133
   split<;>decide
 .rw[eC c];try simp only[u8,a07,nN,dC,cU]
  try left
  exact cV1 rp hn irr (iI λno=>c λj hj=>iI λz=>no ⟨j,hj,z⟩) yb zb yz zz h hl
abbrev pJ:=sF
abbrev pK:=sG
theorem a79: ∀ds Q,pJ ds Q->pK {nx:=λ_=>Q (.pu .non),rt:=Q} (init ["f","p","u","s","total","v","w"] ds):=b75
theorem d26:bootBuiltins "sorted"=some (.builtin "sorted"):=af
end M
end
namespace M
set_option maxHeartbeats 4000000
def top (i:Nat):Stmt:=PySem.Challenge.pw_ringhouse_k23_over.main.body.getD i (.Pass ⟨0,0,0,0⟩)
def nk:NameKind->Bool
 | .local=>true
 | .cell=>true
 | _=>false
def nm (s:Stmt):List Str:=((aF s).names.filter λx=>nk x.2).map (·.1)
def pm (s:Stmt):List Str:=(nm s).take (jK s).args.length
abbrev aV4:Stmt:=top 11
abbrev cV2:List Str:=nm aV4
abbrev cC8:List Str:=pm aV4
abbrev vB:Stmt:=top 12
abbrev bI2:List Str:=nm vB
abbrev b61:List Str:=pm vB
abbrev kK:Stmt:=top 13
abbrev a70:List Str:=nm kK
abbrev yQ:List Str:=pm kK
abbrev rQ:Stmt:=top 14
abbrev b62:List Str:=nm rQ
abbrev aV5:List Str:=pm rQ
abbrev aH4:Stmt:=top 16
abbrev cV3:List Str:=nm aH4
abbrev jP:List Str:=pm aH4
abbrev oG:Stmt:=top 17
abbrev aC9:List Str:=nm oG
abbrev aV6:List Str:=pm oG
abbrev aH5:Stmt:=top 19
abbrev c33:List Str:=nm aH5
abbrev cC9:List Str:=pm aH5
abbrev yR:Stmt:=top 20
abbrev bI3:List Str:=nm yR
abbrev bU8:List Str:=pm yR
abbrev tL:Stmt:=top 21
abbrev b21:List Str:=nm tL
abbrev bI4:List Str:=pm tL
abbrev yS:Stmt:=top 22
abbrev bU9:List Str:=nm yS
abbrev bI5:List Str:=pm yS
abbrev n8:Stmt:=top 23
abbrev aK3:List Str:=nm n8
abbrev aD0:List Str:=pm n8
abbrev oH:Stmt:=top 24
abbrev aD1:List Str:=nm oH
abbrev aV7:List Str:=pm oH
abbrev oU:Stmt:=top 25
abbrev aV8:List Str:=nm oU
abbrev aK4:List Str:=pm oU
abbrev aD2:Stmt:=top 26
abbrev cD0:List Str:=nm aD2
abbrev bV0:List Str:=pm aD2
abbrev tM:Stmt:=top 27
abbrev b22:List Str:=nm tM
abbrev bI6:List Str:=pm tM
abbrev aV9:Stmt:=top 28
abbrev bA3:List Str:=["ring","x","n","sums","places","k","total"]
abbrev cD1:List Str:=["ring","x"]
abbrev aD3:Stmt:=top 29
abbrev cD2:List Str:=nm aD3
abbrev bV1:List Str:=pm aD3
abbrev oV:Stmt:=top 30
abbrev aW0:List Str:=nm oV
abbrev bV2:List Str:=pm oV
abbrev iG:Stmt:=top 33
abbrev qT:List Str:=nm iG
abbrev wD:List Str:=pm iG
abbrev iQ:Stmt:=top 34
abbrev vC:List Str:=nm iQ
abbrev sV:List Str:=pm iQ
abbrev aD4:Stmt:=top 37
abbrev cD3:List Str:=nm aD4
abbrev bV3:List Str:=pm aD4
abbrev jQ:Stmt:=top 38
abbrev yT:List Str:=nm jQ
abbrev wE:List Str:=pm jQ
abbrev yU:Stmt:=top 40
abbrev bV4:List Str:=nm yU
abbrev bI7:List Str:=pm yU
abbrev oW:Stmt:=top 41
abbrev aW1:List Str:=nm oW
abbrev aK5:List Str:=pm oW
abbrev j6:Stmt:=top 42
abbrev wF:List Str:=nm j6
abbrev vD:List Str:=pm j6
abbrev gP:Stmt:=top 43
abbrev rR:List Str:=nm gP
abbrev pL:List Str:=pm gP
abbrev oX:Stmt:=top 45
abbrev aW2:List Str:=nm oX
abbrev aK6:List Str:=pm oX
abbrev oJ:Stmt:=top 47
abbrev aD5:List Str:=nm oJ
abbrev aW3:List Str:=pm oJ
abbrev kM:Stmt:=top 48
abbrev xL:List Str:=nm kM
abbrev aD6:List Str:=pm kM
abbrev mD:Stmt:=top 50
abbrev a44:List Str:=nm mD
abbrev aK7:List Str:=pm mD
abbrev lK:Stmt:=top 51
abbrev aD7:List Str:=nm lK
abbrev a71:List Str:=pm lK
abbrev qU:Stmt:=top 52
abbrev aR4:List Str:=nm qU
abbrev b63:List Str:=pm qU
abbrev lL:Stmt:=top 53
abbrev aD8:List Str:=nm lL
abbrev a72:List Str:=pm lL
abbrev oY:Stmt:=top 55
abbrev aW4:List Str:=nm oY
abbrev aK8:List Str:=pm oY
abbrev nA:Stmt:=top 56
abbrev aK9:List Str:=nm nA
abbrev aD9:List Str:=pm nA
abbrev gJ:Stmt:=top 57
abbrev o8:List Str:=nm gJ
abbrev sW:List Str:=pm gJ
abbrev gQ:Stmt:=top 58
abbrev rS:List Str:=nm gQ
abbrev pM:List Str:=pm gQ
abbrev kN:Stmt:=top 61
abbrev xM:List Str:=nm kN
abbrev aE0:List Str:=pm kN
noncomputable abbrev mE:Stmt:=top 62
noncomputable abbrev a45:List Str:=nm mE
noncomputable abbrev aL0:List Str:=pm mE
abbrev jR:Stmt:=top 63
abbrev vE:List Str:=nm jR
abbrev a73:List Str:=pm jR
abbrev fT:Stmt:=top 67
abbrev wG:List Str:=nm fT
abbrev vF:List Str:=pm fT
abbrev gR:Stmt:=top 68
abbrev vG:List Str:=nm gR
abbrev a74:List Str:=pm gR
abbrev bI8:Stmt:=top 70
abbrev dJ0:List Str:=nm bI8
abbrev cV4:List Str:=pm bI8
abbrev aW5:Stmt:=top 71
abbrev cV5:List Str:=nm aW5
abbrev cD4:List Str:=pm aW5
abbrev aW6:Stmt:=top 72
abbrev cV6:List Str:=nm aW6
abbrev cD5:List Str:=pm aW6
abbrev yV:Stmt:=top 73
abbrev bV5:List Str:=nm yV
abbrev bI9:List Str:=pm yV
abbrev b23:Stmt:=top 74
abbrev cN5:List Str:=nm b23
abbrev cV7:List Str:=pm b23
abbrev oZ:Stmt:=top 75
abbrev aW7:List Str:=nm oZ
abbrev aL1:List Str:=pm oZ
abbrev bJ0:Stmt:=top 76
abbrev dJ1:List Str:=nm bJ0
abbrev cV8:List Str:=pm bJ0
abbrev aE1:Stmt:=top 77
abbrev cD6:List Str:=nm aE1
abbrev bV6:List Str:=pm aE1
abbrev bV7:Stmt:=top 78
abbrev dJ2:List Str:=nm bV7
abbrev dJ3:List Str:=pm bV7
abbrev aW8:Stmt:=top 79
abbrev cV9:List Str:=nm aW8
abbrev cD7:List Str:=pm aW8
abbrev bJ1:Stmt:=top 80
abbrev dJ4:List Str:=nm bJ1
abbrev qV:List Str:=pm bJ1
abbrev bA4:Stmt:=top 81
abbrev c34:List Str:=["_law_poly_here","_law_x","_law_many","_law_turn","_law_rows","_law_row_here","_law_k"]
abbrev cD8:List Str:=["_law_poly_here","_law_x"]
abbrev aW9:Stmt:=top 82
abbrev cW0:List Str:=nm aW9
abbrev cD9:List Str:=pm aW9
abbrev bV8:Stmt:=top 83
abbrev dJ5:List Str:=nm bV8
abbrev dJ6:List Str:=pm bV8
abbrev yW:Stmt:=top 84
abbrev bJ2:List Str:=nm yW
abbrev bV9:List Str:=pm yW
abbrev aX0:Stmt:=top 85
abbrev cW1:List Str:=nm aX0
abbrev cE0:List Str:=pm aX0
abbrev b64:Stmt:=top 86
abbrev cE1:List Str:=nm b64
abbrev dJ7:List Str:=pm b64
abbrev bJ3:Stmt:=top 87
abbrev dJ8:List Str:=nm bJ3
abbrev cW2:List Str:=pm bJ3
abbrev aL2:Stmt:=top 88
abbrev dJ9:List Str:=nm aL2
abbrev PP_law:List Str:=pm aL2
local macro_rules| `(tactic| walk_at "s")=> `(tactic| exact⟨rfl,rfl,rfl,by decide +kernel,rfl,by decide +kernel,by decide +kernel⟩)
theorem bJ4:aY cV2 cC8 (aF aV4):=by walk_at "s"
theorem cE2:aY bI2 b61 (aF vB):=by walk_at "s"
theorem eH:aY a70 yQ (aF kK):=by walk_at "s"
theorem tF:aY b62 aV5 (aF rQ):=by walk_at "s"
theorem pA:aY cV3 jP (aF aH4):=by walk_at "s"
theorem c35:aY aC9 aV6 (aF oG):=by walk_at "s"
theorem dK0:aY c33 cC9 (aF aH5):=by walk_at "s"
theorem d27:aY bI3 bU8 (aF yR):=by walk_at "s"
theorem aR5:aY b21 bI4 (aF tL):=by walk_at "s"
theorem a46:aY bU9 bI5 (aF yS):=by walk_at "s"
theorem bJ5:aY aK3 aD0 (aF n8):=by walk_at "s"
theorem a47:aY aD1 aV7 (aF oH):=by walk_at "s"
theorem xN:aY aV8 aK4 (aF oU):=by walk_at "s"
theorem d28:aY cD0 bV0 (aF aD2):=by walk_at "s"
theorem bJ6:aY b22 bI6 (aF tM):=by walk_at "s"
theorem yX:aY bA3 cD1 (aF aV9):=by walk_at "s"
theorem tN:aY cD2 bV1 (aF aD3):=by walk_at "s"
theorem b24:aY aW0 bV2 (aF oV):=by walk_at "s"
theorem aX1:aY qT wD (aF iG):=by walk_at "s"
theorem aI6:aY vC sV (aF iQ):=by walk_at "s"
theorem yY:aY cD3 bV3 (aF aD4):=by walk_at "s"
theorem aX2:aY yT wE (aF jQ):=by walk_at "s"
theorem aR6:aY bV4 bI7 (aF yU):=by walk_at "s"
theorem xO:aY aW1 aK5 (aF oW):=by walk_at "s"
theorem o9:aY wF vD (aF j6):=by walk_at "s"
theorem gB:aY rR pL (aF gP):=by walk_at "s"
theorem xP:aY aW2 aK6 (aF oX):=by walk_at "s"
theorem a48:aY aD5 aW3 (aF oJ):=by walk_at "s"
theorem jS:aY xL aD6 (aF kM):=by walk_at "s"
theorem bN5:aY a44 aK7 (aF mD):=by walk_at "s"
theorem kL:aY aD7 a71 (aF lK):=by walk_at "s"
theorem cE3:aY aR4 b63 (aF qU):=by walk_at "s"
theorem nF:aY aD8 a72 (aF lL):=by walk_at "s"
theorem xQ:aY aW4 aK8 (aF oY):=by walk_at "s"
theorem iR:aY aK9 aD9 (aF nA):=by walk_at "s"
theorem sX:aY o8 sW (aF gJ):=by walk_at "s"
theorem eU:aY rS pM (aF gQ):=by walk_at "s"
theorem bJ7:aY xM aE0 (aF kN):=by walk_at "s"
theorem bN6:aY a45 aL0 (aF mE):=by walk_at "s"
theorem iX:aY vE a73 (aF jR):=by walk_at "s"
theorem vH:aY wG vF (aF fT):=by walk_at "s"
theorem nG:aY vG a74 (aF gR):=by walk_at "s"
theorem dV9:aY dJ0 cV4 (aF bI8):=by walk_at "s"
theorem bJ8:aY cV5 cD4 (aF aW5):=by walk_at "s"
theorem yZ:aY cV6 cD5 (aF aW6):=by walk_at "s"
theorem a49:aY bV5 bI9 (aF yV):=by walk_at "s"
theorem aH6:aY cN5 cV7 (aF b23):=by walk_at "s"
theorem xR:aY aW7 aL1 (aF oZ):=by walk_at "s"
theorem aH7:aY dJ1 cV8 (aF bJ0):=by walk_at "s"
theorem gY:aY cD6 bV6 (aF aE1):=by walk_at "s"
theorem cN6:aY dJ2 dJ3 (aF bV7):=by walk_at "s"
theorem rT:aY cV9 cD7 (aF aW8):=by walk_at "s"
theorem aE2:aY dJ4 qV (aF bJ1):=by walk_at "s"
theorem vI:aY c34 cD8 (aF bA4):=by walk_at "s"
theorem dK1:aY cW0 cD9 (aF aW9):=by walk_at "s"
theorem sc_row:aY dJ5 dJ6 (aF bV8):=by walk_at "s"
theorem d29:aY bJ2 bV9 (aF yW):=by walk_at "s"
theorem vJ:aY cW1 cE0 (aF aX0):=by walk_at "s"
theorem aE3:aY cE1 dJ7 (aF b64):=by walk_at "s"
theorem cW3:aY dJ8 cW2 (aF bJ3):=by walk_at "s"
theorem pB:aY dJ9 PP_law (aF aL2):=by walk_at "s"
abbrev pC:Stmt:=(bZ8<|top 3).getD 0 (.Pass ⟨0,0,0,0⟩)
theorem bN7:aY ["self","left","right"] ["self","left","right"] (aF pC):=by walk_at "s"
abbrev vK:Stmt:=(bZ8<|top 5).getD 0 (.Pass ⟨0,0,0,0⟩)
theorem cE4:aY ["self","prime","number"] ["self","prime","number"] (aF vK):=by walk_at "s"
abbrev aE4:Stmt:=(bZ8<|top 66).getD 0 (.Pass ⟨0,0,0,0⟩)
theorem cW4:aY ["self","poly","size"] ["self","poly"] (aF aE4):=by walk_at "s"
structure Zs (mg:Str->Option Value):Prop where
 z0:mg "len"=none
 z1:mg "max"=none
 z2:mg "list"=none
 z3:mg "reversed"=none
 z4:mg "range"=none
 z5:mg "enumerate"=none
 z6:mg "tuple"=none
 z7:mg "zip"=none
 z8:mg "sum"=none
 z9:mg "any"=none
 z10:mg "all"=none
 z11:mg "abs"=none
 z12:mg "min"=none
 z13:mg "sorted"=none
 z14:mg "int"=none
 z15:mg "isinstance"=none
 z16:mg "bool"=none
 z17:mg "ValueError"=none
abbrev DT (P:Program)(w:World)(K:PySem.W.Frag)(mg:Str->Option Value)(base:Heap)(N:List Str)(q:Str)(t:Stmt)(k:Nat)(u:US):Prop:= ∀{f:Addr} {cdv:Value} {A:Around} {outer:List Env} {s:Shared} {H:Hp} {E:XK},gS k (A.deeper<|envOfC q (aF t) s.heap.objs.size f cdv)->pF (sY CX0 P w K mg base N q (aF t) f cdv A outer s H E).nox (dY t) u
section
variable (P:Program)(w:World)(K:PySem.W.Frag)(mg:Str->Option Value)(base:Heap)
abbrev cE5:=Fn P w K mg base "cut" cC8 1 aA3
abbrev b65:=Fn P w K mg base "padded" b61 1 wB
abbrev mF:=Fn P w K mg base "poly_parted" yQ 2 gI
abbrev aX3:=Fn P w K mg base "poly_at" aV5 1 t9
abbrev cE6:=Fn P w K mg base "det" jP 5 (fZ 4)
abbrev c36:=Fn P w K mg base "without" aV6 1 a31
abbrev dK2:=Fn P w K mg base "add" cC9 1 bF5
abbrev d30:=Fn P w K mg base "less" bU8 1 b01
abbrev aR7:=Fn P w K mg base "times" bI4 3 v8
abbrev cN7:=Fn P w K mg base "power" bI5 4 aQ8
abbrev vL:=Fn P w K mg base "number_of" aD0 2 iP
abbrev c37:=Fn P w K mg base "t_times" aV7 1 a39
abbrev xS:=Fn P w K mg base "table_of" aK4 2 n6
abbrev d31:=Fn P w K mg base "norm" bV0 6 b06
abbrev cN8:=Fn P w K mg base "trace" bI6 3 aR0
abbrev dK3:=Fn P w K mg base "own" cD1 5 bG8
abbrev d32:=Fn P w K mg base "mate" bV1 6 b16
abbrev aX4:=Fn P w K mg base "is_ring_poly" wD 1 oQ
abbrev mU:=Fn P w K mg base "need_ring_poly" sV 2 i9
abbrev d33:=Fn P w K mg base "root" bV3 1 aZ8
abbrev wH:=Fn P w K mg base "small_primes" wE 1 kU
abbrev cN9:=Fn P w K mg base "apart" bI7 4 aQ2
abbrev aL3:=Fn P w K mg base "dividers" aK5 1 rF
abbrev aR8:=Fn P w K mg base "line_and_rest" vD 3 nZ
abbrev a80:=Fn P w K mg base "two_by_two_apart" pL 3 kQ
abbrev bN8:=Fn P w K mg base "two_with" aK6 2 wZ
abbrev c38:=Fn P w K mg base "measure" aW3 6 a34
abbrev bJ9:=Fn P w K mg base "root_sums" aD6 1 uQ
abbrev xT:=Fn P w K mg base "mod_poly" aK7 2 jG
abbrev b79:=Fn P w K mg base "mod_parted" a71 4 sD
abbrev cE7:=Fn P w K mg base "scaled" b63 3 w8
abbrev b80:=Fn P w K mg base "inverse_of" a72 1 sB
abbrev bN9:=Fn P w K mg base "split_by" aK8 6 wU
abbrev bK0:=Fn P w K mg base "lines_out" aD9 5 uW
abbrev aI7:=Fn P w K mg base "rootless_parts" sW 2 mO
abbrev a81:=Fn P w K mg base "two_by_two_split" pM 1 pJ
abbrev bK1:=Fn P w K mg base "papers_of" aE0 8 uY
abbrev bO0:=Fn P w K mg base "parts_at" aL0 7 wW
abbrev b81:=Fn P w K mg base "outside_of" a73 3 sH
abbrev cW5:=Fn P w K mg base "_law_cell" cV4 1 rE
abbrev cE8:=Fn P w K mg base "_law_mixed" cD4 1 a99
abbrev aX5:=Fn P w K mg base "_law_draws" cD5 2 lF
abbrev cO0:=Fn P w K mg base "_law_shifted" bI9 1 a41
abbrev dW0:=Fn P w K mg base "_law_poly" cV7 3 c19
abbrev bO1:=Fn P w K mg base "_law_known_ring" aL1 2 xA
abbrev dW1:=Fn P w K mg base "_law_ring" cV8 12 c20
abbrev d34:=Fn P w K mg base "_law_number" bV6 3 yP
abbrev TF_few:=Fn P w K mg base "_law_few" dJ3 3 c23
abbrev bK2:=Fn P w K mg base "_law_times" cD7 1 aC0
abbrev TF_det:=Fn P w K mg base "_law_det" qV 5 (lJ 4)
abbrev dK4:=Fn P w K mg base "_law_table" cD8 2 bG6
abbrev dK5:=Fn P w K mg base "_law_whole" cD9 1 aU2
abbrev TF_row:=Fn P w K mg base "_law_row" dJ6 2 cM4
abbrev d35:=Fn P w K mg base "_law_nearer" bV9 1 aH2
abbrev cE9:=Fn P w K mg base "_law_asked" cE0 8 aC8
abbrev TF_due:=Fn P w K mg base "_law_due" dJ7 6 cN1
abbrev dW2:=Fn P w K mg base "_law_well" cW2 9 a43
end
section
variable {P:Program}{w:World}{K:PySem.W.Frag}{mg:Str->Option Value}{base:Heap}
theorem d36 (Z:Zs mg):DT P w K mg base cV2 "cut" aV4 0 bE0:=λhr=>
 (bH 1 bJ4.nd (fQ (bZ 0) rfl Z.z0)<|bM (bB6 jB (PUW.pt<|a22 (jF c67 (aU 1) aE)<|uI<|jF iU (dP (bZ 0)<|aN bL (aU 1) aE) aE)<|bD<|us_g 1 bJ4.nd aE iu_sub)<|eK<|cZ2 (aU 0) iN<|eW<|aU 1)
theorem c39 (Z:Zs mg):DT P w K mg base bI2 "padded" vB 0 aB5:=λhr=>
 (eK<|aN cK (aU 0)<|aN dR1 (dI<|b7 aA)<|aN bL (aU 1)<|fQ (bZ 0) rfl Z.z0)
theorem aX6 (Z:Zs mg)(a52:cE5 P w K mg base):DT P w K mg base a70 "poly_parted" kK 1 qO:=λhr=>
 (bH 2 eH.nd (aN bL (fQ (bZ 1) rfl Z.z0) aE)<|bH 3 eH.nd (eJ (cu_max rfl) rfl Z.z1 bt_max (b7<|aB (aN bL (fQ (bZ 0) rfl Z.z0)<|aU 2) aA))<|bH 4 eH.nd (bW bY3 rfl Z.z2 c03 (aL 0 aA))<|bH 5 eH.nd (aN bT (cO<|b7 aA)<|aU 3)<|bM (qL 6 eH.nd (dQ5 rfl Z.z3 rfl Z.z4 (aL 3 aA))<|bH 7 eH.nd (dP (bZ 4)<|aN cK (aU 6)<|aU 2)<|bM (a23 5 (pv 5) (aU 7)<|aU 6)<|bD<|aP3 jB rfl (dQ4 (by rfl) Z.z5<|aL 1 aA) (wN rfl (eV 8 (dG eH.nd rfl (Or.inl rfl))<|eV 9 (dG eH.nd rfl (Or.inl rfl)) rD) (dS<|dS mV)) (bD<|dQ3 4 (pv 4) (aN cK (aU 6)<|aU 8) (aN bT (aU 7)<|aU 9) d60))<|eK<|dI<|aB (cI a52 hr<|aB (bW dE rfl Z.z6 d6 (aL 5 aA)) aA)<|aB (cI a52 hr<|aB (bW dE rfl Z.z6 d6 (aL 4 aA)) aA) aA)
theorem bO2 (Z:Zs mg):DT P w K mg base b62 "poly_at" rQ 0 a38:=λhr=>
 (bH 2 tF.nd aE<|bM (qL 3 tF.nd (dR0 rfl Z.z3 (aL 0 aA))<|bD<|vT 2 tF.nd<|aN cK (aN bT (aU 2)<|aU 1)<|aU 3)<|bD<|lX 2<|pv 2)
theorem aH8 (Z:Zs mg){k:Nat}{fZ:Φ}(hk:1<=k)(wI:Fn P w K mg base "det" jP k fZ)(oK:c36 P w K mg base):DT P w K mg base cV3 "det" aH4 k (bD6 fZ):=λhr=>
 (bM (cQ3 (aG0 iU (fQ (mL 0<|pv 0) rfl Z.z0) aE<|aP2 _) (bD<|bX8<|a86 (uG<|a86 (mL 0<|pv 0) aE λ_ _=>rfl) aE λ_ _=>rfl) bX7)<|bM (rX 1 pA.nd rfl (Or.inl rfl) aE (hl:=il (n:=4) rfl ac))<|bM (rX 2 pA.nd rfl (Or.inl rfl) aE (hl:=il (n:=4) rfl ac))<|bM (aP3 jB rfl (cW rfl Z.z4 (aB (fQ (mL 0<|pv 0) rfl Z.z0) aA)) (sZ 3<|dG pA.nd rfl (Or.inl rfl)) (bM (d83 1 pA.nd rfl (Or.inl rfl) (aN bT (aN bT (cJ 2<|pv 2)<|a86 (uG<|a86 (mL 0<|pv 0) (cJ 3<|pv 3) λ_ _=>rfl) aE λ_ _=>rfl)<|vW wI hr (aG _) rfl (aB (vW oK hr hk rfl (aB (cJ 0<|pv 0)<|aB (cJ 3<|pv 3) aA)) aA)) cI0 (hl:=il (n:=4) rfl ac))<|bD<|rX 2 pA.nd rfl (Or.inl rfl) (jN<|cJ 2<|pv 2) (hl:=il (n:=4) rfl ac)))<|bD<|lX 1<|pv 1)
theorem bO3 (Z:Zs mg):DT P w K mg base aC9 "without" oG 0 a32:=λhr=>
 (eK<|bW dE rfl Z.z6 d6 (aB (lD ["row",".acc"] (aF oG).names aC9 (gG<|aN cK (gO (bZ 0) iN<|eW<|aU 1)<|gO (bZ 0) (eW<|aN cK (aU 1) aE) iN) (λ_ _ _ _ _ _=>dR) λ_ _ _ _ _ _=>(gO (bZ 0) (eW aE) iN)) aA))
theorem d37 (Z:Zs mg):DT P w K mg base c33 "add" aH5 0 bF6:=λhr=>
 (eK<|bW dE rfl Z.z6 d6 (aB (uL (js:=[]) (N:=["a","b",".acc"]) (cap:=[none,none,none]) (last:=2) (esc:=(aF aH5).names) (XN:=c33) rfl rfl af ac ac rfl (dA0 (by rfl) Z.z7<|aL 1<|aL 2 aA) (λ_ _ _ _ _ _=>(wN rfl (eV 0 (dG (show Nodup (["a","b",".acc"]:List Str)by decide +kernel) rfl (Or.inl rfl))<|eV 1 (dG (show Nodup (["a","b",".acc"]:List Str)by decide +kernel) rfl (Or.inl rfl)) rD) (dS<|dS mV))) (λ_ _ _ _ _ _=>dR) (λ_ _ _ _ _ _=>(aN cK (aU 0)<|aU 1))) aA))
theorem cO1 (Z:Zs mg):DT P w K mg base bI3 "less" yR 0 b02:=λhr=>
 (eK<|bW dE rfl Z.z6 d6 (aB (uL (js:=[]) (N:=["a","b",".acc"]) (cap:=[none,none,none]) (last:=2) (esc:=(aF yR).names) (XN:=bI3) rfl rfl af ac ac rfl (dA0 (by rfl) Z.z7<|aL 1<|aL 2 aA) (λ_ _ _ _ _ _=>(wN rfl (eV 0 (dG (show Nodup (["a","b",".acc"]:List Str)by decide +kernel) rfl (Or.inl rfl))<|eV 1 (dG (show Nodup (["a","b",".acc"]:List Str)by decide +kernel) rfl (Or.inl rfl)) rD) (dS<|dS mV))) (λ_ _ _ _ _ _=>dR) (λ_ _ _ _ _ _=>(aN bL (aU 0)<|aU 1))) aA))
theorem cF0 (Z:Zs mg)(iB:xS P w K mg base):DT P w K mg base b21 "times" tL 2 aQ5:=λhr=>
 (bH 3 aR5.nd (sA<|aU 0)<|bH 4 aR5.nd (cI iB hr<|aL 0<|aL 1 aA)<|eK<|bW dE rfl Z.z6 d6 (aB (lD ["j","n","y","table",".acc"] (aF tL).names b21 (cW rfl Z.z4 (aL 3 aA)) (λ_ _ _ _ _ _=>dR) λ_ _ _ _ _ _=>(eJ (bY7 rfl) rfl Z.z8 bY8 (aB (lD ["i","y","table","j",".acc"] [(".0",NameKind.local),("j",NameKind.cell),("sum",NameKind.globalImplicit),("range",NameKind.globalImplicit),("n",NameKind.cell),("table",NameKind.cell),("y",NameKind.cell)] ["j","n","y","table",".acc"] (cW rfl Z.z4 (aL 1 aA)) (λ_ _ _ _ _ _=>dR) λ_ _ _ _ _ _=>(aN bT (dP (bZ 1)<|aU 0)<|dP (uG<|dP (bZ 2)<|aU 0)<|aU 3)) aA))) aA))
theorem cF1 (Z:Zs mg)(eY:vL P w K mg base)(mG:aR7 P w K mg base):DT P w K mg base bU9 "power" yS 3 aQ9:=λhr=>
 (bH 3 a46.nd (cI eY hr<|aL 0<|b7 aA)<|bM (qL 4 a46.nd (cW rfl Z.z4 (aL 2 aA))<|bD<|vT 3 a46.nd<|cI mG hr<|aL 0<|aL 3<|aL 1 aA)<|bD<|lX 3<|pv 3)
theorem b82 (Z:Zs mg)(qW:b65 P w K mg base):DT P w K mg base aK3 "number_of" n8 1 v9:=λhr=>
 (eK<|cI qW hr<|lB (dI<|aL 1 aA)<|aB (sA<|aU 0) aA)
theorem bO4 (Z:Zs mg):DT P w K mg base aD1 "t_times" oH 0 a40:=λhr=>
 (bH 2 a47.nd (dP (bZ 1)<|jN aE)<|bH 3 a47.nd (aN cK (dI<|b7 aA)<|gO (bZ 1) iN<|eW<|jN aE)<|eK<|bW dE rfl Z.z6 d6 (aB (lD ["i","moved","last","ring",".acc"] (aF oH).names aD1 (cW rfl Z.z4 (aB (sA<|aU 0) aA)) (λ_ _ _ _ _ _=>dR) λ_ _ _ _ _ _=>(aN bL (dP (bZ 1)<|aU 0)<|aN bT (aU 2)<|dP (uG<|sA<|aU 3)<|aU 0)) aA))
theorem bK3 (Z:Zs mg)(aE8:c37 P w K mg base):DT P w K mg base aV8 "table_of" oU 1 x9:=λhr=>
 (bH 2 xN.nd (cO<|aL 1 aA)<|bM (qL 3 xN.nd (cW rfl Z.z4 (aB (aN bL (sA<|aU 0) aE) aA))<|bD<|jM 2 (pv 2)<|cI aE8 hr<|aL 0<|aB (dP (bZ 2)<|jN aE) aA)<|eK<|bW dE rfl Z.z6 d6 (aL 2 aA))
theorem cO2 (Z:Zs mg)(wI:cE6 P w K mg base)(iB:xS P w K mg base):DT P w K mg base cD0 "norm" aD2 5 b07:=λhr=>
 (eK<|cI wI hr<|aB (cI iB hr<|aL 0<|aL 1 aA) aA)
theorem cF2 (Z:Zs mg)(iB:xS P w K mg base):DT P w K mg base b22 "trace" tM 2 aR1:=λhr=>
 (bH 2 bJ6.nd (cI iB hr<|aL 0<|aL 1 aA)<|eK<|eJ (bY7 rfl) rfl Z.z8 bY8 (aB (lD ["i","table",".acc"] (aF tM).names b22 (cW rfl Z.z4 (aB (sA<|aU 0) aA)) (λ_ _ _ _ _ _=>dR) λ_ _ _ _ _ _=>(dP (uG<|dP (bZ 1)<|aU 0)<|aU 0)) aA))
theorem d38 (Z:Zs mg)(b28:cN8 P w K mg base)(b29:cN7 P w K mg base):DT P w K mg base bA3 "own" aV9 4 bG9:=λhr=>
 (bH 2 yX.nd (sA<|aU 0)<|bH 3 yX.nd (lD ["k","ring","x",".acc"] (aF aV9).names bA3 (cW rfl Z.z4 (aB (aN cK (aU 2) aE) aA)) (λ_ _ _ _ _ _=>dR) λ_ _ _ _ _ _=>(cI b28 hr<|aL 1<|aB (cI b29 hr<|aL 1<|aL 2<|aL 0 aA) aA))<|bH 4 yX.nd (cO<|b7 aA)<|bM (qL 5 yX.nd (aG1 rfl Z.z4 (b7<|aB (aN cK (aU 2) aE) aA))<|bH 6 yX.nd (eJ (bY7 rfl) rfl Z.z8 bY8 (aB (lD ["i","places","sums","k",".acc"] (aF aV9).names bA3 (cW rfl Z.z4 (aL 5 aA)) (λ_ _ _ _ _ _=>dR) λ_ _ _ _ _ _=>(aN bT (dP (bZ 1)<|aU 0)<|dP (bZ 2)<|aN bL (aU 3)<|aU 0)) aA))<|bD<|jM 4 (pv 4)<|aN wO (jN<|aU 6)<|aU 5)<|eK<|bW dE rfl Z.z6 d6 (aB (dR4 (bZ 4)<|jN aE) aA))
theorem cO3 (Z:Zs mg)(c41:dK3 P w K mg base)(eY:vL P w K mg base)(c42:dK2 P w K mg base)(mG:aR7 P w K mg base)(bL0:d30 P w K mg base):DT P w K mg base cD2 "mate" aD3 5 b17:=λhr=>
 (bH 2 tN.nd (sA<|aU 0)<|bH 3 tN.nd (cI c41 hr<|aL 0<|aL 1 aA)<|bH 4 tN.nd (cI eY hr<|aL 0<|b7 aA)<|bM (qL 5 tN.nd (aY8 rfl Z.z4 (aB (aN bL (aU 2) aE)<|b7<|aJ1 (jN aE) aA))<|bD<|vT 4 tN.nd<|cI c42 hr<|aL 0<|aB (cI mG hr<|aL 0<|aL 4<|aL 1 aA)<|aB (cI eY hr<|aL 0<|aB (dP (bZ 3)<|aU 5) aA) aA)<|iO (jF iU (aN fK (aU 2) aE) aE) (eK<|cI bL0 hr<|aL 0<|aB (cI eY hr<|aL 0<|b7 aA)<|aL 4 aA)<|bD<|lX 4<|pv 4)
theorem cF3 (Z:Zs mg){cQ:Addr}(lM:mg "Nought"=some (.ref cQ))(nB:excIn K cQ [.type "ValueError",.type "Exception",.type "BaseException",.type "object"] "ValueError.__new__"=true){cD:Addr}(kO:mg "NotHeld"=some (.ref cD))(mH:excIn K cD [.type "ValueError",.type "Exception",.type "BaseException",.type "object"] "ValueError.__new__"=true)(eY:vL P w K mg base)(bL1:d31 P w K mg base)(mG:aR7 P w K mg base)(bL2:d32 P w K mg base){f:Addr}{cdv:Value}{A:Around}{outer:List Env}{s:Shared}{H:Hp}{E:XK}(hr:gS 6 (A.deeper<|envOfC "over" (aF oV) s.heap.objs.size f cdv)) :
  yJ (sY (CXr P w base) P w K mg base aW0 "over" (aF oV) f cdv A outer s H E) E (dY oV) aR3:=
 (a29 (c83 (aG0 (bZ0 hr.units) (cJ 2<|pv 2) (vW eY hr ac (by rfl)<|aB (cJ 0<|pv 0)<|aB aE aA)<|aP2 _) (a96<|bC9 nI nB (by rfl) lM (by rfl) (aB oN aA) bC6<|by rfl) bC8)<|a29 (vY<|rX 3 b24.nd (by rfl) (Or.inr<|by rfl) (vW bL1 hr ac (by rfl)<|aB (cJ 0<|pv 0)<|aB (cJ 2<|pv 2) aA) (hl:=il (n:=5) (by rfl) ac))<|a29 (vY<|rX 4 b24.nd (by rfl) (Or.inl<|by rfl) (vW mG hr ac (by rfl)<|aB (cJ 0<|pv 0)<|aB (cJ 1<|pv 1)<|aB (vW bL2 hr ac (by rfl)<|aB (cJ 0<|pv 0)<|aB (cJ 2<|pv 2) aA) aA) (hl:=il (n:=5) (by rfl) ac))<|a29 (c83 (uH<|eJ (cJ2<|by rfl) (by rfl) Z.z9 cJ3<|aB (uL (js:=[3]) (N:=["c","size",".acc"]) (cap:=[none,some 3,none]) (last:=2) (esc:=(aF oV).names) (XN:=aW0) (by rfl) (by rfl) af ac ac (by rfl) (gG<|cJ 4<|pv 4) (λ_ _ _ _ _ _=>(sZ 0<|dG (show Nodup (["c","size",".acc"]:List Str)by decide +kernel) (by rfl)<|Or.inl<|by rfl)) (λ_ _ _ _ _ _=>dR) λ_ _ _ _ _ _=>(d77 bQ6 (aN fK (cJ 0<|pv 0)<|cJ 1<|pv 1) aE<|aP2 _)) aA) (a96<|bC9 nI mH (by rfl) kO (by rfl) (aB oN aA) bC6<|by rfl) bC8)<|a96<|vY<|bX8<|bW dE (by rfl) Z.z6 d6<|aB (uL (js:=[3]) (N:=["c","size",".acc"]) (cap:=[none,some 3,none]) (last:=2) (esc:=(aF oV).names) (XN:=aW0) (by rfl) (by rfl) af ac ac (by rfl) (gG<|cJ 4<|pv 4) (λ_ _ _ _ _ _=>(sZ 0<|dG (show Nodup (["c","size",".acc"]:List Str)by decide +kernel) (by rfl)<|Or.inl<|by rfl)) (λ_ _ _ _ _ _=>dR) λ_ _ _ _ _ _=>(aN wO (cJ 0<|pv 0)<|cJ 1<|pv 1)) aA)
theorem aR9 (Z:Zs mg){qX:Tok}(gK:mg "GREATEST_PLACE"=some (.int 499 qX)):DT P w K mg base qT "is_ring_poly" iG 0 oR:=λhr=>
 (iO (PUW.pt<|bB4 (jF c66 (fQ (bZ 0) rfl Z.z0) aE)<|bB4 (jF c67 (fQ (bZ 0) rfl Z.z0) aE)<|bX6<|jF bQ6 (dP (bZ 0)<|jN aE) aE) (eK bQ2)<|eK<|eJ (cI7 rfl) rfl Z.z10 cI8 (aB (lD ["c",".acc"] (aF iG).names qT (gG<|aU 0) (λ_ _ _ _ _ _=>dR) λ_ _ _ _ _ _=>(cJ8 dY7 (eJ bY1 rfl Z.z11 c02 (aL 0 aA))<|cQ7 rfl gK)) aA))
theorem aE5 (Z:Zs mg)(qY:aX4 P w K mg base):DT P w K mg base vC "need_ring_poly" iQ 1 mM:=λhr=>
 (bD<|bM3 (rC<|uH<|cI qY hr<|aL 0 aA)<|bD c63)
theorem cO4 (Z:Zs mg):DT P w K mg base cD3 "root" aD4 0 aZ9:=λhr=>
 (bH 1 yY.nd (aU 0)<|bH 2 yY.nd (aN wO (aN cK (aU 0) aE) aE)<|bM (bB6 jB (jF c66 (aU 2)<|aU 1)<|bH 1 yY.nd (aU 2)<|bD<|vT 2 yY.nd<|aN wO (aN cK (aU 1)<|aN wO (aU 0)<|aU 1) aE)<|bD<|lX 1<|pv 1)
theorem aS0 (Z:Zs mg){jT:Addr}(iS:mg "SMALL_PRIMES"=some (.ref jT))(vM:KT K jT (T_SMALL_PRIMES.map V.int)):DT P w K mg base yT "small_primes" jQ 0 oS:=λhr=>
 (eK<|bW bY3 rfl Z.z2 c03 (aB (dR2 rfl iS vM) aA))
theorem cF4 (Z:Zs mg)(dM:mU P w K mg base)(pE:aR8 P w K mg base)(lN:a80 P w K mg base):DT P w K mg base bV4 "apart" yU 3 aQ3:=λhr=>
 (bM (bY9<|cI dM hr<|aL 0 aA)<|bH 1 aR6.nd (cI pE hr<|aL 0 aA)<|iO (PUW.pt<|a22 (bZ2<|aU 1)<|uI<|jF iU (fQ (bZ 0) rfl Z.z0) aE) (bD<|vT 1 aR6.nd<|cI lN hr<|aL 0 aA)<|bD<|lX 1<|pv 1)
theorem bK4 (Z:Zs mg):DT P w K mg base aW1 "dividers" oW 0 wY:=λhr=>
 (iO (jF iU (aU 0) aE) (eK<|cO<|b7 aA)<|bH 1 xO.nd (cO aA)<|bM (qL 2 xO.nd (aG1 rfl Z.z4 (b7<|aB (aN cK (eJ bY1 rfl Z.z11 c02 (aL 0 aA)) aE) aA))<|bD<|bM3 (jF iU (aN fK (aU 0)<|aU 2) aE)<|bM (jM 1 (pv 1)<|aU 2)<|bD<|jM 1 (pv 1)<|jN<|aU 2)<|bD<|lX 1<|pv 1)
theorem aI8 (Z:Zs mg)(mI:aL3 P w K mg base)(oM:aX3 P w K mg base)(d8:mF P w K mg base):DT P w K mg base wF "line_and_rest" j6 2 o7:=λhr=>
 (bM (qL 1 o9.nd (gG<|cI mI hr<|aB (dP (bZ 0) aE) aA)<|bD<|bM3 (jF iU (cI oM hr<|aL 0<|aL 1 aA) aE)<|bH 2 o9.nd (dI<|aJ1 (jN<|aU 1)<|b7 aA)<|eK<|dI<|aL 2<|aB (dP (uG<|cI d8 hr<|aL 0<|aL 2 aA) aE) aA)<|eK a84)
theorem a50 (Z:Zs mg)(mI:aL3 P w K mg base)(a53:bN8 P w K mg base):DT P w K mg base rR "two_by_two" gP 2 kR:=λhr=>
 (bM (qL 1 gB.nd (gG<|cI mI hr<|aB (dP (bZ 0) aE) aA)<|bH 2 gB.nd (aN wO (dP (bZ 0) aE)<|aU 1)<|bD<|qL 3 gB.nd (gG<|cI a53 hr<|aB (dP (bZ 0) aE)<|aB (aN bL (aN bL (dP (bZ 0) aE)<|aU 1)<|aU 2) aA)<|bH 4 gB.nd (aN bL (dP (bZ 0) aE)<|aU 3)<|bD<|bM3 (jF iU (aN cK (aN bT (aU 3)<|aU 2)<|aN bT (aU 1)<|aU 4)<|dP (bZ 0) aE)<|eK<|dI<|lB (dI<|aL 1<|aL 3<|b7 aA)<|lB (dI<|aL 2<|aL 4<|b7 aA) aA)<|eK a84)
theorem bK5 (Z:Zs mg)(bL3:d33 P w K mg base):DT P w K mg base aW2 "two_with" oX 1 x8:=λhr=>
 (bH 2 xP.nd (aN bL (aN bT (aU 0)<|aU 0)<|aN bT aE<|aU 1)<|iO (jF c66 (aU 2) aE) (eK<|cO aA)<|bH 3 xP.nd (cI bL3 hr<|aL 2 aA)<|iO (jF bQ6 (aN bT (aU 3)<|aU 3)<|aU 2) (eK<|cO aA)<|eK<|cO<|aB (aN wO (aN cK (aU 0)<|aU 3) aE)<|aB (aN wO (aN bL (aU 0)<|aU 3) aE) aA)
theorem bO5 (Z:Zs mg)(dM:mU P w K mg base)(xU:bJ9 P w K mg base)(wI:cE6 P w K mg base):DT P w K mg base aD5 "measure" oJ 5 a35:=λhr=>
 (bM (bY9<|cI dM hr<|aL 0 aA)<|bH 1 a48.nd (aN bL (fQ (bZ 0) rfl Z.z0) aE)<|bH 2 a48.nd (cI xU hr<|aL 0<|aB (aN bL (aN bT aE<|aU 1) aE) aA)<|eK<|cI wI hr<|aB (bW dE rfl Z.z6 d6 (aB (lD ["i","sums","n",".acc"] (aF oJ).names aD5 (cW rfl Z.z4 (aL 1 aA)) (λ_ _ _ _ _ _=>dR) λ_ _ _ _ _ _=>(bW dE rfl Z.z6 d6 (aB (gO (bZ 1) (eW<|aU 0)<|eW<|aN cK (aU 0)<|aU 2) aA))) aA)) aA)
theorem b83 (Z:Zs mg):DT P w K mg base xL "root_sums" kM 0 uS:=λhr=>
 (bH 2 jS.nd (aN bL (fQ (bZ 0) rfl Z.z0) aE)<|bH 3 jS.nd (cO<|aL 2 aA)<|bM (qL 4 jS.nd (aG1 rfl Z.z4 (b7<|aL 1 aA))<|bH 5 jS.nd (eJ (bY7 rfl) rfl Z.z8 bY8 (aB (lD ["i","poly","n","sums","k",".acc"] (aF kM).names xL (aG1 rfl Z.z4 (b7<|aB (aN cK (eJ (cu_min rfl) rfl Z.z12 bt_min (aB (aN bL (aU 4) aE)<|aL 2 aA)) aE) aA)) (λ_ _ _ _ _ _=>dR) λ_ _ _ _ _ _=>(aN bT (dP (bZ 1)<|aN bL (aU 2)<|aU 0)<|dP (bZ 3)<|aN bL (aU 4)<|aU 0)) aA))<|iO (jF dY7 (aU 4)<|aU 2) (bD<|us_g 5 jS.nd (aN bT (aU 4)<|dP (bZ 0)<|aN bL (aU 2)<|aU 4) cI0)<|bD<|jM 3 (pv 3)<|jN<|aU 5)<|bD<|lX 3<|pv 3)
theorem bK6 (Z:Zs mg)(a52:cE5 P w K mg base):DT P w K mg base a44 "mod_poly" mD 1 wT:=λhr=>
 (eK<|cI a52 hr<|aB (bW dE rfl Z.z6 d6 (aB (lD ["c","p",".acc"] (aF mD).names a44 (gG<|aU 0) (λ_ _ _ _ _ _=>dR) λ_ _ _ _ _ _=>(aN fK (aU 0)<|aU 1)) aA)) aA)
theorem b25 (Z:Zs mg)(fU:xT P w K mg base)(vN:b80 P w K mg base)(d8:mF P w K mg base)(a54:cE7 P w K mg base):DT P w K mg base aD7 "mod_parted" lK 3 sE:=λhr=>
 (bH 3 kL.nd (cI fU hr<|aL 1<|aL 2 aA)<|bH 4 kL.nd (cI vN hr<|aB (dP (bZ 3)<|jN aE)<|aL 2 aA)<|bM (cH9 (cI d8 hr<|aB (cI fU hr<|aL 0<|aL 2 aA)<|aB (cI a54 hr<|aL 3<|aL 4<|aL 2 aA) aA)<|wN rfl (eV 5 (dG kL.nd rfl (Or.inl rfl))<|eV 6 (dG kL.nd rfl (Or.inl rfl)) rD) (dS<|dS mV))<|eK<|dI<|aB (cI a54 hr<|aL 5<|aL 4<|aL 2 aA)<|aB (cI fU hr<|aL 6<|aL 2 aA) aA)
theorem c40 (Z:Zs mg)(fU:xT P w K mg base):DT P w K mg base aR4 "scaled" qU 2 aA4:=λhr=>
 (eK<|cI fU hr<|aB (bW dE rfl Z.z6 d6 (aB (lD ["c","k",".acc"] (aF qU).names aR4 (gG<|aU 0) (λ_ _ _ _ _ _=>dR) λ_ _ _ _ _ _=>(aN bT (aU 1)<|aU 0)) aA))<|aL 2 aA)
theorem b26 (Z:Zs mg):DT P w K mg base aD8 "inverse_of" lL 0 sC:=λhr=>
 (bH 2 nF.nd aE<|bM (qL 3 nF.nd (cW rfl Z.z4 (aB (aN bL (aU 1) aE) aA))<|bD<|vT 2 nF.nd<|aN fK (aN bT (aU 2)<|aU 0)<|aU 1)<|bD<|lX 2<|pv 2)
theorem bK7 (Z:Zs mg)(iH:wH P w K mg base)(xV:bK0 P w K mg base)(fU:xT P w K mg base)(oA:aI7 P w K mg base):DT P w K mg base aW4 "split_by" oY 5 wV:=λhr=>
 (iO (aG0 d91 (aU 1) (d88 iH hr ac rfl) rfl) (bD c63)<|bM (cH9 (cI xV hr<|aB (cI fU hr<|aL 0<|aL 1 aA)<|aL 1 aA)<|wN rfl (eV 2 (dG xQ.nd rfl (Or.inl rfl))<|eV 3 (dG xQ.nd rfl (Or.inl rfl)) rD) (dS<|dS mV))<|eK<|aN cK (aU 2)<|cI oA hr<|aL 3<|aL 1 aA)
theorem b84 (Z:Zs mg)(oM:aX3 P w K mg base)(vO:b79 P w K mg base):DT P w K mg base aK9 "lines_out" nA 4 uX:=λhr=>
 (bH 2 iR.nd (cO aA)<|bH 3 iR.nd (aU 0)<|bM (qL 4 iR.nd (cW rfl Z.z4 (aL 1 aA))<|bH 5 iR.nd aE<|bM (bB6 jB (jF iU (aN fK (cI oM hr<|aL 3<|aJ1 (jN<|aU 4) aA)<|aU 1) aE)<|bH 3 iR.nd (dP (uG<|cI vO hr<|aL 3<|lB (dI<|aL 4<|b7 aA)<|aL 1 aA) aE)<|bD<|us_g 5 iR.nd aE cI0)<|bD<|bM3 (jF c67 (aU 5) aE)<|bD<|jM 2 (pv 2)<|dI<|lB (dI<|aL 4<|b7 aA)<|aL 5 aA)<|eK<|dI<|aL 2<|aL 3 aA)
theorem aE6 (Z:Zs mg)(lP:a81 P w K mg base):DT P w K mg base o8 "rootless_parts" gJ 1 mQ:=λhr=>
 (iO (jF iU (fQ (bZ 0) rfl Z.z0) aE) (eK<|cO aA)<|bH 2 sX.nd (aS8 (jF iU (fQ (bZ 0) rfl Z.z0) aE) (cI lP hr<|aL 0<|aL 1 aA)<|cO aA)<|iO (jF iU (fQ (bZ 2) rfl Z.z0) aE) (eK<|cO<|lB (dI<|aL 0<|b7 aA) aA)<|iO (jF (bZ0 hr.units) (dP (bZ 2) aE)<|dP (bZ 2) aE) (eK<|cO<|lB (dI<|aB (dP (bZ 2) aE)<|b7 aA) aA)<|eK<|lD ["g",".acc"] (aF gJ).names o8 (gG<|eJ dB3 rfl Z.z13 d26 (aL 2 aA)) (λ_ _ _ _ _ _=>dR) λ_ _ _ _ _ _=>(dI<|aL 0<|b7 aA))
theorem a51 (Z:Zs mg):DT P w K mg base rS "two_by_two" gQ 0 pK:=λhr=>
 (bM (qL 2 eU.nd (cW rfl Z.z4 (aL 1 aA))<|bH 3 eU.nd (aN fK (aN bL (dP (bZ 0) aE)<|aU 2)<|aU 1)<|bH 4 eU.nd (aN bL (dP (bZ 0) aE)<|aN bT (aU 2)<|aU 3)<|bD<|qL 5 eU.nd (cW rfl Z.z4 (aL 1 aA))<|bH 6 eU.nd (aN fK (aN bL (aU 4)<|aU 5)<|aU 1)<|bD<|bM3 (PUW.pt<|a22 (jF iU (aN fK (aN bT (aU 5)<|aU 6)<|aU 1)<|dP (bZ 0) aE)<|uI<|jF iU (aN fK (aN cK (aN bT (aU 2)<|aU 6)<|aN bT (aU 5)<|aU 3)<|aU 1)<|dP (bZ 0) aE)<|eK<|cO<|lB (dI<|aL 5<|aL 2<|b7 aA)<|lB (dI<|aL 6<|aL 3<|b7 aA) aA)<|eK<|cO aA)
theorem b85 (Z:Zs mg)(iH:wH P w K mg base)(a55:bO0 P w K mg base):DT P w K mg base xM "papers_of" kN 7 uZ:=λhr=>
 (eK<|lD ["p","poly","size",".acc"] (aF kN).names xM (gG<|d88 iH hr ac rfl) (λ_ _ _ _ _ _=>(dP8<|jF iU (aN fK (aU 2)<|aN bT (aU 0)<|aU 0) aE)) λ_ _ _ _ _ _=>(dI<|aL 0<|aB (cI a55 hr<|aL 1<|aL 0 aA) aA))
theorem bK8 (Z:Zs mg)(a56:bN9 P w K mg base)(d8:mF P w K mg base):DT P w K mg base a45 "parts_at" mE 6 wX:=λhr=>
 (eK<|uL (js:=[0]) (N:=["g","often","poly",".acc"]) (cap:=[none,none,some 0,none]) (last:=3) (esc:=(aF mE).names) (XN:=a45) rfl rfl af ac ac rfl (gG<|cI a56 hr<|aL 0<|aL 1 aA) (λ_ _ _ _ _ _=>(wN rfl (eV 0 (dG (show Nodup (["g","often","poly",".acc"]:List Str)by decide +kernel) rfl (Or.inl rfl))<|eV 1 (dG (show Nodup (["g","often","poly",".acc"]:List Str)by decide +kernel) rfl (Or.inl rfl)) rD) (dS<|dS mV))) (λ_ _ _ _ _ _=>dR) (λ_ _ _ _ _ _=>(dI<|aL 0<|aL 1<|aB (dP (uG<|cI d8 hr<|aL 2<|aL 0 aA) aE) aA)))
theorem b27 (Z:Zs mg)(d8:mF P w K mg base):DT P w K mg base vE "outside_of" jR 2 sI:=λhr=>
 (bM (aP3 jB rfl (gG<|aU 1) (wN rfl (eV 2 (dG iX.nd rfl (Or.inr rfl))<|eV 3 (dG iX.nd rfl (Or.inl rfl)) rD) (dS<|dS mV)) (bD<|aP3 jB rfl (gG<|aU 3) (wN rfl (eV 4 (dG iX.nd rfl (Or.inl rfl))<|eV 5 (dG iX.nd rfl (Or.inl rfl))<|eV 6 (dG iX.nd rfl (Or.inl rfl)) rD) (dS<|dS<|dS mV)) (bD<|bM3 (PUW.pt<|a22 (jF dY8 (aU 5) aE)<|uI<|uH<|eJ (cI7 rfl) rfl Z.z10 cI8 (aB (lD ["c","p",".acc"] (aF jR).names vE (gG<|aU 6) (λ_ _ _ _ _ _=>dR) λ_ _ _ _ _ _=>(cJ8 iU (aN fK (aU 0)<|aN bT (aU 1)<|aU 1) aE)) aA))<|eK<|dI<|aL 2<|aB (dP (uG<|cI d8 hr<|aL 0<|aL 4 aA) aE) aA)))<|eK a84)
theorem aE7 (Z:Zs mg){cX:Addr}(fV:mg "FallsApart"=some (.ref cX)){iC:Addr}{bO6:FuncData}(mJ:a66 K cX iC [.type "ValueError",.type "Exception",.type "BaseException",.type "object"] "ValueError.__new__"=true)(a57:c82 K cX iC bO6 "left" "right")(b30:cN9 P w K mg base){f:Addr}{cdv:Value}{A:Around}{outer:List Env}{s:Shared}{H:Hp}{E:XK}(hr:gS 4 (A.deeper<|envOfC "need_together" (aF fT) s.heap.objs.size f cdv)) :
  yJ (sY (CXr P w base) P w K mg base wG "need_together" (aF fT) f cdv A outer s H E) E (dY fT) mS:=
 (a29 (vY<|rX 1 vH.nd rfl (Or.inl rfl) (vW b30 hr ac rfl (aB (cJ 0<|pv 0) aA)) (hl:=il (n:=2) rfl ac))<|a96<|c83 (c76<|cJ 1<|pv 1) (a96<|bS0 (k:=0) nI mJ a57 (hr.mono ac) rfl fV rfl (aB (a86 (mL 1<|pv 1) aE λ_ _=>rfl)<|aB (a86 (mL 1<|pv 1) aE λ_ _=>rfl) aA) bC6 rfl ac) bC8)
theorem aX7 (Z:Zs mg){i6:Addr}(lQ:mg "NotWhole"=some (.ref i6)){jW:Addr}{cF6:FuncData}(qZ:a66 K i6 jW [.type "ValueError",.type "Exception",.type "BaseException",.type "object"] "ValueError.__new__"=true)(aS1:c82 K i6 jW cF6 "prime" "number")(vP:b81 P w K mg base)(xW:bK1 P w K mg base)(qW:b65 P w K mg base){f:Addr}{cdv:Value}{A:Around}{outer:List Env}{s:Shared}{H:Hp}{E:XK}(hr:gS 8 (A.deeper<|envOfC "need_whole" (aF gR) s.heap.objs.size f cdv)) :
  yJ (sY (CXr P w base) P w K mg base vG "need_whole" (aF gR) f cdv A outer s H E) E (dY gR) qQ:=
 (a29 (vY<|rX 2 nG.nd rfl (Or.inl rfl) (vW vP hr ac rfl (aB (cJ 0<|pv 0)<|aB (vW xW hr ac rfl (aB (cJ 0<|pv 0)<|aB (cJ 1<|pv 1) aA)) aA)) (hl:=il (n:=5) rfl ac))<|a96<|c83 (c76<|cJ 2<|pv 2) (a29 (vY<|cH9 (cJ 2<|pv 2)<|wN rfl (eV 3 (dG nG.nd rfl (Or.inr rfl))<|eV 4 (dG nG.nd rfl (Or.inl rfl)) rD) (dS<|dS mV))<|a96<|bS0 (k:=0) nI qZ aS1 (hr.mono ac) rfl lQ rfl (aB (cJ 3<|pv 3)<|aB (vW qW hr ac rfl (aB (bW dE rfl Z.z6 d6 (aB (uL (js:=[3]) (N:=["c","p",".acc"]) (cap:=[none,some 3,none]) (last:=2) (esc:=(aF gR).names) (XN:=vG) rfl rfl af ac ac rfl (gG<|cJ 4<|pv 4) (λ_ _ _ _ _ _=>(sZ 0<|dG (show Nodup (["c","p",".acc"]:List Str)by decide +kernel) rfl (Or.inl rfl))) (λ_ _ _ _ _ _=>dR) (λ_ _ _ _ _ _=>(aN fK (cJ 0<|pv 0)<|cJ 1<|pv 1))) aA))<|aB (aN bL (fQ (mL 0<|pv 0) rfl Z.z0) aE) aA)) aA) bC6 rfl ac) bC8)
theorem dK6 (Z:Zs mg):DT P w K mg base dJ0 "_law_cell" bI8 0 c01:=λhr=>
 (iO (jF iU (fQ (bZ 0) rfl Z.z0) aE) (eK<|aN bT aE<|aN cK (aU 1) aE)<|iO (jF c66 (aU 1)<|fQ (bZ 0) rfl Z.z0) (eK<|dP (bZ 0)<|aU 1)<|eK<|aN cK (dP (bZ 0)<|aN fK (aU 1)<|fQ (bZ 0) rfl Z.z0)<|aN bT aE<|aU 1)
theorem d39 (Z:Zs mg):DT P w K mg base cV5 "_law_mixed" aW5 0 bD1:=λhr=>
 (bH 3 bJ8.nd (aN fK (aN bT (aN cK (aN cK (aN cK (aU 0)<|aN bT (aN bT aE<|aU 1)<|aU 1)<|aN bT aE<|aU 1) aE) aE) aE)<|bH 3 bJ8.nd (aN fK (aN bT (aU 3)<|aU 3) aE)<|eK<|aN fK (aN bT (aU 3) aE)<|aU 2)
theorem d40 (Z:Zs mg)(aH9:cE8 P w K mg base):DT P w K mg base cV6 "_law_draws" aW6 1 bD2:=λhr=>
 (bH 3 yZ.nd aE<|iO (jF dY8 (aU 0)<|aN rY aE aE) (bD<|vT 3 yZ.nd<|aN bL (aU 0)<|aN rY aE aE)<|bH 4 yZ.nd (cO aA)<|bM (qL 5 yZ.nd (cW rfl Z.z4 (aB (fQ (bZ 1) rfl Z.z0) aA))<|bD<|cQ3 (jF c67 (aU 3) aE) (bM (jM 4 (pv 4)<|aN fK (aU 3)<|dP (bZ 1)<|aU 5)<|bD<|vT 3 yZ.nd<|aN wO (aU 3)<|dP (bZ 1)<|aU 5)<|bD<|jM 4 (pv 4)<|aN fK (cI aH9 hr<|aL 0<|aL 5<|aL 2 aA)<|dP (bZ 1)<|aU 5)<|bD<|lX 4<|pv 4)
theorem cF5 (Z:Zs mg):DT P w K mg base bV5 "_law_shifted" yV 0 aQ6:=λhr=>
 (bH 2 a49.nd (bW bY3 rfl Z.z2 c03 (aL 0 aA))<|bM (qL 3 a49.nd (cW rfl Z.z4 (aB (aN bL (fQ (bZ 2) rfl Z.z0) aE) aA))<|bD<|qL 4 a49.nd (aY8 rfl Z.z4 (aB (aN bL (fQ (bZ 2) rfl Z.z0) aE)<|aB (aN bL (aU 3) aE)<|aJ1 (jN aE) aA))<|bD<|a23 2 (pv 2) (aN cK (dP (bZ 2)<|aU 4)<|aN bT (aU 1)<|dP (bZ 2)<|aN cK (aU 4) aE)<|aU 4)<|eK<|bW dE rfl Z.z6 d6 (aL 2 aA))
theorem dK7 (Z:Zs mg)(j7:aX5 P w K mg base)(aI0:cO0 P w K mg base):DT P w K mg base cN5 "_law_poly" b23 2 c22:=λhr=>
 (bH 2 aH6.nd (cI j7 hr<|aL 0<|aB (cO<|b7<|b7 aA)<|aL 1 aA)<|bH 3 aH6.nd (gO (uG<|cI j7 hr<|aL 0<|aB (cO<|b7<|b7<|b7<|b7<|b7<|b7 aA)<|aL 1 aA) (eW aE)<|eW<|aN cK (dP (bZ 2) aE) aE)<|iO (jF iU (dP (bZ 2) aE) aE) (eK<|bW dE rfl Z.z6 d6 (aB (aN cK (lD ["_law_place",".acc"] (aF b23).names cN5 (gG<|aU 3) (λ_ _ _ _ _ _=>dR) λ_ _ _ _ _ _=>(aN bL (aU 0) aE))<|cO<|b7 aA) aA))<|bH 4 aH6.nd (cI j7 hr<|aL 0<|aB (cO<|b7<|b7<|b7<|b7<|b7<|b7<|b7 aA)<|aL 1 aA)<|iO (jF iU (dP (bZ 2) aE) aE) (bH 4 aH6.nd (cI j7 hr<|aL 0<|aB (cO<|b7<|b7<|b7<|b7 aA)<|aL 1 aA)<|eK<|dI<|aB (aN bL (dP (bZ 4) aE) aE)<|aB (aN bL (dP (bZ 4) aE) aE)<|b7 aA)<|iO (jF iU (dP (bZ 2) aE) aE) (eK<|cI aI0 hr<|lB (dI<|aB (aN bL (dP (bZ 4) aE) aE)<|aB (aN bL (dP (bZ 4) aE) aE)<|aB (aN bL (dP (bZ 4) aE) aE)<|b7 aA)<|aB (aN bL (dP (bZ 4) aE) aE) aA)<|bH 4 aH6.nd (cI j7 hr<|aL 0<|aB (cO<|b7<|b7<|b7<|b7<|b7<|b7<|b7 aA)<|aL 1 aA)<|eK<|cI aI0 hr<|lB (dI<|aB (aN bL (dP (bZ 4) aE) aE)<|aB (aN bL (dP (bZ 4) aE) aE)<|aB (aN bL (dP (bZ 4) aE) aE)<|aB (aN bL (dP (bZ 4) aE) aE)<|b7 aA)<|aB (aN bL (dP (bZ 4) aE) aE) aA)
theorem bK9 (Z:Zs mg)(aH9:cE8 P w K mg base):DT P w K mg base aW7 "_law_known_ring" oZ 1 xB:=λhr=>
 (by refine WS.out ?_;exact ws_lw (cJ7 (a76<|a76<|a76 a93)<|cJ7 (cZ6<|a76<|a76 a93)<|cJ7 (a76<|a76<|a76 a93)<|cJ7 (cZ6<|a76<|a76 a93)<|cJ7 (cZ6<|cZ6<|a76<|a76 a93)<|cJ7 (cZ6<|a76<|a76<|a76 a93)<|cJ7 (cZ6<|a76<|a76<|a76 a93) a93) (ws_of<|bH 1 xR.nd (aN cK (aU 1)<|cO<|lB (dI<|b7<|b7<|b7<|b7<|b7 aA)<|lB (dI<|aJ1 (jN aE)<|aJ1 (jN aE)<|b7<|b7<|b7 aA)<|lB (dI<|b7<|b7<|b7<|b7<|b7 aA)<|lB (dI<|aJ1 (jN aE)<|b7<|b7<|b7<|b7 aA)<|lB (dI<|b7<|b7<|aJ1 (jN aE)<|b7<|b7 aA) aA)<|eK<|dP (bZ 1)<|aN fK (cI aH9 hr<|aL 0<|b7<|b7 aA) aE) xR.nd)
theorem dK8 (Z:Zs mg){iD:Addr}(lU:mg "RingError"=some (.ref iD))(rV:excIn K iD [.type "ValueError",.type "Exception",.type "BaseException",.type "object"] "ValueError.__new__"=true)(r6: ∀n∈(["FallsApart","TooGreat","NotWhole"]:List Str),∀C,mg n=some (.ref C)->rZ K iD C [.type "ValueError",.type "Exception",.type "BaseException",.type "object"] "ValueError.__new__")(bA6:MkX P w K mg base "Ring" 10 ["poly","degree","measure"] yO)(cO7:dW0 P w K mg base)(sJ:cW5 P w K mg base)(a58:bO1 P w K mg base):DT P w K mg base dJ1 "_law_ring" bJ0 11 c21:=λhr=>
 (bH 3 aH7.nd a84<|bM (qL 4 aH7.nd (cW rfl Z.z4 (b7 aA))<|bD<|bM3 (bZ2<|aU 3)<|bD<|dS0 3 ["FallsApart","TooGreat","NotWhole"] nI bA6 hr ac rfl rfl rfl rfl rfl (λ_=>(aB (cI cO7 hr<|aB (cI sJ hr<|aL 0<|aB (aN cK (aU 1)<|aU 4) aA)<|aL 2 aA) aA)) aH7.nd rfl (Or.inl rfl) (λ_=>(bD<|vT 3 aH7.nd a84)) rfl lU rV r6 (il (n:=5) rfl ac))<|iO (bZ2<|aU 3) (bD<|vT 3 aH7.nd<|dR9 bA6 hr ac rfl (aB (cI a58 hr<|aB (cI sJ hr<|aL 0<|aL 1 aA) aA) aA))<|bD<|lX 3<|pv 3)
theorem cO5 (Z:Zs mg)(j7:aX5 P w K mg base):DT P w K mg base cD6 "_law_number" aE1 2 b03:=λhr=>
 (bH 3 gY.nd (cI j7 hr<|aL 0<|aB (cO<|b7<|b7 aA)<|aL 2 aA)<|bH 4 gY.nd (gO (uG<|cI j7 hr<|aL 0<|aB (aN cK (cO<|b7<|b7 aA)<|aN bT (cO<|aB (aN rY aE aE) aA)<|aN bT aE<|aU 1)<|aL 2 aA) (eW aE) iN)<|bH 5 gY.nd (cO aA)<|bM (qL 6 gY.nd (cW rfl Z.z4 (aL 1 aA))<|bH 7 gY.nd aE<|bM (qL 8 gY.nd (gG<|gO (bZ 4) (eW<|aN bT aE<|aU 6)<|eW<|aN cK (aN bT aE<|aU 6) aE)<|bD<|vT 7 gY.nd<|aN cK (aN bT (aU 7)<|aN rY aE aE)<|aU 8)<|iO (jF iU (dP (bZ 3) aE) aE) (bD<|vT 7 gY.nd<|aN bL (aN fK (aU 7) aE) aE)<|iO (jF iU (dP (bZ 3) aE) aE) (bD<|vT 7 gY.nd<|aN bL (aN fK (aU 7) aE) aE)<|iO (jF iU (dP (bZ 3) aE) aE) (bD<|vT 7 gY.nd<|aN bL (aN fK (aU 7) aE) aE)<|iO (jF iU (dP (bZ 3) aE) aE) (bD<|vT 7 gY.nd<|aN bL (aN fK (aU 7)<|aN cK (aN bT aE<|aN rY aE aE) aE)<|aN rY aE aE)<|iO (jF iU (dP (bZ 3) aE) aE) (bD<|vT 7 gY.nd<|aN bL (aN fK (aU 7)<|aN bL (aN bT (aN bT aE<|aN rY aE aE)<|aN rY aE aE) aE)<|aN bL (aN bT (aN rY aE aE)<|aN rY aE aE) aE)<|iO (jF iU (dP (bZ 3) aE)<|aU 6) (bD<|vT 7 gY.nd aE)<|bD<|jM 5 (pv 5)<|aU 7)<|eK<|bW dE rfl Z.z6 d6 (aL 5 aA))
theorem dW3 (Z:Zs mg)(j7:aX5 P w K mg base):DT P w K mg base dJ2 "_law_few" bV7 2 cM5:=λhr=>
 (bH 3 cN6.nd (cI j7 hr<|aL 0<|aB (aN cK (cO<|b7 aA)<|aN bT (cO<|b7 aA)<|aU 1)<|aL 2 aA)<|bH 4 cN6.nd (dP (uG<|cO<|b7<|b7<|b7 aA)<|dP (bZ 3) aE)<|eK<|bW dE rfl Z.z6 d6 (aB (lD ["_law_place","_law_wide",".acc"] (aF bV7).names dJ2 (gG<|gO (bZ 3) (eW aE) iN) (λ_ _ _ _ _ _=>dR) λ_ _ _ _ _ _=>(aN bL (aN fK (aU 0)<|aN cK (aN bT aE<|aU 1) aE)<|aU 1)) aA))
theorem d41 (Z:Zs mg):DT P w K mg base cV9 "_law_times" aW8 0 bF7:=λhr=>
 (bH 3 rT.nd (aN bL (fQ (bZ 0) rfl Z.z0) aE)<|bH 4 rT.nd (aN bT (cO<|b7 aA)<|aN bL (aN bT aE<|aU 3) aE)<|bM (qL 5 rT.nd (cW rfl Z.z4 (aL 3 aA))<|bD<|qL 6 rT.nd (cW rfl Z.z4 (aL 3 aA))<|bD<|a23 4 (pv 4) (aN cK (dP (bZ 4)<|aN cK (aU 5)<|aU 6)<|aN bT (dP (bZ 1)<|aU 5)<|dP (bZ 2)<|aU 6)<|aN cK (aU 5)<|aU 6)<|bM (qL 7 rT.nd (aY8 rfl Z.z4 (aB (aN bL (aN bT aE<|aU 3) aE)<|aB (aN bL (aU 3) aE)<|aJ1 (jN aE) aA))<|bD<|qL 6 rT.nd (cW rfl Z.z4 (aL 3 aA))<|bH 8 rT.nd (aN cK (aN bL (aU 7)<|aU 3)<|aU 6)<|bD<|a23 4 (pv 4) (aN bL (dP (bZ 4)<|aU 8)<|aN bT (dP (bZ 4)<|aU 7)<|dP (bZ 0)<|aU 6)<|aU 8)<|eK<|bW dE rfl Z.z6 d6 (aB (gO (bZ 4) iN<|eW<|aU 3) aA))
theorem bA5 (Z:Zs mg){k:Nat}{lJ:Φ}(hk:1<=k)(bW0:Fn P w K mg base "_law_det" qV k lJ):DT P w K mg base dJ4 "_law_det" bJ1 k (cM7 lJ):=λhr=>
 (bM (cQ3 (aG0 iU (fQ (mL 0<|pv 0) rfl Z.z0) aE<|aP2 _) (bD<|bX8<|a86 (uG<|a86 (mL 0<|pv 0) aE λ_ _=>rfl) aE λ_ _=>rfl) bX7)<|bM (rX 1 aE2.nd rfl (Or.inl rfl) aE (hl:=il (n:=4) rfl ac))<|bM (aP3 jB rfl (cW rfl Z.z4 (aB (fQ (mL 0<|pv 0) rfl Z.z0) aA)) (sZ 2<|dG aE2.nd rfl (Or.inl rfl)) (bM (b41 (js:=[]) (N:=["_law_row_here",".acc"]) (cap:=[none,none]) (last:=1) (esc:=(aF bJ1).names) (XN:=dJ4) 3 rfl rfl af ac ac rfl (gG<|aN cK (gO (mL 0<|pv 0) iN<|eW<|cJ 2<|pv 2)<|gO (mL 0<|pv 0) (eW<|aN cK (cJ 2<|pv 2) aE) iN) (λ_ _ _ _ _ _=>(sZ 0<|dG (show Nodup (["_law_row_here",".acc"]:List Str)by decide +kernel) rfl (Or.inl rfl))) (λ_ _ _ _ _ _=>dR) (λ_ _ _ _ _ _=>(gO (mL 0<|pv 0) (eW aE) iN)) (dG aE2.nd rfl (Or.inl rfl)) (il (n:=4) rfl ac))<|bD<|rX 1 aE2.nd rfl (Or.inl rfl) (aN cK (cJ 1<|pv 1)<|aN bT (aN bT (aN bL aE<|aN bT aE<|aN fK (cJ 2<|pv 2) aE)<|a86 (uG<|a86 (mL 0<|pv 0) (cJ 2<|pv 2) λ_ _=>rfl) aE λ_ _=>rfl)<|vW bW0 hr (aG _) rfl (aB (cJ 3<|pv 3) aA)) (hl:=il (n:=4) rfl ac)))<|bD<|lX 1<|pv 1)
theorem d42 (Z:Zs mg)(tG:bK2 P w K mg base):DT P w K mg base c34 "_law_table" bA4 1 bG7:=λhr=>
 (bH 2 vI.nd (aN bL (fQ (bZ 0) rfl Z.z0) aE)<|bH 3 vI.nd (bW dE rfl Z.z6 d6 (aB (lD ["_law_k",".acc"] (aF bA4).names c34 (cW rfl Z.z4 (aL 2 aA)) (λ_ _ _ _ _ _=>dR) λ_ _ _ _ _ _=>(bW cu_int rfl Z.z14 dD4 (aB (cJ8 iU (aU 0) aE) aA))) aA))<|bH 4 vI.nd (cO aA)<|bH 5 vI.nd (bW dE rfl Z.z6 d6 (aL 1 aA))<|bM (qL 6 vI.nd (cW rfl Z.z4 (aL 2 aA))<|bM (jM 4 (pv 4)<|aU 5)<|bD<|vT 5 vI.nd<|cI tG hr<|aL 0<|aL 3<|aL 5 aA)<|bD<|lX 4<|pv 4)
theorem d43 (Z:Zs mg):DT P w K mg base cW0 "_law_whole" aW9 0 bD4:=λhr=>
 (eK<|pu_and (eJ cI2 rfl Z.z15 wS (aL 0<|aB (c68 rfl Z.z14 dD4) aA))<|pu_one<|pu_not<|eJ cI2 rfl Z.z15 wS (aL 0<|aB (c68 rfl Z.z16 dS7) aA))
theorem dW4 (Z:Zs mg)(c43:dK5 P w K mg base):DT P w K mg base dJ5 "_law_row" bV8 1 cM3:=λhr=>
 (iO (PUW.pt<|bB4 (rC<|uH<|eJ cI2 rfl Z.z15 wS (aL 0<|aB (c68 rfl Z.z6 d6) aA))<|bX6<|jF bQ6 (fQ (bZ 0) rfl Z.z0)<|aU 1) (eK bQ2)<|eK<|eJ (cI7 rfl) rfl Z.z10 cI8 (aB (lD ["_law_place",".acc"] (aF bV8).names dJ5 (gG<|aU 0) (λ_ _ _ _ _ _=>dR) λ_ _ _ _ _ _=>(cI c43 hr<|aL 0 aA)) aA))
theorem cO6 (Z:Zs mg):DT P w K mg base bJ2 "_law_nearer" yW 0 b19:=λhr=>
 (eK<|bW dE rfl Z.z6 d6 (aB (lD ["_law_place",".acc"] (aF yW).names bJ2 (gG<|aU 0) (λ_ _ _ _ _ _=>dR) λ_ _ _ _ _ _=>(aS8 (jF c66 (eJ bY1 rfl Z.z11 c02 (aL 0 aA))<|aN rY aE aE) (aU 0)<|aN fK (aU 0)<|aN rY aE aE)) aA))
theorem d44 (Z:Zs mg){cD:Addr}(kO:mg "NotHeld"=some (.ref cD))(mH:excIn K cD [.type "ValueError",.type "Exception",.type "BaseException",.type "object"] "ValueError.__new__"=true){cQ:Addr}(lM:mg "Nought"=some (.ref cQ))(nB:excIn K cQ [.type "ValueError",.type "Exception",.type "BaseException",.type "object"] "ValueError.__new__"=true){kI:Addr}(lW:mg "NotApart"=some (.ref kI)){fW:Addr}(i7:mg "TooGreat"=some (.ref fW)){tO:Addr}(r8:mg "NoPrime"=some (.ref tO)){cX:Addr}(fV:mg "FallsApart"=some (.ref cX))(KX_NotHeld:bZ9 K cD)(U1_NotHeld:rZ K cD cD [.type "ValueError",.type "Exception",.type "BaseException",.type "object"] "ValueError.__new__")(KX_Nought:bZ9 K cQ)(U1_Nought:rZ K cQ cQ [.type "ValueError",.type "Exception",.type "BaseException",.type "object"] "ValueError.__new__")(NU_NotHeld:a98 K cD cQ [.type "ValueError",.type "Exception",.type "BaseException",.type "object"] "ValueError.__new__" false)(ki_NotHeld_ValueError:kitOne K (.ref cD) (.type "ValueError")=some true)(ki_NotHeld_Nought_NotApart_TooGreat_NoPrime:kitAny K (.ref cD) [.ref cQ,.ref kI,.ref fW,.ref tO]=some false)(ki_Nought_ValueError:kitOne K (.ref cQ) (.type "ValueError")=some true)(ki_Nought_NotApart_TooGreat_FallsApart:kitAny K (.ref cQ) [.ref kI,.ref fW,.ref cX]=some false)(b31:FnX P w K mg base "over" bV2 7 a42):DT P w K mg base cW1 "_law_asked" aX0 7 bH9:=λhr=>
 (bH 3 vJ.nd oN<|bH 4 vJ.nd a84<|bM (dC8 5 (.inl ⟨rfl,rfl⟩) (.inl ⟨rfl,rfl⟩) nI rfl rfl rfl rfl (uy_set 4 b31 hr ac rfl (λ_=>(aL 0<|aL 1<|aL 2 aA)) vJ.nd rfl (Or.inl rfl) (il (n:=6) rfl ac)) (λa oe x ho hx=>(bD<|vT 3 vJ.nd<|aS8 (PUW.pt<|a22 (uH<|dC7 5 KX_NotHeld (hG ..) ho hx (pv 5) (c68 rfl Z.z17 aJ3) rfl ki_NotHeld_ValueError rfl Z.z15)<|uI<|rC<|uH<|cR3 5 KX_NotHeld (hG ..) ho hx (pv 5) (dI<|aB (aP8 rfl lM)<|aB (aP8 rfl lW)<|aB (aP8 rfl i7)<|aB (aP8 rfl r8) aA) (rs:=[cQ,kI,fW,tO]) (λ_ _ q=>⟨zM rfl,q⟩) ki_NotHeld_Nought_NotApart_TooGreat_NoPrime rfl Z.z15) oN oN)) (λa oe x ho hx=>(bD<|vT 3 vJ.nd<|aS8 (PUW.pt<|a22 (uH<|dC7 5 KX_Nought (hG ..) ho hx (pv 5) (c68 rfl Z.z17 aJ3) rfl ki_Nought_ValueError rfl Z.z15)<|uI<|rC<|uH<|cR3 5 KX_Nought (hG ..) ho hx (pv 5) (dI<|aB (aP8 rfl lW)<|aB (aP8 rfl i7)<|aB (aP8 rfl fV) aA) (rs:=[kI,fW,cX]) (λ_ _ q=>⟨zM rfl,q⟩) ki_Nought_NotApart_TooGreat_FallsApart rfl Z.z15) oN oN)) rfl kO (.inl mH) rfl lM (.inl nB) U1_NotHeld U1_Nought NU_NotHeld vJ.nd rfl rfl (il (n:=6) rfl ac))<|eK<|cO<|aL 3<|aL 4 aA)
theorem dW5 (Z:Zs mg)(c44:dK4 P w K mg base)(bW0:TF_det P w K mg base)(tG:bK2 P w K mg base):DT P w K mg base cE1 "_law_due" b64 5 cN2:=λhr=>
 (bH 3 aE3.nd (cI c44 hr<|aB (sA<|aU 0)<|aL 2 aA)<|bH 4 aE3.nd (fQ (bZ 2) rfl Z.z0)<|bH 5 aE3.nd (cI bW0 hr<|aL 3 aA)<|iO (jF iU (aU 5) aE) (eK<|cO<|aB oN<|aB a84 aA)<|bH 6 aE3.nd (cO aA)<|bM (qL 7 aE3.nd (cW rfl Z.z4 (aL 4 aA))<|bM (b41 (js:=[]) (N:=["_law_row_here",".acc"]) (cap:=[none,none]) (last:=1) (esc:=(aF b64).names) (XN:=cE1) 8 rfl rfl af ac ac rfl (gG<|aN cK (gO (bZ 3) iN<|eW<|aU 7)<|gO (bZ 3) (eW<|aN cK (aU 7) aE) iN) (λ_ _ _ _ _ _=>(sZ 0<|dG (show Nodup (["_law_row_here",".acc"]:List Str)by decide +kernel) rfl (Or.inl rfl))) (λ_ _ _ _ _ _=>dR) (λ_ _ _ _ _ _=>(gO (bZ 0) (eW aE) iN)) (dG aE3.nd rfl (Or.inl rfl)) (il (n:=10) rfl ac))<|bD<|jM 6 (pv 6)<|aN bT (aN bL aE<|aN bT aE<|aN fK (aU 7) aE)<|cI bW0 hr<|aL 8 aA)<|bH 9 aE3.nd (cI tG hr<|aB (sA<|aU 0)<|aL 1<|aB (bW dE rfl Z.z6 d6 (aL 6 aA)) aA)<|iO (uH<|eJ (cJ2 rfl) rfl Z.z9 cJ3 (aB (lD ["_law_place","_law_by",".acc"] (aF b64).names cE1 (gG<|aU 9) (λ_ _ _ _ _ _=>dR) λ_ _ _ _ _ _=>(cJ8 bQ6 (aN fK (aU 0)<|aU 1) aE)) aA)) (eK<|cO<|aB oN<|aB a84 aA)<|eK<|cO<|aB oN<|aB (bW dE rfl Z.z6 d6 (aB (lD ["_law_place","_law_by",".acc"] (aF b64).names cE1 (gG<|aU 9) (λ_ _ _ _ _ _=>dR) λ_ _ _ _ _ _=>(aN wO (aU 0)<|aU 1)) aA)) aA)
theorem dK9 (Z:Zs mg)(a59:cE9 P w K mg base)(dL1:TF_row P w K mg base)(dL2:TF_due P w K mg base):DT P w K mg base dJ8 "_law_well" bJ3 8 c29:=λhr=>
 (bH 3 cW3.nd (cI a59 hr<|aL 0<|aL 1<|aL 2 aA)<|iO (PUW.pt<|a22 (jF iU (dP (bZ 3) aE) oN)<|uI<|rC<|uH<|cI dL1 hr<|aB (dP (bZ 3) aE)<|aB (fQ (bZ 1) rfl Z.z0) aA) (eK bQ2)<|eK<|cJ8 (bZ0 hr.units) (aU 3)<|cI dL2 hr<|aL 0<|aL 1<|aL 2 aA)
theorem dW6 (Z:Zs mg)(cO8:dW1 P w K mg base)(aX8:d35 P w K mg base)(aE9:d34 P w K mg base)(sJ:cW5 P w K mg base)(tG:bK2 P w K mg base)(a59:cE9 P w K mg base)(j7:aX5 P w K mg base)(cW6:TF_few P w K mg base)(b32:dW2 P w K mg base):DT P w K mg base dJ9 "law" aL2 12 c32:=λhr=>
 (bH 1 pB.nd (cI cO8 hr<|aL 0<|b7<|b7 aA)<|bH 2 pB.nd (sA<|aU 1)<|bH 3 pB.nd (cI aX8 hr<|aB (cI aE9 hr<|aB (cI sJ hr<|aL 0<|b7 aA)<|aL 2<|b7 aA) aA)<|bH 4 pB.nd (cI aX8 hr<|aB (cI aE9 hr<|aB (cI sJ hr<|aL 0<|b7 aA)<|aL 2<|b7 aA) aA)<|iO (rC<|uH<|eJ (cJ2 rfl) rfl Z.z9 cJ3 (aB (lD ["_law_place",".acc"] (aF aL2).names dJ9 (gG<|aU 3) (λ_ _ _ _ _ _=>dR) λ_ _ _ _ _ _=>(cJ8 bQ6 (aU 0) aE)) aA)) (bD<|vT 3 pB.nd<|bW dE rfl Z.z6 d6 (aB (aN cK (aN bT (cO<|b7 aA)<|aN bL (aU 2) aE)<|cO<|b7 aA) aA))<|bH 5 pB.nd (cI tG hr<|aB (sA<|aU 1)<|aL 3<|aL 4 aA)<|iO (jF (ou_neD hr.units) (cI a59 hr<|aL 1<|aL 5<|aL 3 aA)<|cO<|aB oN<|aL 4 aA) (eK bQ2)<|bH 6 pB.nd (aN bL (dP (uG<|cI j7 hr<|aB (cI sJ hr<|aL 0<|b7 aA)<|aB (cO<|b7 aA)<|b7 aA) aE) aE)<|bH 7 pB.nd (bW dE rfl Z.z6 d6 (aB (aN bT (cO<|b7 aA)<|aU 2) aA))<|bH 8 pB.nd (cI cW6 hr<|aB (cI sJ hr<|aL 0<|b7 aA)<|aL 2<|b7 aA)<|bH 9 pB.nd (cI cW6 hr<|aB (cI sJ hr<|aL 0<|b7 aA)<|aL 2<|b7 aA)<|bH 10 pB.nd (cI aE9 hr<|aB (cI sJ hr<|aL 0<|b7 aA)<|aL 2<|b7 aA)<|iO (PUW.pt<|bB4 (rC<|uH<|cI b32 hr<|aL 1<|aL 10<|aL 8 aA)<|bB4 (rC<|uH<|cI b32 hr<|aL 1<|aL 8<|aL 10 aA)<|bX6<|rC<|uH<|cI b32 hr<|aL 1<|aL 10<|aL 10 aA) (eK bQ2)<|bM (aP3 jB rfl (gG<|cO<|lB (dI<|aB (aN cK (dI<|aB (aN cK (dP (bZ 5) aE)<|aU 6) aA)<|gO (bZ 5) (eW aE) iN)<|aL 3 aA)<|lB (dI<|aL 8<|aL 9 aA)<|lB (dI<|aL 5<|aL 7 aA)<|lB (dI<|aL 7<|aL 7 aA)<|lB (dI<|aL 7<|aL 3 aA)<|lB (dI<|aL 4<|aL 3 aA) aA) (wN rfl (eV 11 (dG pB.nd rfl (Or.inl rfl))<|eV 12 (dG pB.nd rfl (Or.inl rfl)) rD) (dS<|dS mV)) (bD<|bM3 (rC<|uH<|cI b32 hr<|aL 1<|aL 11<|aL 12 aA)<|eK bQ2))<|eK<|cJ8 (bZ0 hr.units) (cI a59 hr<|aL 1<|aL 5<|aL 3 aA)<|cO<|aB oN<|aL 4 aA)
theorem d45 (Z:Zs mg){oB:Tok}(fF:mg "GREATEST_MEASURE"=some (.int 39999 oB)){fW:Addr}(i7:mg "TooGreat"=some (.ref fW))(rA:excIn K fW [.type "ValueError",.type "Exception",.type "BaseException",.type "object"] "ValueError.__new__"=true)(dM:mU P w K mg base)(aF0:c38 P w K mg base)(oC:FnX P w K mg base "need_together" vF 5 jL)(sK:FnX P w K mg base "need_whole" a74 9 mC){f:Addr}{cdv:Value}{A:Around}{outer:List Env}{s:Shared}{H:Hp}{E:XK}(hr:gS 9 (A.deeper<|envOfC "Ring.__init__" (aF aE4) s.heap.objs.size f cdv)) :
  PSs (sY (CXr P w base) P w K mg base ["self","poly","size"] "Ring.__init__" (aF aE4) f cdv A outer s H E) (dY aE4) (λD=>lSX K mg E bF0 {D with nx:=tS3 K "poly" "degree" "measure" bF1 bF2 bF3 D}):=
 (b95 (vY<|bY9<|vW dM hr ac rfl (aB (cJ 1<|pv 1) aA))<|b95 (cR0 oC hr ac dZ0 rfl (aB (cJ 1<|pv 1) aA))<|b95 (vY<|rX 2 cW4.nd rfl (Or.inl rfl) (vW aF0 hr ac rfl (aB (cJ 1<|pv 1) aA)) (hl:=il (n:=3) rfl ac))<|b95 (c83 (aG0 c67 (eJ bY1 rfl Z.z11 c02 (aB (cJ 2<|pv 2) aA)) (cQ7 rfl fF)<|aP2 _) (a96<|bC9 nI rA rfl i7 rfl (aB oN aA) bC6 rfl) bC8)<|dS1 (cR0 sK hr ac dZ0 rfl (aB (cJ 1<|pv 1)<|aB (cJ 2<|pv 2) aA))<|yD (cH0 (pv 0) (cJ 1<|pv 1) rfl)<|yD (cH0 (pv 0) (aN bL (fQ (mL 1<|pv 1) rfl Z.z0) aE) rfl)<|bW4<|cH0 (pv 0) (cJ 2<|pv 2) rfl)
end
theorem lC {P:List Value->Prop}{n:Nat}(h: ∀a us,us.length=n->P (a::us)): ∀us:List Value,us.length=n+1->P us:=λus=>us.casesOn (λe=>nomatch e) λa us e=>h a us (Nat.succ.inj e)
theorem lN0 {P:List Value->Prop}(h:P []): ∀us:List Value,us.length=0->P us:=λus=>us.casesOn (λ_=>h) λ_ _ e=>nomatch e
local macro_rules| `(tactic| walk_at "b0")=> `(tactic| exact λ_ _ _ _ _ _=>lN0 rfl)
theorem lN1 {P:List Value->Prop}(h: ∀a0,P [a0]): ∀us:List Value,us.length=1->P us:=lC λa0=>lN0 (h a0)
local macro_rules| `(tactic| walk_at "b1")=> `(tactic| exact λ_ _ _ _ _ _=>lN1 λ_=>rfl)
theorem lN2 {P:List Value->Prop}(h: ∀a0 a1,P [a0,a1]): ∀us:List Value,us.length=2->P us:=lC λa0=>lC λa1=>lN0 (h a0 a1)
local macro_rules| `(tactic| walk_at "b2")=> `(tactic| exact λ_ _ _ _ _ _=>lN2 λ_ _=>rfl)
theorem lN3 {P:List Value->Prop}(h: ∀a0 a1 a2,P [a0,a1,a2]): ∀us:List Value,us.length=3->P us:=lC λa0=>lC λa1=>lC λa2=>lN0 (h a0 a1 a2)
local macro_rules| `(tactic| walk_at "b3")=> `(tactic| exact λ_ _ _ _ _ _=>lN3 λ_ _ _=>rfl)
local macro_rules| `(tactic| walk_at "n")=> `(tactic| (intro _ _ h;repeat (first| (obtain⟨e,_⟩:=h;subst e;rfl)|obtain⟨_,h⟩:=h)))
structure FD where
 oc:Value
 od:Option Addr
 kV:Value
 dc:Value
 pm:Value
 an:Option Addr
 cd:Value
 ct:Value
 sl:Array (Option Value)
abbrev eZ (K:PySem.W.Frag)(x y:Str)(s:Stmt)(f:Addr):Prop:= ∃d:FD,nsIn K mainGlobals y=some (some<|.ref f)/\K.lookup f=some ⟨d.oc,d.od,.func<|fnOf x x (jK s) (dY s) (aF s) .none d.kV d.dc d.pm d.an d.cd d.ct,d.sl⟩/\codeIn K d.cd x=true/\keepIn K (.ref f)=true
theorem fnAt {K:PySem.W.Frag}{x y:Str}{s:Stmt}{f:Addr}{oc:Value}{od:Option Addr}{kV dc pm:Value}{an:Option Addr}{cd ct:Value}{sl:Array (Option Value)}(a:nsIn K mainGlobals y=some (some<|.ref f))(b:K.lookup f=some ⟨oc,od,.func<|fnOf x x (jK s) (dY s) (aF s) .none kV dc pm an cd ct,sl⟩)(c:codeIn K cd x=true)(k:keepIn K (.ref f)=true):eZ K x y s f:=⟨⟨oc,od,kV,dc,pm,an,cd,ct,sl⟩,a,b,c,k⟩
theorem dL0 {K:PySem.W.Frag}{x y:Str}{s:Stmt}{f:Addr}(p:eZ K x y s f): ∃fd,Fun K x x s f fd/\nsIn K mainGlobals y=some (some<|.ref f):=let ⟨_,a,b,c,k⟩:=p;⟨_,aY3 b c k,a⟩
section
variable {P:Program}{w:World}{K:PySem.W.Frag}{mg:Str->Option Value}{base h:Heap}(X:K.In h)(G:h.Ns mainGlobals mg){x y:Str}{st:Stmt}{f:Addr}{N ps:List Str}{k:Nat}(p:eZ K x y st f)(b: ∀(kV doc pm:Value) (an:Option Addr) (cdv ct:Value) (us:List Value),us.length=ps.length->bindArgs (fnOf x x (jK st) (dY st) (aF st) .none kV doc pm an cdv ct) ⟨us,[]⟩=pure (ps.zip us))(S:aY N ps (aF st))
include X G p b S
theorem fn_b {φ:Φ}(len: ∀ds Q,φ ds Q->ds.length=ps.length){t:US}(der: ∀(cdv:Value) (A:Around) (outer:List Env) (s:Shared) (H:Hp) (E:XK),gS k (A.deeper<|envOfC x (aF st) s.heap.objs.size f cdv)->pF (sY CX0 P w K mg base N x (aF st) f cdv A outer s H E).nox (dY st) t)(rd: ∀ds Q,φ ds Q->t {nx:=λ_=>Q (.pu .non),rt:=Q} (init N ds)):Fn P w K mg base y ps (k+1) φ:=
 let ⟨_,U,m⟩:=dL0 p
 Fn.mkA U (cC X G m) (U.binds b) S len der rd
theorem fnX_b {φ:ΦX}(q:x=y)(len: ∀ds Q Ex,φ ds Q Ex->ds.length=ps.length){t:USX}(der: ∀(cdv:Value) (A:Around) (outer:List Env) (s:Shared) (H:Hp) (E:XK),gS k (A.deeper<|envOfC x (aF st) s.heap.objs.size f cdv)->yJ (sY (CXr P w base) P w K mg base N x (aF st) f cdv A outer s H E) E (dY st) t)(rd: ∀ds Q Ex,φ ds Q Ex->t Ex {nx:=λ_=>Q (.pu .non),rt:=Q} (init N ds)):FnX P w K mg base y ps (k+1) φ:=
 let ⟨_,U,m⟩:=dL0 p
 q▸FnX.mk' U (cC X G<|q▸m) (U.binds b) S len der rd
end
theorem all_mk {l:PySem.W.OpenLaw}{w:World}{K:PySem.W.Frag}{h:Heap}{mg:Str->Option Value}{fa f1 f2 f3 f4 f5 f6 f7 f8 f9 f10 f11 f12 f13 f14 f15 f16 f17 f18 f19 f20 f21 f22 f23 f24 f25 f26 f27 f28 f29 f30 f31 f32 f33 f34 f35 f36 f37 f38 f39 f40 f41 f42 f43 f44 f45 f46 f47 f48 f49 f50 f51 f52 f53 f54 f55 f56 f57 f58 f59 f60 f61 iC jW aX9 cD cQ cX i6 fW iD kI tO rB jT:Addr}(X:K.In h)(G:h.Ns mainGlobals mg)(hfa:mg "law"=some (.ref fa))
  {bO7 bO8 cF7 cF8 dW7 dW8 b86:Option Addr} {bO9 cF9 dW9 b87:Array (Option Value)} {bP0 bP1 bP2 aL4 bP3 cG0 cG1 cG2 b66 cG3 dX0 dX1 dX2 cW7 dX3 dX4:Value} {bW1 bL4 tH a60 bL5:ClassData} {qX oB:Tok} {b33:Array Value} {n_SMALL_PRIMES:Nat}
  (P1:eZ K "cut" "cut" aV4 f1)
  (P2:eZ K "padded" "padded" vB f2)
  (P3:eZ K "poly_parted" "poly_parted" kK f3)
  (P4:eZ K "poly_at" "poly_at" rQ f4)
  (P5:eZ K "det" "det" aH4 f5)
  (P6:eZ K "without" "without" oG f6)
  (P7:eZ K "add" "add" aH5 f7)
  (P8:eZ K "less" "less" yR f8)
  (P9:eZ K "times" "times" tL f9)
  (P10:eZ K "power" "power" yS f10)
  (P11:eZ K "number_of" "number_of" n8 f11)
  (P12:eZ K "t_times" "t_times" oH f12)
  (P13:eZ K "table_of" "table_of" oU f13)
  (P14:eZ K "norm" "norm" aD2 f14)
  (P15:eZ K "trace" "trace" tM f15)
  (P16:eZ K "own" "own" aV9 f16)
  (P17:eZ K "mate" "mate" aD3 f17)
  (P18:eZ K "over" "over" oV f18)
  (P19:eZ K "is_ring_poly" "is_ring_poly" iG f19)
  (P20:eZ K "need_ring_poly" "need_ring_poly" iQ f20)
  (P21:eZ K "root" "root" aD4 f21)
  (P22:eZ K "small_primes" "small_primes" jQ f22)
  (P23:eZ K "apart" "apart" yU f23)
  (P24:eZ K "dividers" "dividers" oW f24)
  (P25:eZ K "line_and_rest" "line_and_rest" j6 f25)
  (P26:eZ K "two_by_two" "two_by_two_apart" gP f26)
  (P27:eZ K "two_with" "two_with" oX f27)
  (P28:eZ K "measure" "measure" oJ f28)
  (P29:eZ K "root_sums" "root_sums" kM f29)
  (P30:eZ K "mod_poly" "mod_poly" mD f30)
  (P31:eZ K "mod_parted" "mod_parted" lK f31)
  (P32:eZ K "scaled" "scaled" qU f32)
  (P33:eZ K "inverse_of" "inverse_of" lL f33)
  (P34:eZ K "split_by" "split_by" oY f34)
  (P35:eZ K "lines_out" "lines_out" nA f35)
  (P36:eZ K "rootless_parts" "rootless_parts" gJ f36)
  (P37:eZ K "two_by_two" "two_by_two_split" gQ f37)
  (P38:eZ K "papers_of" "papers_of" kN f38)
  (P39:eZ K "parts_at" "parts_at" mE f39)
  (P40:eZ K "outside_of" "outside_of" jR f40)
  (P41:eZ K "need_together" "need_together" fT f41)
  (P42:eZ K "need_whole" "need_whole" gR f42)
  (P43:eZ K "_law_cell" "_law_cell" bI8 f43)
  (P44:eZ K "_law_mixed" "_law_mixed" aW5 f44)
  (P45:eZ K "_law_draws" "_law_draws" aW6 f45)
  (P46:eZ K "_law_shifted" "_law_shifted" yV f46)
  (P47:eZ K "_law_poly" "_law_poly" b23 f47)
  (P48:eZ K "_law_known_ring" "_law_known_ring" oZ f48)
  (P49:eZ K "_law_ring" "_law_ring" bJ0 f49)
  (P50:eZ K "_law_number" "_law_number" aE1 f50)
  (P51:eZ K "_law_few" "_law_few" bV7 f51)
  (P52:eZ K "_law_times" "_law_times" aW8 f52)
  (P53:eZ K "_law_det" "_law_det" bJ1 f53)
  (P54:eZ K "_law_table" "_law_table" bA4 f54)
  (P55:eZ K "_law_whole" "_law_whole" aW9 f55)
  (P56:eZ K "_law_row" "_law_row" bV8 f56)
  (P57:eZ K "_law_nearer" "_law_nearer" yW f57)
  (P58:eZ K "_law_asked" "_law_asked" aX0 f58)
  (P59:eZ K "_law_due" "_law_due" b64 f59)
  (P60:eZ K "_law_well" "_law_well" bJ3 f60)
  (P61:eZ K "law" "law" aL2 f61)
  (kO:nsIn K mainGlobals "NotHeld"=some (some<|.ref cD))
  (lM:nsIn K mainGlobals "Nought"=some (some<|.ref cQ))
  (fV:nsIn K mainGlobals "FallsApart"=some (some<|.ref cX))
  (lQ:nsIn K mainGlobals "NotWhole"=some (some<|.ref i6))
  (i7:nsIn K mainGlobals "TooGreat"=some (some<|.ref fW))
  (lU:nsIn K mainGlobals "RingError"=some (some<|.ref iD))
  (lW:nsIn K mainGlobals "NotApart"=some (some<|.ref kI))
  (r8:nsIn K mainGlobals "NoPrime"=some (some<|.ref tO))
  (bL6:nsIn K mainGlobals "Ring"=some (some<|.ref rB))
  (aL5:PySem.W.findIn K (.ref cX) "__init__"=some (some<|.ref iC))
  (b67:PySem.W.findIn K (.ref i6) "__init__"=some (some<|.ref jW))
  (c45:PySem.W.findIn K (.ref rB) "__init__"=some (some<|.ref aX9))
  (a61:K.lookup iC=some ⟨.type "function",bO7,.func<|fnOf "__init__" "FallsApart.__init__" (jK pC) (dY pC) (aF pC) .none bP0 bP1 bP2 bO8 aL4 bP3,bO9⟩)
  (aS2:K.lookup jW=some ⟨.type "function",cF7,.func<|fnOf "__init__" "NotWhole.__init__" (jK vK) (dY vK) (aF vK) .none cG0 cG1 cG2 cF8 b66 cG3,cF9⟩)
  (cO9:K.lookup aX9=some ⟨dX4,dW7,.func<|fnOf "__init__" "Ring.__init__" (jK aE4) (dY aE4) (aF aE4) .none dX0 dX1 dX2 dW8 cW7 dX3,dW9⟩)
  (xX:codeIn K aL4 "FallsApart.__init__"=true)
  (xY:keepIn K (.ref iC)=true)
  (aF1:codeIn K b66 "NotWhole.__init__"=true)
  (aF2:keepIn K (.ref jW)=true)
  (c46:codeIn K cW7 "Ring.__init__"=true)
  (c47:keepIn K (.ref aX9)=true)
  (mJ:a66 K cX iC [.type "ValueError",.type "Exception",.type "BaseException",.type "object"] "ValueError.__new__"=true)
  (qZ:a66 K i6 jW [.type "ValueError",.type "Exception",.type "BaseException",.type "object"] "ValueError.__new__"=true)
  (mH:excIn K cD [.type "ValueError",.type "Exception",.type "BaseException",.type "object"] "ValueError.__new__"=true)
  (nB:excIn K cQ [.type "ValueError",.type "Exception",.type "BaseException",.type "object"] "ValueError.__new__"=true)
  (rA:excIn K fW [.type "ValueError",.type "Exception",.type "BaseException",.type "object"] "ValueError.__new__"=true)
  (rV:excIn K iD [.type "ValueError",.type "Exception",.type "BaseException",.type "object"] "ValueError.__new__"=true)
  (a62:PySem.W.clsIn K cD=some bW1)
  (zA:PySem.W.clsIn K cQ=some bL4)
  (rG:PySem.W.clsIn K cX=some tH)
  (wJ:PySem.W.clsIn K i6=some a60)
  (aF3:PySem.W.clsIn K fW=some bL5)
  (jU:(tH).mro.contains (.ref iD)=true)
  (kS:(bL5).mro.contains (.ref iD)=true)
  (kT:(a60).mro.contains (.ref iD)=true)
  (se_NotHeld:(bW1).mro.contains (.ref cD)=true)
  (se_Nought:(bL4).mro.contains (.ref cQ)=true)
  (nu_NotHeld_Nought:(bL4).mro.contains (.ref cD)=false)
  (kg_NotHeld:PySem.W.findIn K (.ref cD) "__getattribute__"=some (some<|.builtin "BaseException.__getattribute__"))
  (kh_NotHeld:PySem.W.findIn K (.ref cD) "__getattr__"=some none)
  (ka_NotHeld:PySem.W.findIn K (.ref cD) "__class__"=some (some<|.builtin "object.__class__"))
  (kn_NotHeld:PySem.W.specialIn K (.builtin "object.__class__") "__get__"=some (some<|.builtin "getset_descriptor.__get__"))
  (kt_NotHeld:PySem.W.takesIn K (.builtin "object.__class__")=some true)
  (km_NotHeld:PySem.W.mroIn K cD (.type "object")=some true)
  (kb_NotHeld:PySem.W.mroIn K cD (.type "BaseException")=some true)
  (kg_Nought:PySem.W.findIn K (.ref cQ) "__getattribute__"=some (some<|.builtin "BaseException.__getattribute__"))
  (kh_Nought:PySem.W.findIn K (.ref cQ) "__getattr__"=some none)
  (ka_Nought:PySem.W.findIn K (.ref cQ) "__class__"=some (some<|.builtin "object.__class__"))
  (kn_Nought:PySem.W.specialIn K (.builtin "object.__class__") "__get__"=some (some<|.builtin "getset_descriptor.__get__"))
  (kt_Nought:PySem.W.takesIn K (.builtin "object.__class__")=some true)
  (km_Nought:PySem.W.mroIn K cQ (.type "object")=some true)
  (kb_Nought:PySem.W.mroIn K cQ (.type "BaseException")=some true)
  (ki_NotHeld_ValueError:kitOne K (.ref cD) (.type "ValueError")=some true)
  (ki_NotHeld_Nought_NotApart_TooGreat_NoPrime:kitAny K (.ref cD) [.ref cQ,.ref kI,.ref fW,.ref tO]=some false)
  (ki_Nought_ValueError:kitOne K (.ref cQ) (.type "ValueError")=some true)
  (ki_Nought_NotApart_TooGreat_FallsApart:kitAny K (.ref cQ) [.ref kI,.ref fW,.ref cX]=some false)
  (xZ:uN (tH).mro=true)
  (y8:(tH).hasDict=true)
  (y9:PySem.W.findIn K (.ref cX) "__setattr__"=some (some<|.builtin "object.__setattr__"))
  (yA:PySem.W.findIn K (.ref cX) "left"=some none)
  (yB:PySem.W.findIn K (.ref cX) "right"=some none)
  (aF4:uN (a60).mro=true)
  (aF5:(a60).hasDict=true)
  (aF6:PySem.W.findIn K (.ref i6) "__setattr__"=some (some<|.builtin "object.__setattr__"))
  (aF7:PySem.W.findIn K (.ref i6) "prime"=some none)
  (aF8:PySem.W.findIn K (.ref i6) "number"=some none)
  (mk_Ring:makesIn K rB=true)
  (fn_Ring:PySem.W.isFn K (.ref aX9)=true)
  (kc_Ring:keepIn K (.ref rB)=true)
  (pg_Ring:plainGet K rB Str.empty=true)
  (c48:hasDictIn K rB=true)
  (po_Ring:plainOver K rB=true)
  (c49:PySem.W.findIn K (.ref rB) "__setattr__"=some (some<|.builtin "object.__setattr__"))
  (c50:PySem.W.findIn K (.ref rB) "poly"=some none)
  (b34:PySem.W.findIn K (.ref rB) "degree"=some none)
  (aS3:PySem.W.findIn K (.ref rB) "measure"=some none)
  (dL3:nsIn K mainGlobals "len"=some none)
  (dL4:nsIn K mainGlobals "max"=some none)
  (cP0:nsIn K mainGlobals "list"=some none)
  (aS4:nsIn K mainGlobals "reversed"=some none)
  (c51:nsIn K mainGlobals "range"=some none)
  (aF9:nsIn K mainGlobals "enumerate"=some none)
  (c52:nsIn K mainGlobals "tuple"=some none)
  (dL5:nsIn K mainGlobals "zip"=some none)
  (dL6:nsIn K mainGlobals "sum"=some none)
  (dL7:nsIn K mainGlobals "any"=some none)
  (dL8:nsIn K mainGlobals "all"=some none)
  (dL9:nsIn K mainGlobals "abs"=some none)
  (dM0:nsIn K mainGlobals "min"=some none)
  (bL7:nsIn K mainGlobals "sorted"=some none)
  (dM1:nsIn K mainGlobals "int"=some none)
  (a63:nsIn K mainGlobals "isinstance"=some none)
  (cP1:nsIn K mainGlobals "bool"=some none)
  (a64:nsIn K mainGlobals "ValueError"=some none)
  (gK:nsIn K mainGlobals "GREATEST_PLACE"=some (some<|.int 499 qX))
  (fF:nsIn K mainGlobals "GREATEST_MEASURE"=some (some<|.int 39999 oB))
  (iS:nsIn K mainGlobals "SMALL_PRIMES"=some (some<|.ref jT))
  (sL:K.lookup jT=some ⟨.type "tuple",b86,.seq b33 n_SMALL_PRIMES,b87⟩)
  (sM:b33.size<=sizeLine)
  (sO:Vals (T_SMALL_PRIMES.map V.int) b33.toList) :
  ∃fd:FuncData,(∀(s:Shared) (v:Value),BindsTo s fd ⟨[v],[]⟩ [("_law_script",v)])/\ ∀base:Heap,K.In base->base.Ns mainGlobals mg->rW l.prog w K mg base CX0 13 fa fd ["_law_script"] (spP K bQ7):=by
 have h5:=P5.choose_spec;have h53:=P53.choose_spec;have h61:=P61.choose_spec;have e:=hfa.symm.trans (cC X G h61.1);cases e;have Z:Zs mg:=⟨dW X G dL3,dW X G dL4,dW X G cP0,dW X G aS4,dW X G c51,dW X G aF9,dW X G c52,dW X G dL5,dW X G dL6,dW X G dL7,dW X G dL8,dW X G dL9,dW X G dM0,dW X G bL7,dW X G dM1,dW X G a63,dW X G cP1,dW X G a64⟩;have gK:=cC X G gK;have fF:=cC X G fF;have iS:=cC X G iS
 have vM:KT K jT (T_SMALL_PRIMES.map V.int):=kt_of sL sM sO;have kO:=cC X G kO;have lM:=cC X G lM;have fV:=cC X G fV;have lQ:=cC X G lQ;have i7:=cC X G i7;have lU:=cC X G lU;have lW:=cC X G lW;have r8:=cC X G r8;have bL6:=cC X G bL6
 have a57:c82 K cX iC _ "left" "right":=cR1 (st:=pC) (x0:="self") (x1:="left") (x2:="right") a61 xX xY rfl bN7 rfl rfl rfl ac ac ac (λ_ _ _ _ _ _=>lN3 λ_ _ _=>rfl) rG xZ y8 y9 yA yB
 have aS1:c82 K i6 jW _ "prime" "number":=cR1 (st:=vK) (x0:="self") (x1:="prime") (x2:="number") aS2 aF1 aF2 rfl cE4 rfl rfl rfl ac ac ac (λ_ _ _ _ _ _=>lN3 λ_ _ _=>rfl) wJ aF4 aF5 aF6 aF7 aF8
 have r6: ∀n∈(["FallsApart","TooGreat","NotWhole"]:List Str),∀C,mg n=some (.ref C)->rZ K iD C [.type "ValueError",.type "Exception",.type "BaseException",.type "object"] "ValueError.__new__":=by
  intro n hn C hm;simp only[aZ,eB,eG]at hn;rcases hn with rfl|rfl|rfl
  . (have e:=hm.symm.trans fV;cases e;exact yK (.inr ⟨_,mJ⟩) rG jU)
  . (have e:=hm.symm.trans i7;cases e;exact yK (.inl rA) aF3 kS)
  . (have e:=hm.symm.trans lQ;cases e;exact yK (.inr ⟨_,qZ⟩) wJ kT)
 have KX_NotHeld:bZ9 K cD:=⟨by rw[a62];rfl,kg_NotHeld,kh_NotHeld,ka_NotHeld,kn_NotHeld,kt_NotHeld,km_NotHeld,kb_NotHeld⟩
 have U1_NotHeld:rZ K cD cD [.type "ValueError",.type "Exception",.type "BaseException",.type "object"] "ValueError.__new__":=yK (.inl mH) a62 se_NotHeld;have KX_Nought:bZ9 K cQ:=⟨by rw[zA];rfl,kg_Nought,kh_Nought,ka_Nought,kn_Nought,kt_Nought,km_Nought,kb_Nought⟩
 have U1_Nought:rZ K cQ cQ [.type "ValueError",.type "Exception",.type "BaseException",.type "object"] "ValueError.__new__":=yK (.inl nB) zA se_Nought;have NU_NotHeld:a98 K cD cQ [.type "ValueError",.type "Exception",.type "BaseException",.type "object"] "ValueError.__new__" false:=⟨.inl nB,_,zA,nu_NotHeld_Nought⟩;have U5:=aY3 (st:=aH4) h5.2.1 h5.2.2.1 h5.2.2.2
 have U53:=aY3 (st:=bJ1) h53.2.1 h53.2.2.1 h53.2.2.2;have U61:=aY3 (st:=aL2) h61.2.1 h61.2.2.1 h61.2.2.2;have UR:=aY3 (st:=aE4) cO9 c46 c47;refine⟨fnOf "law" "law" (jK aL2) (dY aL2) (aF aL2) .none P61.choose.kV P61.choose.dc P61.choose.pm P61.choose.an P61.choose.cd P61.choose.ct,λs v=> .of_eq rfl,λbase _ _=> ?_⟩
 have mB:= @fn_b l.prog w K mg base h X G;have mX:= @fnX_b l.prog w K mg base h X G;have a52:=mB P1 (by walk_at "b1") bJ4 ag (λ_ _ _ _ _ _ hr=>d36 Z hr) dD8
 have qW:=mB P2 aj cE2 ag (λ_ _ _ _ _ _ hr=>c39 Z hr) cA5
 have d8:=mB P3 aj eH ag (λ_ _ _ _ _ _ hr=>aX6 Z a52 hr) aZ5
 have oM:=mB P4 aj tF ag (λ_ _ _ _ _ _ hr=>bO2 Z hr) c14
 have oK:=mB P6 aj c35 ag (λ_ _ _ _ _ _ hr=>bO3 Z hr) c04
 have d46:Fn l.prog w K mg base "det" jP 1 (fZ 0):=Fn.void U5 (cC X G h5.1) (U5.binds (ps:=jP)<|by walk_at "b1") cK8
 have d47:Fn l.prog w K mg base "det" jP 2 (fZ 1):=Fn.mk' U5 (cC X G h5.1) (U5.binds (ps:=jP)<|by walk_at "b1") pA (aG7 _) (λcdv A outer s H E hr=>aH8 Z ac d46 oK hr) (aU3 0 ac)
 have d48:Fn l.prog w K mg base "det" jP 3 (fZ 2):=Fn.mk' U5 (cC X G h5.1) (U5.binds (ps:=jP)<|by walk_at "b1") pA (aG7 _) (λcdv A outer s H E hr=>aH8 Z ac d47 oK hr) (aU3 1 ac)
 have d49:Fn l.prog w K mg base "det" jP 4 (fZ 3):=Fn.mk' U5 (cC X G h5.1) (U5.binds (ps:=jP)<|by walk_at "b1") pA (aG7 _) (λcdv A outer s H E hr=>aH8 Z ac d48 oK hr) (aU3 2 ac)
 have d50:Fn l.prog w K mg base "det" jP 5 (fZ 4):=Fn.mk' U5 (cC X G h5.1) (U5.binds (ps:=jP)<|by walk_at "b1") pA (aG7 _) (λcdv A outer s H E hr=>aH8 Z ac d49 oK hr) (aU3 3 ac)
 have wI:=d50;have c42:=mB P7 (by walk_at "b3") dK0 ag (λ_ _ _ _ _ _ hr=>d37 Z hr) dG1
 have bL0:=mB P8 (by walk_at "b3") d27 ag (λ_ _ _ _ _ _ hr=>cO1 Z hr) d11
 have aE8:=mB P12 aj a47 ag (λ_ _ _ _ _ _ hr=>bO4 Z hr) c17
 have iB:=mB P13 aj xN ag (λ_ _ _ _ _ _ hr=>bK3 Z aE8 hr) bN0
 have mG:=mB P9 (by walk_at "b3") aR5 ag (λ_ _ _ _ _ _ hr=>cF0 Z iB hr) cM1
 have eY:=mB P11 aj bJ5 ag (λ_ _ _ _ _ _ hr=>b82 Z qW hr) bG1
 have b29:=mB P10 (by walk_at "b3") a46 ag (λ_ _ _ _ _ _ hr=>cF1 Z eY mG hr) cM6
 have bL1:=mB P14 aj d28 ag (λ_ _ _ _ _ _ hr=>cO2 Z wI iB hr) d15
 have b28:=mB P15 aj bJ6 ag (λ_ _ _ _ _ _ hr=>cF2 Z iB hr) cM8
 have c41:=mB P16 aj yX ag (λ_ _ _ _ _ _ hr=>d38 Z b28 b29 hr) dH7
 have bL2:=mB P17 aj tN ag (λ_ _ _ _ _ _ hr=>cO3 Z c41 eY c42 mG bL0 hr) d20
 have b31:=mX P18 (by walk_at "b3") b24 rfl cC2 (λ_ _ _ _ _ _ hr=>cF3 Z lM nB kO mH eY bL1 mG bL2 hr) cN0
 have qY:=mB P19 (by walk_at "b1") aX1 ag (λ_ _ _ _ _ _ hr=>aR9 Z gK hr) aU4
 have dM:=mB P20 (by walk_at "b1") aI6 ag (λ_ _ _ _ _ _ hr=>aE5 Z qY hr) aI2
 have bL3:=mB P21 (by walk_at "b1") yY ag (λ_ _ _ _ _ _ hr=>cO4 Z hr) d07
 have iH:=mB P22 (by walk_at "b0") aX2 ag (λ_ _ _ _ _ _ hr=>aS0 Z iS vM hr) aU9
 have mI:=mB P24 (by walk_at "b1") xO ag (λ_ _ _ _ _ _ hr=>bK4 Z hr) bM8
 have pE:=mB P25 (by walk_at "b1") o9 ag (λ_ _ _ _ _ _ hr=>aI8 Z mI oM d8 hr) aQ1
 have a53:=mB P27 aj xP ag (λ_ _ _ _ _ _ hr=>bK5 Z bL3 hr) bM9
 have lN:=mB P26 (by walk_at "b1") gB ag (λ_ _ _ _ _ _ hr=>a50 Z mI a53 hr) a77
 have b30:=mB P23 (by walk_at "b1") aR6 ag (λ_ _ _ _ _ _ hr=>cF4 Z dM pE lN hr) cL9
 have xU:=mB P29 aj jS ag (λ_ _ _ _ _ _ hr=>b83 Z hr) bD7
 have aF0:=mB P28 (by walk_at "b1") a48 ag (λ_ _ _ _ _ _ hr=>bO5 Z dM xU wI hr) c05
 have fU:=mB P30 aj bN5 ag (λ_ _ _ _ _ _ hr=>bK6 Z a52 hr) bM5
 have vN:=mB P33 aj nF ag (λ_ _ _ _ _ _ hr=>b26 Z hr) b73
 have a54:=mB P32 (by walk_at "b3") cE3 ag (λ_ _ _ _ _ _ hr=>c40 Z fU hr) c95
 have vO:=mB P31 (by walk_at "b3") kL ag (λ_ _ _ _ _ _ hr=>b25 Z fU vN d8 a54 hr) b74
 have xV:=mB P35 aj iR ag (λ_ _ _ _ _ _ hr=>b84 Z oM vO hr) bE6
 have lP:=mB P37 aj eU ag (λ_ _ _ _ _ _ hr=>a51 Z hr) a79
 have oA:=mB P36 aj sX ag (λ_ _ _ _ _ _ hr=>aE6 Z lP hr) aI3
 have a56:=mB P34 aj xQ ag (λ_ _ _ _ _ _ hr=>bK7 Z iH xV fU oA hr) bM6
 have a55:=mB P39 aj bN6 ag (λ_ _ _ _ _ _ hr=>bK8 Z a56 d8 hr) bM7
 have xW:=mB P38 aj bJ7 ag (λ_ _ _ _ _ _ hr=>b85 Z iH a55 hr) bE8
 have vP:=mB P40 aj iX ag (λ_ _ _ _ _ _ hr=>b27 Z d8 hr) b76
 have oC:=mX P41 (by walk_at "b1") vH rfl aB6 (λ_ _ _ _ _ _ hr=>aE7 Z fV mJ a57 b30 hr) aI4
 have sK:=mX P42 aj nG rfl aV1 (λ_ _ _ _ _ _ hr=>aX7 Z lQ qZ aS1 vP xW qW hr) b00
 have sJ:=mB P43 aj dV9 ag (λ_ _ _ _ _ _ hr=>dK6 Z hr) dS6
 have aH9:=mB P44 (by walk_at "b3") bJ8 ag (λ_ _ _ _ _ _ hr=>d39 Z hr) dC9
 have j7:=mB P45 (by walk_at "b3") yZ ag (λ_ _ _ _ _ _ hr=>d40 Z aH9 hr) dD0
 have aI0:=mB P46 aj a49 ag (λ_ _ _ _ _ _ hr=>cF5 Z hr) cM2
 have cO7:=mB P47 aj aH6 ag (λ_ _ _ _ _ _ hr=>dK7 Z j7 aI0 hr) dU6
 have a58:=mB P48 (by walk_at "b1") xR ag (λ_ _ _ _ _ _ hr=>bK9 Z aH9 hr) bN2
 have okR:OkC K rB ["poly","degree","measure"]:=⟨⟨pg_Ring,c48,po_Ring,c49⟩,λf hf=>by
  simp only[aZ,eB,eG]at hf;rcases hf with rfl|rfl|rfl
  .exact c50
  .exact b34
  .exact aS3⟩
 have fR:=dC5 UR cW4 okR ac ac ac d09 ac (λcdv A outer s H E hr=>d45 Z fF i7 rA dM aF0 oC sK hr) dF7
 have bR:=UR.binds (ps:=["self","poly"]) λ_ _ _ _ _ _ us hl=>match us,hl with| [_,_],_=>rfl
 have bA6:MkX l.prog w K mg base "Ring" 10 ["poly","degree","measure"] yO:=⟨rB,aX9,_,["self","poly"],Mk.mk mk_Ring c45 fn_Ring kc_Ring,okR,fR,bR,bL6⟩;have cO8:=mB P49 (by walk_at "b3") aH7 ag (λ_ _ _ _ _ _ hr=>dK8 Z lU rV r6 bA6 cO7 sJ a58 hr) dU4
 have aE9:=mB P50 (by walk_at "b3") gY ag (λ_ _ _ _ _ _ hr=>cO5 Z j7 hr) d14
 have cW6:=mB P51 (by walk_at "b3") cN6 ag (λ_ _ _ _ _ _ hr=>dW3 Z j7 hr) rd_few
 have tG:=mB P52 (by walk_at "b3") rT ag (λ_ _ _ _ _ _ hr=>d41 Z hr) dG3
 have dX5:Fn l.prog w K mg base "_law_det" qV 1 (lJ 0):=Fn.void U53 (cC X G h53.1) (U53.binds (ps:=qV)<|by walk_at "b1") dH2
 have dX6:Fn l.prog w K mg base "_law_det" qV 2 (lJ 1):=Fn.mk' U53 (cC X G h53.1) (U53.binds (ps:=qV)<|by walk_at "b1") aE2 (bA2 _) (λcdv A outer s H E hr=>bA5 Z ac dX5 hr) (c24 0 ac)
 have dX7:Fn l.prog w K mg base "_law_det" qV 3 (lJ 2):=Fn.mk' U53 (cC X G h53.1) (U53.binds (ps:=qV)<|by walk_at "b1") aE2 (bA2 _) (λcdv A outer s H E hr=>bA5 Z ac dX6 hr) (c24 1 ac)
 have dX8:Fn l.prog w K mg base "_law_det" qV 4 (lJ 3):=Fn.mk' U53 (cC X G h53.1) (U53.binds (ps:=qV)<|by walk_at "b1") aE2 (bA2 _) (λcdv A outer s H E hr=>bA5 Z ac dX7 hr) (c24 2 ac)
 have dX9:Fn l.prog w K mg base "_law_det" qV 5 (lJ 4):=Fn.mk' U53 (cC X G h53.1) (U53.binds (ps:=qV)<|by walk_at "b1") aE2 (bA2 _) (λcdv A outer s H E hr=>bA5 Z ac dX8 hr) (c24 3 ac)
 have bW0:=dX9;have c44:=mB P54 aj vI ag (λ_ _ _ _ _ _ hr=>d42 Z tG hr) dH1
 have c43:=mB P55 (by walk_at "b1") dK1 ag (λ_ _ _ _ _ _ hr=>d43 Z hr) dD3
 have dL1:=mB P56 aj sc_row ag (λ_ _ _ _ _ _ hr=>dW4 Z c43 hr) rd_row
 have aX8:=mB P57 (by walk_at "b1") d29 ag (λ_ _ _ _ _ _ hr=>cO6 Z hr) d23
 have a59:=mB P58 (by walk_at "b3") vJ ag (λ_ _ _ _ _ _ hr=>d44 Z kO mH lM nB lW i7 r8 fV KX_NotHeld U1_NotHeld KX_Nought U1_Nought NU_NotHeld ki_NotHeld_ValueError ki_NotHeld_Nought_NotApart_TooGreat_NoPrime ki_Nought_ValueError ki_Nought_NotApart_TooGreat_FallsApart b31 hr) dI5
 have dL2:=mB P59 (by walk_at "b3") aE3 ag (λ_ _ _ _ _ _ hr=>dW5 Z c44 bW0 tG hr) rd_due
 have b32:=mB P60 (by walk_at "b3") cW3 ag (λ_ _ _ _ _ _ hr=>dK9 Z a59 dL1 dL2 hr) dV7
 exact bY5 U61 pB dS8 (λcdv A outer s H E hr=>⟨c32,dW6 Z cO8 aX8 aE9 sJ tG a59 j7 cW6 b32 hr,rd_law⟩)
end M
open PySem PySem.W PyProof.Rows
local macro_rules| `(tactic| walk_at "f")=> `(tactic| (refine' M.fnAt ?x1 ?x2 ?x3 ?x4;(case x1=>k_is);(case x2=>k_is);(case x3=>k_is);(case x4=>k_is)))
namespace PySem.W.Fast
def tw3145519201485778979:=()
def tw6411274359301175395:=()
def tw13036513271309849824:=()
def tw15864165845266814398:=()
def tw11271070795175304693:=()
def tw3409298896302420766:=()
def tw13305375042548154249:=()
def tw8259057529582814065:=()
def tw7740404216276618663:=()
def tw597389320373354891:=()
def tw12471826729217381857:=()
def tw164836917936086295:=()
def tw14403887419631461877:=()
def tw4387846243217850108:=()
def tw8433646935449877670:=()
def tw16656470368860165517:=()
def tw4257989659563587790:=()
def tw12708797565811187137:=()
def tw15374036348053494657:=()
def tw18379179616428356902:=()
def tw854281165856925159:=()
def tw6298590484032127126:=()
def tw7159847554283989378:=()
def tw4624375294020752918:=()
def tw12437244930116486275:=()
def tw623172015437780459:=()
def tw9484079849757902:=()
def tw14716146439646357045:=()
def tw10831790980360283292:=()
def tw15704134967847421330:=()
def tw14289667667729293793:=()
def tw11644848572406233876:=()
def tw4499951238148703823:=()
def tw12039016061253691177:=()
def tw7654167165389061502:=()
def tw17067451968806383042:=()
def tw18279088370158264542:=()
def tw5225152295000490745:=()
def tw12699562210689896749:=()
def tw2407609194495155441:=()
def tw4204741874958672676:=()
def tw17045883206056065486:=()
def tw895955570659514979:=()
def tw11181794157498266759:=()
def tw4297678494936909342:=()
def tw15757423138096326491:=()
def tw3350180969824458187:=()
def tw12989340639394178000:=()
def tw3141585838260182589:=()
def tw13025893266336793080:=()
def tw5466044759342469547:=()
def tw9619784138958737354:=()
def tw2898114372645957742:=()
def tw2163395986005262937:=()
def tw2928014664098681647:=()
def tw7295361361979892144:=()
def tw7041438505553984361:=()
def tw5948772717357201981:=()
def tw1513213952132132013:=()
def tw7537605248278127539:=()
def tw7112527025068197888:=()
def tw1335807783323669558:=()
def tw9875299042720908350:=()
def tw10850981030989075059:=()
def tw3938787203791997024:=()
def tw17950264663000359014:=()
def tw4941914752780932922:=()
def tw1087352491813864232:=()
def tw9043851322269617857:=()
def tw5235307308364498245:=()
def tw14716001488346883081:=()
def tw1187467750002865408:=()
def tw15818161178083331002:=()
def tw2082981699991383578:=()
def tw9612728176135472565:=()
def tw10977291500482093590:=()
def tw14802770396308779729:=()
def tw13741586050267818017:=()
def tw16446267441296072983:=()
def tw451576582239497038:=()
def tw14920785965691268483:=()
def tw7771245156793955559:=()
def tw6510186932310593490:=()
def tw11040501946724686620:=()
def tw8579827719604293944:=()
def tw17125144123482922550:=()
def tw5057970596794535208:=()
def tw8743873613445405990:=()
def tw11680117136250708878:=()
def tw7475346704308495659:=()
def tw8230097797777723728:=()
def tw13641532782668854529:=()
def tw1775357677123751000:=()
def tw2307576563579382499:=()
def tw12164208118061118556:=()
def tw3557639783146403965:=()
def tw6434546988654228616:=()
def tw3273697014571850929:=()
def tw17483716949765707421:=()
def tw17326946728891307115:=()
def tw14444875721018443189:=()
def tw12359221335464607305:=()
def tw11453711941837494445:=()
def tw9126994068348851873:=()
def tw9479240520605645375:=()
def tw15060076309821183031:=()
def tw13482975114883229309:=()
def tw9538664890979738353:=()
def tw11768898655173436467:=()
def tw12414666135321413764:=()
def tw4114576802016473816:=()
def tw10474327792467067886:=()
def tw5494521627414082269:=()
def tw16353243990041020207:=()
def tw9785115736966621901:=()
def tw12761405120929042508:=()
def tw11076797430511490979:=()
def tw17368546215533704051:=()
def tw7727270344535213377:=()
def tw11977218793827117230:=()
def tw17205057136243448508:=()
def tw7019543156227842880:=()
def tw11307239226866411522:=()
def tw1784619105582354921:=()
def tw7493400014394996672:=()
def tw13324128796694554816:=()
def tw8284581770332653887:=()
def tw2892296098630625996:=()
def tw18409837221791436023:=()
def tw12998977655176092002:=()
def tw7554652378756928080:=()
def tw18386313407001673143:=()
def tw13236376143707188068:=()
def tw13199567752519134894:=()
def tw10128214789878309304:=()
def tw1634055301665608767:=()
def tw8001131396470464272:=()
def tw5911415840594136150:=()
def tw12760223177518178773:=()
def tw971067325020607786:=()
def tw3113711813837467335:=()
def tw3270966595735299673:=()
def tw2095406561493725070:=()
def tw358578572587961344:=()
def tw1486425784786445087:=()
def tw7957439692632675923:=()
def tw2406277289928387238:=()
def tw12847480423948373059:=()
def tw15287556478173406241:=()
def tw10134585734647679991:=()
def tw11765724364169106224:=()
def tw6134750959531593184:=()
def tw7332671829634678079:=()
def tw16137641746189781370:=()
def tw12476842369429981256:=()
def tw2845764448913698434:=()
def tw3297336480300763322:=()
def tw6837132862959452265:=()
def tw1721661380991940849:=()
def tw10573770514612577759:=()
def tw13604420514429683219:=()
def tw17537435284056269206:=()
def tw14031021453697133756:=()
def tw9941062345690581437:=()
def tw324946772330095510:=()
def tw14339148571122576367:=()
def tw17714437298613329357:=()
def tw4522018541271663538:=()
def tw8210825858451637391:=()
def tw1739666662207345966:=()
def tw6410188429965387523:=()
def tw3457571431504026980:=()
def tw17333329958837752026:=()
def tw3467785643128269354:=()
def tw4279097540638852478:=()
def tw5966232433586467514:=()
def tw3386004511264065663:=()
def tw6126338879728302037:=()
def tw11587563372573535086:=()
def tw16594250308698326907:=()
def tw3850426675969742409:=()
def tw2756706460205311002:=()
def tw5011469988620419531:=()
end PySem.W.Fast
set_option maxRecDepth 100000 in
set_option maxHeartbeats 0 in
theorem PySem.Challenge.cw_ringhouse_k23_over_holds : PySem.Challenge.rw_ringhouse_k23_over.Holds := by
 w_on;o_law;k_head;(case hw=>w_witness2)
 k_fill
 refine M.walkM (l:=PySem.Challenge.rw_ringhouse_k23_over) (k:=13) (x:="_law_script") rfl rfl ⟨rfl,ac,ac⟩ (λw h Y=>PySem.W.kIn_of Y) ?F
 case F=>
  intro w mg fa h KX G hmg
  refine' M.all_mk KX G hmg ?P1 ?P2 ?P3 ?P4 ?P5 ?P6 ?P7 ?P8 ?P9 ?P10 ?P11 ?P12 ?P13 ?P14 ?P15 ?P16 ?P17 ?P18 ?P19 ?P20 ?P21 ?P22 ?P23 ?P24 ?P25 ?P26 ?P27 ?P28 ?P29 ?P30 ?P31 ?P32 ?P33 ?P34 ?P35 ?P36 ?P37 ?P38 ?P39 ?P40 ?P41 ?P42 ?P43 ?P44 ?P45 ?P46 ?P47 ?P48 ?P49 ?P50 ?P51 ?P52 ?P53 ?P54 ?P55 ?P56 ?P57 ?P58 ?P59 ?P60 ?P61 ?kO ?lM ?fV ?lQ ?i7 ?lU ?lW ?r8 ?bL6 ?aL5 ?b67 ?c45 ?a61 ?aS2 ?cO9 ?xX ?xY ?aF1 ?aF2 ?c46 ?c47 ?mJ ?qZ ?mH ?nB ?rA ?rV ?a62 ?zA ?rG ?wJ ?aF3 ?jU ?kS ?kT ?se_NotHeld ?se_Nought ?nu_NotHeld_Nought ?kg_NotHeld ?kh_NotHeld ?ka_NotHeld ?kn_NotHeld ?kt_NotHeld ?km_NotHeld ?kb_NotHeld ?kg_Nought ?kh_Nought ?ka_Nought ?kn_Nought ?kt_Nought ?km_Nought ?kb_Nought ?ki_NotHeld_ValueError ?ki_NotHeld_Nought_NotApart_TooGreat_NoPrime ?ki_Nought_ValueError ?ki_Nought_NotApart_TooGreat_FallsApart ?xZ ?y8 ?y9 ?yA ?yB ?aF4 ?aF5 ?aF6 ?aF7 ?aF8 ?mk_Ring ?fn_Ring ?kc_Ring ?pg_Ring ?c48 ?po_Ring ?c49 ?c50 ?b34 ?aS3 ?dL3 ?dL4 ?cP0 ?aS4 ?c51 ?aF9 ?c52 ?dL5 ?dL6 ?dL7 ?dL8 ?dL9 ?dM0 ?bL7 ?dM1 ?a63 ?cP1 ?a64 ?gK ?fF ?iS ?sL ?sM ?sO
  (case P1|P2|P3|P4|P5|P6|P7|P8|P9|P10|P11|P12|P13|P14|P15|P16|P17|P18|P19|P20|P21|P22|P23|P24|P25|P26|P27|P28|P29|P30|P31|P32|P33|P34|P35|P36|P37|P38|P39|P40|P41|P42|P43|P44|P45|P46|P47|P48|P49|P50|P51|P52|P53|P54|P55|P56|P57|P58|P59|P60|P61=>walk_at "f");(case kO|lM|fV|lQ|i7|lU|lW|r8|bL6|aL5|b67|c45|a61|aS2|cO9|xX|xY|aF1|aF2|c46|c47|a62|zA|rG|wJ|aF3|kg_NotHeld|kh_NotHeld|ka_NotHeld|kn_NotHeld|kt_NotHeld|km_NotHeld|kb_NotHeld|kg_Nought|kh_Nought|ka_Nought|kn_Nought|kt_Nought|km_Nought|kb_Nought|y9|yA|yB|aF6|aF7|aF8|mk_Ring|fn_Ring|kc_Ring|pg_Ring|c48|po_Ring|c49|c50|b34|aS3|dL3|dL4|cP0|aS4|c51|aF9|c52|dL5|dL6|dL7|dL8|dL9|dM0|bL7|dM1|a63|cP1|a64|gK|fF|iS|sL=>k_is);(case mJ|qZ=>first|kernel_rfl|rfl);(case mH|nB|rA|rV=>k_exc);(case jU|kS|kT|se_NotHeld|se_Nought|nu_NotHeld_Nought|xZ|y8|aF4|aF5=>first|kernel_rfl|rfl|decide);(case ki_NotHeld_ValueError|ki_NotHeld_Nought_NotApart_TooGreat_NoPrime|ki_Nought_ValueError|ki_Nought_NotApart_TooGreat_FallsApart=>first|k_is|kernel_rfl|rfl);(case sM=>first|decide| (trace_state;decide +kernel));(case sO=>first| (show L2.Vals (List.map _ _) (List.toList _);simp only[M.T_SMALL_PRIMES,List.map];repeat (first|exact .nil|refine .cons (.int _ _) ?_))| (repeat constructor)|trace_state)
