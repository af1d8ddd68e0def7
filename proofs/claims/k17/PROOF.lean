import PyProof.Rows.All
import Wide.All
import OpenK.AllK
import Wide.FinOn
import Lean
import PyProof.EqAt
import PyProof.EqKinds
import PyProof.TupleCall
import PySem.Challenge.RW_ringhouse_k17_whole_no_quotient
set_option Elab.async false
set_option linter.all false
open PySem.W (instObj methodObj Frag lookIn InstAt plainGet hasDictIn findIn plainOver takerIn makesIn emptyDict keepIn fnOf codeIn excIn clsIn nsIn)
open List (set_cons_zero set_cons_succ replicate all_cons any_cons foldl forIn_nil drop_one all_map Nodup)
open Nat (le_of_eq mul_comm one_mul sub_zero reduceEqDiff reduceSub)
open Int (natAbs_neg neg_neg mul_pos le_total mul_nonneg dvd_add dvd_zero)
open PySem.Heap (SameBut ExtBut FlyingW HeldW MadeExcOf)
open Option (getD_none bind_some)
open Array (toList)
set_option maxRecDepth 100000
set_option compiler.extract_closed false
set_option bootstrap.genMatcherCode false
local macro_rules | `(tactic| walk_at "z") => `(tactic| first|exact .inl rfl|exact .inr rfl|assumption)
def aa{p:Prop}(h:p:=by omega):p:=h
def ac{p:Prop}(h:p:=by decide):p:=h
def ad{p:Prop}(h:p:=by lia):p:=h
def ae{p:Prop}(h:p:=by simp):p:=h
def af{p:Prop}(h:p:=by decide +kernel):p:=h
def ag{p:Prop}(h:p:=by walk_at "n"):p:=h
def ah{p:Prop}(h:p:=by walk_at "b2"):p:=h
def aG:= @List.getD_eq_getElem?_getD
def a8:= @PySem.wpAny_bind
def aJ:= @List.getElem?_eq_getElem
def a6:= @if_neg
def aC:= @List.length_map
def a7:= @if_pos
def aO:= @PySem.Heap.get?_push_of_some
def aB:= @Nat.le_refl
def aI:= @PySem.wpAny_pure
def aT:= @List.range_succ
def aX:= @Nat.lt_of_lt_of_le
def aL:= @Nat.le_trans
def bF:= @List.mem_cons_of_mem
def aQ:= @PySem.Heap.lt_size
def b9:= @List.size_toArray
def bI:= @Bool.false_ne_true
def bZ:= @Int.dvd_of_emod_eq_zero
def bJ:= @List.getElem?_map
def bC:= @List.mem_append
def aY:= @List.mem_cons
def bY:= @PySem.Heap.get?_push_size
def bM:= @List.map_append
def bD:= @Int.mul_zero
def bT:= @List.getElem_mem
def cD:= @List.mem_cons_self
def dR:= @Int.emod_eq_zero_of_dvd
def cP:= @Int.emod_lt_of_pos
def bK:= @Nat.ne_of_lt
def cY:= @List.length_append
def bN:= @Int.zero_add
def cZ:= @Int.toNat_natCast
def cQ:= @Nat.zero_lt_succ
def d5:= @List.lookup_cons
def eM:= @List.forall_mem_cons
def cR:= @Int.emod_nonneg
def bL:= @PySem.wpAny_mono
def dO:= @Int.emod_eq_of_lt
def dD:= @List.all_eq_true
def fT:= @List.mem_append_right
def cJ:= @Int.zero_emod
def cS:= @PySem.W.mg_of
def dS:= @Bool.and_eq_true
def dE:= @List.mem_range
def cL:= @Int.pow_zero
def d6:= @List.map_cons
def eN:= @List.not_mem_nil
def cT:= @Int.zero_mul
def fU:= @PySem.W.mg_none_of
def j0:= @Int.eq_of_mul_eq_mul_left
def dI:= @Nat.lt_irrefl
def jN:= @PyProof.Rows.callWith_type1
def gT:= @Int.mul_ediv_cancel'
def fV:= @decide_eq_true_eq
def fF:= @decide_eq_false
def fG:= @List.length_set
def d7:= @PySem.wpAny_field
def aC8:= @set_cons_zero
def aC9:= @set_cons_succ
def bU:= @congrArg
def dU:= @List.mem_map
def kN:= @List.getElem?_eq_some_iff
def fW:= @Int.natAbs_mul
def gF:= @Option.some.inj
def cU:= @And.right
def kO:= @PySem.wpAny_callSpecial?_slot
def gG:= @decide_eq_true
def j1:= @List.length_cons
def eO:= @Nat.zero_le
def oY:= @Int.mul_le_mul_of_nonneg_left
def jO:= @List.filterMap_cons
def jP:= @List.replicate_succ
def iE:= @List.append_nil
def jQ:= @List.mem_singleton
def kP:= @PySem.Heap.get?_none_of_le
def j2:= @PySem.wpAny_call_entry
def gH:= @Int.add_zero
def gI:= @Int.mul_emod
def jR:= @PySem.wpAny_newObj_type
def jS:= @PySem.wpAny_loadPart'
def oZ:= @Classical.byContradiction
def mW:= @List.getElem?_eq_none
def jT:= @List.ext_getElem
def gU:= @List.map_map
def gW:= @Int.pow_succ
def j3:= @PySem.Heap.size_push
def pA:= @List.getElem?_cons_zero
def pB:= @Int.dvd_mul_of_dvd_left
def kQ:= @Nat.lt_succ_of_lt
def jU:= @PySem.PassesOwn.never
def iF:= @Int.add_emod
def j4:= @PySem.wpAny_holding
def gJ:= @beq_iff_eq
def sY:= @List.getElem?_append_right
def j5:= @Int.emod_emod
def xK:= @PySem.F.slot_tuple_iterator_next
def eS:= @or_false
def pC:= @PySem.Heap.get?_update_self
def pE:= @Bool.beq_eq_decide_eq
def jV:= @Nat.mul_le_mul
def mY:= @Nat.lt_of_le_of_lt
def mZ:= @Nat.add_sub_cancel
def xL:= @PyProof.Rows.slot_tuple_getitem
def iG:= @Int.mul_one
def iH:= @Int.one_mul
def pF:= @PySem.wpAny_loadName_local
def j6:= @List.map_nil
def pG:= @Nat.pow_le_pow_right
def n6:= @List.flatten_cons
def n8:= @PySem.wpAny_loadPart_at
def nA:= @List.length_range
def jW:= @Int.mul_assoc
def jX:= @Int.le_of_dvd
def sZ:= @List.length_eq_zero_iff
def pH:= @beq_eq_false_iff_ne
def pI:= @PySem.mem_of_lookup
def pJ:= @Nat.mul_le_mul_left
def pK:= @Int.toNat_of_nonneg
def eU:= @if_true
def nB:= @List.length_drop
def kR:= @PySem.wpAny_seqItems
def pL:= @PySem.wpAny_Call_Name_kw
def pM:= @PySem.Obj.data_mapFields
def pN:= @PySem.wpAny_setField_rec
def jY:= @Int.dvd_refl
def nE:= @List.mem_filter
def nG:= @PySem.wpAny_execs_nil
def nI:= @PySem.wpAny_passesOwn
def t6:= @Int.emod_add_mul_ediv
def xM:= @List.length_eraseIdx_of_lt
def kS:= @Nat.add_assoc
def xN:= @PySem.F.excBase_ValueError
def pO:= @PySem.Heap.get?_push_ne
def pP:= @of_decide_eq_true
def xO:= @List.getElem?_append_left
def xP:= @Decidable.byContradiction
def jZ:= @PySem.wpAny_of_eq
def nJ:= @Bool.false_xor
def pQ:= @Nat.lt_succ_self
def pR:= @List.length_take
def xQ:= @List.mem_of_mem_eraseIdx
def t7:= @PySem.Heap.SameBut.update
def t9:= @List.map_congr_left
def aD0:= @PySem.plainObj_wpAny_Assign_Attribute
def xR:= @List.pairwise_singleton
def tD:= @PySem.W.of_hideAll
def iI:= @if_false
def xS:= @List.take_of_length_le
def kT:= @Nat.pow_add
def nM:= @Nat.le_of_lt
def xT:= @PySem.F.slot_zip_next
def pS:= @PySem.isSubtype_type
def xU:= @PySem.builtinLookup_eq_fast
def xV:= @List.mem_append_left
def tE:= @PySem.wpAny_execs_cons
def j7:= @Prod.ext
def kU:= @PySem.call_meets
def tF:= @PySem.Heap.size_update
def xW:= @Nat.mul_le_mul_right
def pT:= @PySem.wpAny_standAt
def pU:= @Bool.true_xor
def pX:= @List.map_take
def xX:= @PySem.Heap.get?_update_ne
def xY:= @PySem.wpAny_isSubtype_exc
def xZ:= @List.getElem_of_mem
def tG:= @Bool.eq_iff_iff
def tH:= @Nat.min_eq_left
def tI:= @Nat.one_ne_zero
def pY:= @Nat.ne_of_gt
def aD1:= @PySem.F.args_tuple_add_2
def aD2:= @PySem.AutoSeq1.wpAny_loadPart'
def aD3:= @PySem.F.args_tuple_mul_2
def pZ:= @Nat.sub_self
def qA:= @Int.mul_comm
def y8:= @List.append_of_mem
def nN:= @PySem.wpAny_Name
def tJ:= @PySem.wpAny_setField
def aD4:= @PySem.F.entry_tuple_add
def aD5:= @PySem.F.entry_tuple_mul
def aD6:= @List.getElem?_cons_succ
def aD7:= @decide_eq_false_iff_not
def y9:= @PySem.wpAny_truthy_bool
def yA:= @Int.natAbs_add_le
def aD8:= @PySem.wpAny_pyIter_rangeiter
def aD9:= @PySem.W.cellsFrom_some
def aE0:= @PySem.F.slot_tuple_add
def aE1:= @PySem.Heap.get?_update_other
def aE2:= @PySem.F.slot_tuple_mul
def tK:= @PySem.wpAny_attempt
def tL:= @List.map_drop
def aE3:= @List.length_replicate
def aE4:= @List.length_singleton
def aE5:= @PySem.Obj.isFreed_of_fields
def tM:= @PySem.codeAny_mono
def yB:= @List.nodup_cons
def yC:= @List.of_mem_zip
def aE6:= @List.mem_of_getElem?
def aE7:= @PySem.Calls.evalArgs_plain
def tN:= @Nat.add_comm
def yD:= @List.nil_append
def yE:= @List.forIn_cons
def qB:= @PySem.wpAny_rule
def aE8:= @PySem.wpAny_updateSeq_pair
def yF:= @PySem.typeLookup_type
def yG:= @List.sum_append
def aE9:= @Nat.pow_lt_pow_right
def yH:= @Bool.or_eq_true
def aF0:= @List.pairwise_append
def aF1:= @Array.length_toList
def aF2:= @PySem.W.looks_clsIn
def yI:= @Int.mul_le_mul
def tO:= @Nat.le_succ
def tP:= @Int.mul_add
def aF3:= @List.mem_filterMap
def aF4:= @PySem.W.callWith_K
def aF5:= @List.zip_cons_cons
def aF6:= @List.contains_cons
def aF7:= @List.pairwise_cons
def aF8:= @List.filter_append
def yJ:= @PySem.wpAny_onRaise
def yK:= @Bool.true_and
def aF9:= @List.getElem?_set
def aG0:= @PySem.wpAny_pyIter_list
def aG1:= @Bool.not_eq_true'
def aG2:= @Nat.le_succ_of_le
def aG3:= @Int.lt_trichotomy
def tQ:= @PySem.wpAny_call
def tT:= @PySem.typeIs_int
def aG4:= @PySem.noFill_tuple_add
def yL:= @PySem.wpAny_typeOf
def yM:= @PySem.seqIndex_neg
def aG5:= @PySem.AutoSeq1.idx_int
def aG6:= @beq_self_eq_true
def yN:= @Nat.pow_succ
def yO:= @Nat.mul_succ
def yP:= @Int.sub_emod
def yQ:= @Int.add_comm
def tU:= @PyProof.Rows.IsTup.new
def aG7:= @PySem.pushCells_keeps
def aG8:= @Int.natCast_mul
def yR:= @PySem.seqIndex_of
def yS:= @Int.add_mul
def yT:= @Int.pow_one
namespace L2
open PySem PySem.Spec PyProof.Rows
abbrev Key:=Sum Int Str
noncomputable def dC7:Key->Value->Bool
 | .inl k,v=>Value.isInt k v
 | .inr x,v=>Value.isStrOf x v
noncomputable def keyH (w:World):Key->Int
 | .inl k=>hashInt k
 | .inr x=>hashStr w x
theorem iS: ∀{k:Key} {v:Value},dC7 k v=true->(∃i t,k=Sum.inl i/\v=Value.int i t)\/(∃x t,k=Sum.inr x/\v=Value.str x t)
 | .inl i,v,h=>by
  obtain⟨t,e⟩:=Value.isInt_shape (k:=i) (v:=v) h;exact .inl ⟨i,t,rfl,e⟩
 | .inr x,v,h=>by
  obtain⟨t,e⟩:=Value.isStrOf_shape (x:=x) (v:=v) h;exact .inr ⟨x,t,rfl,e⟩
theorem key_ll (a b:Int):decide ((Sum.inl a:Key)=Sum.inl b)=(a==b):=by
 by_cases e:a=b
 ·subst e;simp
 ·have h: ¬(Sum.inl a:Key)=Sum.inl b:=λq=>e (Sum.inl.inj q)
  rw[fF h];exact(pH.mpr e).symm
theorem key_rr (a b:Str):decide ((Sum.inr a:Key)=Sum.inr b)=decide (a=b):=by
 by_cases e:a=b
 ·subst e;simp
 ·have h: ¬(Sum.inr a:Key)=Sum.inr b:=λq=>e (Sum.inr.inj q)
  rw[fF h,fF e]
theorem key_lr (a:Int)(b:Str):decide ((Sum.inl a:Key)=Sum.inr b)=false:=fF (λq=>nomatch q)
theorem key_rl (a:Str)(b:Int):decide ((Sum.inr a:Key)=Sum.inl b)=false:=fF (λq=>nomatch q)
noncomputable def c80 (prog:Program)(w:World):PySem.KeyKind prog w Key where
 is:=dC7
 hash:=keyH w
 inj:=λv a b ha hb=>by
  rcases iS ha with⟨i,t,rfl,rfl⟩| ⟨x,t,rfl,rfl⟩
  ·rcases iS hb with⟨j,u,rfl,e⟩| ⟨y,u,rfl,e⟩
   ·injection e with e1 _;rw[e1]
   ·exact nomatch e
  ·rcases iS hb with⟨j,u,rfl,e⟩| ⟨y,u,rfl,e⟩
   ·exact nomatch e
   ·injection e with e1 _;rw[e1]
 byValue:=λk v h=>by
  rcases iS h with⟨i,t,rfl,rfl⟩| ⟨x,t,rfl,rfl⟩<;>rfl
 pyHash:=λhv h=>by
  rcases iS hv with⟨i,t,rfl,rfl⟩| ⟨x,t,rfl,rfl⟩
  ·exact wpAny_pyHash_int h
  ·exact wpAny_pyHash_str h
 eqBool:=λhu hv h=>by
  rcases iS hu with⟨i,t,rfl,rfl⟩| ⟨x,t,rfl,rfl⟩
  ·rcases iS hv with⟨j,u,rfl,rfl⟩| ⟨y,u,rfl,rfl⟩
   ·rw[key_ll]at h;exact wpAny_eqBool_int h
   ·rw[key_lr]at h;exact SeqAt.EqAt.int_str i t y u _ _ _ _ h
  ·rcases iS hv with⟨j,u,rfl,rfl⟩| ⟨y,u,rfl,rfl⟩
   ·rw[key_rl]at h;exact SeqAt.EqAt.str_int x t j u _ _ _ _ h
   ·rw[key_rr]at h;exact wpAny_eqBool_str h
 «strs» :=λk x t v h=>by
  rcases iS h with⟨i,u,rfl,e⟩| ⟨y,u,rfl,e⟩
  ·exact nomatch e
  ·injection e with e1 _
   subst e1;cases v<;>rfl
end L2
namespace L2
open PySem PySem.Spec PyProof.Rows
inductive V where
 | non|bl (b:Bool)|int (i:Int)|str (x:Str)|byt (b:Array UInt8)|flt (b:UInt64)|ref (a:Addr)|ty (n:String)
 deriving DecidableEq
def RelV:V->Value->Prop
 | .non,u=>u=Value.none
 | .bl b,u=>u=Value.bool b
 | .int i,u=> ∃t,u=Value.int i t
 | .str x,u=> ∃t,u=Value.str x t
 | .byt b,u=> ∃t,u=Value.bytes b t
 | .flt b,u=> ∃t,u=Value.float b t
 | .ref a,u=>u=Value.ref a
 | .ty n,u=>u=Value.type n
abbrev Vals:List V->List Value->Prop:=Paired RelV
theorem Vals.length {xs:List V}{us:List Value}(r:Vals xs us):xs.length=us.length:=Paired.length r
theorem Vals.get: ∀{xs:List V} {us:List Value} {i:Nat} {x:V},Vals xs us->xs[i]? =some x-> ∃u,us[i]? =some u/\RelV x u
 | _,_,_,_,.nil,e=>by simp at e
 | _,_,0,_,.cons r _,e=>by simp at e;subst e;exact⟨_,rfl,r⟩
 | _,_,i+1,x,.cons _ t,e=>by
  obtain⟨u,h1,h2⟩:=Vals.get (i:=i) (x:=x) t (by simpa using e)
  exact⟨u,by simpa using h1,h2⟩
theorem Vals.set {x:V}{u:Value}(r:RelV x u): ∀{xs:List V} {us:List Value} (i:Nat),Vals xs us->Vals (xs.set i x) (us.set i u)
 | _,_,_,.nil=> .nil
 | _,_,0,.cons _ t=> .cons r t
 | _,_,i+1,.cons q t=> .cons q (Vals.set r i t)
theorem Vals.append: ∀{xs ys:List V} {us ws:List Value},Vals xs us->Vals ys ws->Vals (xs++ys) (us++ws)
 | _,_,_,_,.nil,s=>s
 | _,_,_,_,.cons r t,s=> .cons r (Vals.append t s)
theorem Vals.take: ∀{xs:List V} {us:List Value} (n:Nat),Vals xs us->Vals (xs.take n) (us.take n)
 | _,_,0,_=> .nil
 | _,_,_+1,.nil=> .nil
 | _,_,n+1,.cons r t=> .cons r (Vals.take n t)
theorem Vals.drop: ∀{xs:List V} {us:List Value} (n:Nat),Vals xs us->Vals (xs.drop n) (us.drop n)
 | _,_,0,r=>r
 | _,_,_+1,.nil=> .nil
 | _,_,n+1,.cons _ t=>Vals.drop n t
def c00:Option V->Option Value->Prop
 | some v,some u=>RelV v u
 | none,none=>True
 | _,_=>False
def KV {κ:Type}:List (κ×V)->List (κ×Value)->Prop:=Paired fun(p:κ×V) (q:κ×Value)=>p.1=q.1/\RelV p.2 q.2
noncomputable def kV:Key->V
 | .inl i=> .int i
 | .inr x=> .str x
inductive HO where
 | lst (xs:List V)
 | tup (xs:List V)
 | dK (kvs:List (Key×V))|dT (kvs:List (List Key×V))
 | set (S:Int->Bool) (n:Nat)
 | ins (C dx:Addr) (fs:List (Str×V))
 | own (x:Addr)
 | xd (fs:List (Str×V))
 | met (f x:Addr)
 | rng (lo hi:Int)
 | frz (o:Obj) (u:HO)
 | tbl (ps:Array Value)
 | ext (φ:Heap->Prop)
abbrev Hp:=Addr->Option HO
noncomputable def upd (H:Hp)(a:Addr)(o:HO):Hp:=λb=>if b=a then some o else H b
theorem iT {H:Hp}{a:Addr}{o:HO}:upd H a o a=some o:=by unfold upd;rw[a7 rfl]
theorem cE {H:Hp}{a b:Addr}{o:HO}(h:b≠a):upd H a o b=H b:=by unfold upd;rw[a6 h]
theorem d8 {H:Hp}{a b:Addr}{o:HO}(h:H a=some o)(h':H b=none):a≠b:=by
 intro e;subst e;rw[h]at h';cases h'
section
variable (P:Program)(w:World)
noncomputable def qX (H:Hp)(h:Heap)(a:Addr):HO->Prop
 | .lst xs=>xs.length<=sizeLine/\ ∃(its:List Value) (n:Nat),Vals xs its/\h.get? a=some {cls:= .type "list",data:= .seq its.toArray n}
 | .tup xs=>xs.length<=sizeLine/\ ∃its:List Value,Vals xs its/\IsTup h a its.toArray
 | .dK kvs=>kvs.length<=sizeLine/\(a==sysModules)=false/\ ∃vs,KV kvs vs/\h.DictOf (c80 P w) a vs
 | .dT kvs=>kvs.length<=sizeLine/\(a==sysModules)=false/\ ∃xs:List (List Key×Addr×Value),
   Paired (fun(p:List Key×V) (q:List Key×Addr×Value)=>p.1=q.1/\H q.2.1=some (.tup<|p.1.map kV)/\RelV p.2 q.2.2) kvs xs/\
   ∃o es ep,h.get? a=some o/\o.ExactDict/\o.data= .dict es ep/\es.toList=xs.map (entryOfKey<|tupleKind<|c80 P w)/\(xs.map (·.1)).Nodup
 | .set S n=>h.SetOf (intKind P w) a S n
 | .ins C dx fs=>H dx=some (.own a)/\fs.length<=1000/\dx≠a/\h.get? a=some (instObj C dx)/\
   ∃mA,h.Ns1 dx mA/\(∀f,c00 (fs.lookup f)<|mA f)/\PySem.Within mA (fs.map (·.1))
 | .own _=> ∃o,h.get? a=some o
 | .xd fs=> ∃mA,h.Ns1 a mA/\ ∀f,c00 (fs.lookup f) (mA f)
 | .rng lo hi=> ∃t u v,h.get? a=some {cls:= .type "range",data:= .fields #[.int lo t,.int hi u,.int 1 v]}
 | .frz o u=>h.get? a=some o/\qX H h a u
 | .tbl ps=>h.get? a=some {cls:= .none,data:= .fields ps}
 | .met f x=>h.get? a=some (methodObj (.ref f)<|.ref x)
 | .ext φ=>φ h/\(∃o,h.get? a=some o)/\ ∀h1 h2:Heap,φ h1->(∀o,h1.get? a=some o->h2.get? a=some o)->φ h2
def HOk (H:Hp)(h:Heap):Prop:= ∀a o,H a=some o->qX P w H h a o
end
section
variable {P:Program}{w:World}{H H':Hp}{h h':Heap}{a:Addr}{o:HO}
theorem qX.lt (x:qX P w H h a o):a<h.objs.size:=by
 cases o with
 | lst xs=>obtain⟨_,_,_,_,e⟩:=x;exact aQ e
 | tup xs=>obtain⟨_,_,_,p⟩:=x;exact p.lt
 | dK kvs=>obtain⟨_,_,_,_,o,_,_,e,_⟩:=x;exact aQ e
 | dT kvs=>obtain⟨_,_,_,_,o,_,_,e,_⟩:=x;exact aQ e
 | set S n=>obtain⟨o,_,_,_,e,_⟩:=x;exact aQ e
 | ins C dx fs=>obtain⟨_,_,_,e,_⟩:=x;exact aQ e
 | own y=>obtain⟨_,e⟩:=x;exact aQ e
 | xd fs=>obtain⟨_,⟨_,_,_,e,_⟩,_⟩:=x;exact aQ e
 | rng lo hi=>obtain⟨_,_,_,e⟩:=x;exact aQ e
 | frz ob u=>obtain⟨e,_⟩:=x;exact aQ e
 | tbl ps=>exact aQ (show h.get? a=some _ from x)
 | met f y=>exact aQ (show h.get? a=some _ from x)
 | ext φ=>obtain⟨_,⟨_,e⟩,_⟩:=x;exact aQ e
theorem Paired.mapP {α β:Type}{F G:α->β->Prop}: ∀{l₁:List α} {l₂:List β},Paired F l₁ l₂->(∀a b,F a b->G a b)->Paired G l₁ l₂
 | _,_,.nil,_=> .nil
 | _,_,.cons r t,f=> .cons (f _ _ r) (Paired.mapP t f)
theorem qX.stay (x:qX P w H h a o)(k: ∀b u,(b=a\/H b=some (.own a))->h.get? b=some u->h'.get? b=some u)
  (ho: ∀b,H b=some (.own a)->H' b=some (.own a)) (ht: ∀b xs,H b=some (.tup xs)->H' b=some (.tup xs)):qX P w H' h' a o:=by
 induction o with
 | lst xs=>obtain⟨z,its,n,r,e⟩:=x;exact⟨z,its,n,r,k _ _ (.inl rfl) e⟩
 | tup xs=>obtain⟨z,its,r,ob,e,c⟩:=x;exact⟨z,its,r,ob,k _ _ (.inl rfl) e,c⟩
 | dK kvs=>obtain⟨z,y,vs,r,ob,es,ep,e,c⟩:=x;exact⟨z,y,vs,r,ob,es,ep,k _ _ (.inl rfl) e,c⟩
 | dT kvs=>
  obtain⟨z,y,xs,r,ob,es,ep,e,c⟩:=x;exact⟨z,y,xs,Paired.mapP r λp q z=>⟨z.1,ht _ _ z.2.1,z.2.2⟩,ob,es,ep,k _ _ (.inl rfl) e,c⟩
 | set S n=>obtain⟨ob,es,ep,t,e,c⟩:=x;exact⟨ob,es,ep,t,k _ _ (.inl rfl) e,c⟩
 | ins C dx fs=>
  obtain⟨d,z,ne,e,mA,⟨od,es,ep,e2,c⟩,r⟩:=x;exact⟨ho _ d,z,ne,k _ _ (.inl rfl) e,mA,⟨od,es,ep,k _ _ (.inr d) e2,c⟩,r⟩
 | own y=>obtain⟨ob,e⟩:=x;exact⟨ob,k _ _ (.inl rfl) e⟩
 | xd fs=>obtain⟨mA,⟨od,es,ep,e,c⟩,r⟩:=x;exact⟨mA,⟨od,es,ep,k _ _ (.inl rfl) e,c⟩,r⟩
 | rng lo hi=>obtain⟨t,u,v,e⟩:=x;exact⟨t,u,v,k _ _ (.inl rfl) e⟩
 | frz ob u ih=>obtain⟨e,q⟩:=x;exact⟨k _ _ (.inl rfl) e,ih q⟩
 | tbl ps=>
  have e:h.get? a=some {cls:= .none,data:= .fields ps}:=x;show h'.get? a=some {cls:= .none,data:= .fields ps};exact k a _ (.inl rfl) e
 | met f y=>
  have e:h.get? a=some (methodObj (.ref f)<|.ref y):=x;show h'.get? a=some (methodObj (.ref f)<|.ref y);exact k a _ (.inl rfl) e
 | ext φ=>obtain⟨p,⟨o,e⟩,st⟩:=x;exact⟨st _ _ p λo q=>k _ _ (.inl rfl) q,⟨o,k _ _ (.inl rfl) e⟩,st⟩
theorem HOk.lt (x:HOk P w H h)(e:H a=some o):a<h.objs.size:=(x a o e).lt
theorem HOk.fresh (x:HOk P w H h)(e:h.objs.size<=a):H a=none:=by
 cases q:H a with
 | none=>rfl
 | some u=>exact absurd (aX (x.lt q) e) (dI _)
theorem HOk.kept (x:HOk P w H h)(k: ∀b u,h.get? b=some u->h'.get? b=some u):HOk P w H h':=λa o e=>
 (x a o e).stay (λb u _ q=>k b u q) (λ_ q=>q) λ_ _ q=>q
theorem HOk.laid (x:HOk P w H h)(k: ∀b u,h.get? b=some u->h'.get? b=some u)(hp:h.objs.size<=a)(new:qX P w (upd H a o) h' a o):HOk P w (upd H a o) h':=λb u e=>by
 have hn:=x.fresh hp
 by_cases hb:b=a
 ·subst hb;rw[iT]at e;cases e;exact new
 ·rw[cE hb]at e;exact(x b u e).stay (λc v _ q=>k c v q) (λc q=>by rw[cE<|d8 q hn];exact q) λc xs q=>by rw[cE<|d8 q hn];exact q
end
def Rd (H:Hp)(a:Addr)(u:HO):Prop:=H a=some u\/ ∃o,H a=some (.frz o u)
theorem Rd.ok {P:Program}{w:World}{H:Hp}{h:Heap}{a:Addr}{u:HO}(r:Rd H a u)(x:HOk P w H h):qX P w H h a u:=by
 rcases r with r| ⟨o,r⟩
 ·exact x a u r
 ·obtain⟨_,q⟩:=x a _ r;exact q
def Mut:Option HO->Prop
 | some (.lst _)=>True
 | some (.dK _)=>True
 | some (.dT _)=>True
 | some (.set _ _)=>True
 | some (.ins _ _ _)=>True
 | some (.ext _)=>True
 | _=>False
section
variable {P:Program}{w:World}{H:Hp}{h h':Heap}{x e:Addr}{o':HO}
theorem HOk.write (ok:HOk P w H h)(mu:Mut (H x))(he:e=x\/H e=some (.own x))(k: ∀b u,b≠e->h.get? b=some u->h'.get? b=some u)(heo: ∃u,h'.get? e=some u)
  (new:qX P w (upd H x o') h' x o'):HOk P w (upd H x o') h':=λb u q=>by
 have nown: ∀c y,H c=some (.own y)->c≠x:=λc y r z=>by subst z;rw[r]at mu;exact mu
 have ntup: ∀c xs,H c=some (.tup xs)->c≠x:=λc xs r z=>by subst z;rw[r]at mu;exact mu
 by_cases hb:b=x
 ·subst hb;rw[iT]at q;cases q;exact new
 ·rw[cE hb]at q
  by_cases hbe:b=e
  ·have q':H b=some (.own x):=by
    rcases he with z|z
    ·exact absurd (hbe.trans z) hb
    ·rw[hbe];exact z
   rw[q]at q';cases q';obtain⟨v,hv⟩:=heo;exact⟨v,by rw[hbe];exact hv⟩
  ·refine(ok b u q).stay (λc v hc r=>k c v ?_ r) (λc r=>by rw[cE<|nown c b r];exact r) λc xs r=>by rw[cE<|ntup c xs r];exact r
   rcases hc with rfl|hc
   ·exact hbe
   ·rintro rfl;rcases he with z|z
    ·exact nown c b hc z
    ·rw[hc]at z;cases z;exact hb rfl
end
structure Un (fs ex:List Addr)(H H':Hp)(h h':Heap):Prop where
 keep: ∀b o,h.get? b=some o->H b=none->b ∉ fs->b ∉ ex->h'.get? b=some o
 slot: ∀b o,h.get? b=some o->H b=none->b∈fs->b ∉ ex-> ∃sl,h'.get? b=some {o with slots:=sl}
 free: ∀b o,h.get? b=some o->H b=none->b ∉ ex->H' b=none
 there: ∀b o,h.get? b=some o->b ∉ ex-> ∃o',h'.get? b=some o'
 tups: ∀b xs,H b=some (.tup xs)->H' b=some (.tup xs)
 frzs: ∀b o u,H b=some (.frz o u)->H' b=some (.frz o u)
 tbls: ∀b ps,H b=some (.tbl ps)-> ∃more,H' b=some (.tbl<|ps++more)
section
variable {fs fs' ex ex':List Addr}{H H1 H2:Hp}{h h1 h2 h':Heap}{a x e:Addr}{o:HO}
theorem Un.any (u:Un fs ex H H1 h h1){b:Addr}{ob:Obj}(q:h.get? b=some ob)(n:H b=none)(hx:b ∉ ex): ∃sl,h1.get? b=some {ob with slots:=sl}:=by
 by_cases hb:b∈fs
 ·exact u.slot b ob q n hb hx
 ·exact⟨ob.slots,u.keep b ob q n hb hx⟩
theorem Un.kept (k: ∀b u,h.get? b=some u->h'.get? b=some u):Un fs ex H H h h':=
 ⟨λb ob q _ _ _=>k b ob q,λb ob q _ _ _=>⟨ob.slots,k b ob q⟩,λ_ _ _ n _=>n,λb ob q _=>⟨ob,k b ob q⟩,λ_ _ q=>q,λ_ _ _ q=>q,λ_ ps q=>⟨#[],by rw[q];simp⟩⟩
theorem Un.refl:Un fs ex H H h h:=Un.kept λ_ _ q=>q
theorem Un.laid (k: ∀b u,h.get? b=some u->h'.get? b=some u)(hp:h.objs.size<=a)(hn:H a=none):Un fs ex H (upd H a o) h h' where
 keep:=λb u q _ _ _=>k b u q
 slot:=λb u q _ _ _=>⟨u.slots,k b u q⟩
 free:=λb u q n _=>by rw[cE<|bK<|aX (aQ q) hp];exact n
 there:=λb u q _=>⟨u,k b u q⟩
 tups:=λb xs q=>by rw[cE<|d8 q hn];exact q
 frzs:=λb u xs q=>by rw[cE<|d8 q hn];exact q
 tbls:=λb ps q=>⟨#[],by rw[cE<|d8 q hn,q];simp⟩
theorem Un.write (mu:Mut (H x))(he:e=x\/H e=some (.own x))(k: ∀b u,b≠e->h.get? b=some u->h'.get? b=some u)(heo: ∃u,h'.get? e=some u):Un fs ex H (upd H x o) h h':=by
 have hx: ∀b,H b=none->b≠x:=λb n z=>by subst z;rw[n]at mu;exact mu
 have hb: ∀b,H b=none->b≠e:=λb n z=>by
  subst z;rcases he with r|r
  ·exact hx b n r
  ·rw[n]at r;cases r
 have hm: ∀b u,H b=some u-> ¬Mut (some u)->b≠x:=λb u q nm z=>by subst z;rw[q]at mu;exact nm mu
 refine⟨λb u q n _ _=>k b u (hb b n) q,λb u q n _ _=>⟨u.slots,k b u (hb b n) q⟩,λb u q n _=>by rw[cE<|hx b n];exact n,λb u q _=> ?_,
  λb xs q=>by rw[cE<|hm b _ q λz=>z];exact q,λb u xs q=>by rw[cE<|hm b _ q λz=>z];exact q,λb ps q=>⟨#[],by rw[cE<|hm b _ q λz=>z,q];simp⟩⟩
 by_cases hbe:b=e
 ·subst hbe;exact heo
 ·exact⟨u,k b u hbe q⟩
end
noncomputable def trk (h:Heap)(H:Hp):List Addr:=(List.range h.objs.size).filter λa=>(H a).isSome
noncomputable def bG5 (h:Heap)(H:Hp):Heap:=PySem.W.hideAll h (trk h H)
theorem cD8 (h:Heap)(H:Hp):(bG5 h H).objs.size=h.objs.size:=PySem.W.hideAll_size _ _
theorem cK5 {h:Heap}{H:Hp}{b:Addr}{o:Obj}(e:h.get? b=some o)(n:H b=none):(bG5 h H).get? b=some o:=
 PySem.W.hideAll_get _ e λhm=>by
  have q:(H b).isSome=true:=(nE.mp hm).2;rw[n]at q;simp at q
theorem d03 {h:Heap}{H:Hp}{b:Addr}{o:Obj}(e:(bG5 h H).get? b=some o):h.get? b=some o/\H b=none:=by
 have e':h.get? b=some o:=tD (trk h H) e;refine⟨e',?_⟩;cases q:H b with
 | none=>rfl
 | some x=>
  have hm:b∈trk h H:=nE.mpr ⟨dE.mpr<|aQ e',by simp[q]⟩
  have z:(bG5 h H).get? b=none:=PySem.W.hideAll_none (trk h H) hm;rw[z]at e;cases e
noncomputable def d04 (g h:Heap)(L:Addr):List (Addr×Obj):=(List.range h.objs.size).filterMap λa=>if a=L\/(g.get? a).isSome=true then none else(h.get? a).map λo=>(a,o)
noncomputable def a24 (g h:Heap)(L d:Addr):List (Addr×Obj):=(d04 g h L).filter λp=>decide (p.1≠d)
end L2
namespace L2
open PySem PySem.Spec PyProof.Rows
structure Mod (K:Frag)(mg:Str->Option Value)(base:Heap):Prop where
 kin:K.In base
 glob:base.Ns mainGlobals mg
 blt: ∃mb,base.Ns builtinsNs mb/\ ∀x:Str,x≠"__name__"->mb x=bootBuiltins x
 nolimit:base.NoLimit
structure Cx where
 prog:Program
 w:World
 K:Frag
 mg:Str->Option Value
 base:Heap
 A:Around
 N:List Str
 s₀:Shared
 H₀:Hp
 env:Env
 outer:List Env
 stack:List Env
 ex:List Addr
 fn:Str->Bool
 calm:Bool
 pn:List (Addr×Obj)
 xe:Value->Shared->Prop
noncomputable def frs (l:List Env):List Addr:=l.filterMap (·.frame)
noncomputable abbrev Cx.fs (X:Cx):List Addr:=frs X.outer
def Vis (sc:Scope)(x:Str):Prop:=sc.names.lookup x=some .local\/sc.names.lookup x=some .cell\/sc.names.lookup x=some .free
def Loc (sc:Scope)(x:Str):Prop:=sc.names.lookup x=some .local\/sc.names.lookup x=some .cell
def Look (env:Env)(h:Heap)(m:Str->Option Value)(x:Str)(u:Value):Prop:=
 (env.kindOf x=some .local/\m x=some u)\/((env.kindOf x=some .cell\/env.kindOf x=some .free)/\ ∃c,env.cells.lookup x=some c/\h.IsCell c (some u))
structure Cx.Ok (X:Cx):Prop where
 mod:Mod X.K X.mg X.base
 kind:X.env.scope.kind= .function
 glob:X.env.globals=mainGlobals
 blt:X.env.builtins=builtinsNs
 above:X.s₀.heap.objs.size<=X.env.locals
 inj: ∀x y c,X.env.cells.lookup x=some c->X.env.cells.lookup y=some c->x=y
 has: ∀x,(X.env.kindOf x=some .cell\/X.env.kindOf x=some .free)-> ∃c,X.env.cells.lookup x=some c
 cab: ∀x c,X.fn x=true->X.env.cells.lookup x=some c->X.s₀.heap.objs.size<=c
 hd:X.calm=true->X.A.handled=none
 frames:X.A.frames=some X.stack
 stk:X.stack=X.outer\/(X.stack=X.env::X.outer/\X.env.frame=some X.env.locals)
 exf: ∀b∈X.ex,b≠X.env.locals/\ ∀x c,X.env.cells.lookup x=some c->c≠b
 bs: ∀b o,X.base.get? b=some o->X.s₀.heap.get? b=some o/\X.H₀ b=none
 bsz:X.base.objs.size<=X.s₀.heap.objs.size
 noex: ∀b o,X.base.get? b=some o->b ∉ X.ex
 exfs: ∀b∈X.ex,b ∉ X.fs
 funs:X.s₀.heap.FunFrames X.base X.outer
 frf: ∀b∈X.fs,X.H₀ b=none
structure Inv (X:Cx)(pins:List (Addr×Obj))(σ:List (Option V))(H:Hp)(s:Shared):Prop where
 ok:X.Ok
 os:s.os=X.s₀.os
 bare:AllBare s.gens
 base:Un X.fs X.ex X.H₀ H X.s₀.heap s.heap
 loc: ∃m,s.heap.Ns X.env.locals m/\ ∀(i:Nat) (x:Str) (v:V),X.N[i]? =some x->σ[i]? =some (some v)->Vis X.env.scope x-> ∃u,RelV v u/\Look X.env s.heap m x u
 cell: ∀x c,X.env.cells.lookup x=some c-> ∃v,s.heap.IsCell c v
 free:H X.env.locals=none
 freeC: ∀x c,X.env.cells.lookup x=some c->H c=none
 pin: ∀p∈X.pn++pins,s.heap.get? p.1=some p.2/\H p.1=none/\p.1≠X.env.locals/\p.1 ∉ X.fs/\ ∀v,p.2.data≠ .cell v
 hok:HOk X.prog X.w H s.heap
 len:σ.length=X.N.length
section
variable {X:Cx}{pins:List (Addr×Obj)}{σ:List (Option V)}{H H':Hp}{s:Shared}{h':Heap}
theorem Cx.Ok.nofr (ok:X.Ok){b:Addr}{o:Obj}(e:X.base.get? b=some o):b ∉ X.fs:=λhb=>by
 have:=(ok.funs.mem hb).1;rw[e]at this;cases this
theorem Inv.bs (I:Inv X pins σ H s): ∀b o,X.base.get? b=some o->s.heap.get? b=some o/\H b=none:=λb o e=>
 ⟨I.base.keep b o (I.ok.bs b o e).1 (I.ok.bs b o e).2 (I.ok.nofr e)<|I.ok.noex b o e,I.base.free b o (I.ok.bs b o e).1 (I.ok.bs b o e).2<|I.ok.noex b o e⟩
theorem Inv.bk (I:Inv X pins σ H s): ∀b o,X.base.get? b=some o->s.heap.get? b=some o:=λb o e=>(I.bs b o e).1
theorem Inv.mod (I:Inv X pins σ H s):Mod X.K X.mg X.base:=I.ok.mod
theorem Inv.kIn (I:Inv X pins σ H s):X.K.In s.heap:=I.ok.mod.kin.keeps I.bk
theorem Inv.nolimit (I:Inv X pins σ H s):s.heap.NoLimit:=I.ok.mod.nolimit.keeps I.bk
theorem Inv.lt (I:Inv X pins σ H s):X.env.locals<s.heap.objs.size:=let ⟨_,hn,_⟩:=I.loc;hn.lt
theorem Inv.sz (I:Inv X pins σ H s):X.s₀.heap.objs.size<=s.heap.objs.size:=aL I.ok.above (nM I.lt)
theorem Inv.nofs (I:Inv X pins σ H s){a:Addr}(h:s.heap.objs.size<=a):a ∉ X.fs:=λhb=>by
 obtain⟨_,o,ho,_⟩:=I.ok.funs.mem hb;exact absurd (aX (aQ ho)<|aL I.sz h) (dI _)
theorem Inv.cne (I:Inv X pins σ H s): ∀x c,X.env.cells.lookup x=some c->c≠X.env.locals:=λx c e z=>by
 obtain⟨v,o,ho,hd⟩:=I.cell x c e;obtain⟨m,⟨o',es,ep,ho',hd',_⟩,_⟩:=I.loc;rw[z,ho']at ho;cases ho;rw[hd']at hd;cases hd
theorem Inv.funs (I:Inv X pins σ H s):s.heap.FunFrames X.base X.outer:=by
 have all: ∀(l:List Env),(∀b∈frs l,b∈X.fs)->X.s₀.heap.FunFrames X.base l->s.heap.FunFrames X.base l:=by
  intro l
  induction l with
  | nil=>intro _ _;trivial
  | cons env r ih=>
   intro hs hl;obtain⟨hk,⟨L,o,hf,hn,ho,hd⟩,hr⟩:=hl;have hL:L∈X.fs:=hs L (by unfold frs;rw[jO,hf];exact cD)
   obtain⟨sl,e⟩:=I.base.slot L o ho (I.ok.frf L hL) hL λz=>I.ok.exfs L z hL
   exact⟨hk,⟨L,_,hf,hn,e,hd⟩,ih (λb hb=>hs b (by unfold frs;rw[jO,hf];exact bF _ hb)) hr⟩
 exact all X.outer (λ_ hb=>hb) I.ok.funs
theorem Inv.stack (I:Inv X pins σ H s):s.heap.FunFrames X.base X.stack:=by
 rcases I.ok.stk with e| ⟨e,hf⟩
 ·rw[e];exact I.funs
 ·rw[e];obtain⟨m,hn,_⟩:=I.loc;refine .cons (by rw[I.ok.kind];decide) hf hn ?_ I.funs
  exact kP (aL I.ok.bsz I.ok.above)
theorem Inv.stkSub (I:Inv X pins σ H s): ∀b∈frs X.stack,b∈X.env.locals::X.fs:=λb hb=>by
 rcases I.ok.stk with e| ⟨e,hf⟩
 ·rw[e]at hb;exact bF _ hb
 ·rw[e]at hb;unfold frs at hb;rw[jO,hf]at hb;exact hb
theorem Inv.stkFree (I:Inv X pins σ H s): ∀b∈frs X.stack,H b=none:=λb hb=>by
 rcases aY.mp (I.stkSub b hb)with e|hb
 ·rw[e];exact I.free
 ·obtain⟨_,o,ho,_⟩:=I.ok.funs.mem hb;exact I.base.free b o ho (I.ok.frf b hb) λz=>I.ok.exfs b z hb
theorem Inv.step {g':Array GenState}{t':Nat}{d':Drawn}{ch:List Addr}(I:Inv X pins σ H s)
  (hch: ∀b∈ch,(b∈X.ex\/X.s₀.heap.objs.size<=b)/\b≠X.env.locals/\(∀x c,X.env.cells.lookup x=some c->c≠b)/\ ∀p∈X.pn++pins,p.1≠b)
  (keep: ∀b o,b≠X.env.locals->b ∉ X.fs->b ∉ ch->s.heap.get? b=some o->H b=none->h'.get? b=some o)
  (slot: ∀b o,b≠X.env.locals->b∈X.fs->b ∉ ch->s.heap.get? b=some o->H b=none-> ∃sl,h'.get? b=some {o with slots:=sl}) (free: ∀b o,b ∉ ch->s.heap.get? b=some o->H b=none->H' b=none)
  (there: ∀b o,b ∉ ch->s.heap.get? b=some o-> ∃o',h'.get? b=some o')
  (tups: ∀b xs,H b=some (.tup xs)->H' b=some (.tup xs)) (frzs: ∀b o u,H b=some (.frz o u)->H' b=some (.frz o u)) (tbls: ∀b ps,H b=some (.tbl ps)-> ∃more,H' b=some (.tbl<|ps++more))
  (ns: ∀m,s.heap.Ns X.env.locals m->h'.Ns X.env.locals m) (hok:HOk X.prog X.w H' h') (hg:AllBare g') :
  Inv X pins σ H' {s with heap:=h',gens:=g',drawn:=d',toks:=t'}:=by
 have neL: ∀b o,X.s₀.heap.get? b=some o->b≠X.env.locals:=λb o e=>bK (aX (aQ e) I.ok.above)
 have neC: ∀b o,X.s₀.heap.get? b=some o->b ∉ X.ex->b ∉ ch:=λb o e hx hb=>by
  rcases(hch b hb).1 with z|z
  ·exact hx z
  ·exact absurd (aX (aQ e) z) (dI _)
 have cellK: ∀x c,X.env.cells.lookup x=some c-> ∀v,s.heap.IsCell c v->h'.IsCell c v:=λx c e v ⟨o,ho,hd⟩=>by
  have nch:c ∉ ch:=λz=>(hch c z).2.2.1 x c e rfl
  by_cases hc:c∈X.fs
  ·obtain⟨sl,q⟩:=slot c o (I.cne x c e) hc nch ho (I.freeC x c e);exact⟨_,q,hd⟩
  ·exact⟨o,keep c o (I.cne x c e) hc nch ho<|I.freeC x c e,hd⟩
 refine⟨I.ok,I.os,hg,⟨λb o e n hb hx=> ?_,λb o e n hb hx=> ?_,λb o e n hx=> ?_,λb o e hx=> ?_,λb xs e=>tups b xs (I.base.tups b xs e),λb o xs e=>frzs b o xs (I.base.frzs b o xs e),λb ps e=> ?_⟩,?_,λx c e=> ?_,?_,λx c e=> ?_,λp hp=> ?_,hok,I.len⟩
 ·exact keep b o (neL b o e) hb (neC b o e hx) (I.base.keep b o e n hb hx) (I.base.free b o e n hx)
 ·obtain⟨sl,e1⟩:=I.base.slot b o e n hb hx;obtain⟨sl',e2⟩:=slot b _ (neL b o e) hb (neC b o e hx) e1 (I.base.free b o e n hx);exact⟨sl',e2⟩
 ·obtain⟨o',e1⟩:=I.base.there b o e hx;exact free b o' (neC b o e hx) e1 (I.base.free b o e n hx)
 ·obtain⟨o',e1⟩:=I.base.there b o e hx;exact there b o' (neC b o e hx) e1
 ·obtain⟨m1,e1⟩:=I.base.tbls b ps e;obtain⟨m2,e2⟩:=tbls b _ e1;exact⟨m1++m2,by rw[e2,Array.append_assoc]⟩
 ·obtain⟨m,hn,hl⟩:=I.loc;refine⟨m,ns m hn,λi x v e1 e2 e3=> ?_⟩
  obtain⟨u,r,l⟩:=hl i x v e1 e2 e3;refine⟨u,r,?_⟩;rcases l with l| ⟨k,c,e,z⟩
  ·exact .inl l
  ·exact .inr ⟨k,c,e,cellK x c e _ z⟩
 ·obtain⟨v,z⟩:=I.cell x c e;exact⟨v,cellK x c e v z⟩
 ·obtain⟨m,⟨o,_,_,ho,_⟩,_⟩:=I.loc;exact free _ o (λz=>(hch _ z).2.1 rfl) ho I.free
 ·obtain⟨v,o,ho,hd⟩:=I.cell x c e;exact free c o (λz=>(hch c z).2.2.1 x c e rfl) ho (I.freeC x c e)
 ·obtain⟨e,n,ne,nf,d⟩:=I.pin p hp;have nch:p.1 ∉ ch:=λz=>(hch p.1 z).2.2.2 p hp rfl
  exact⟨keep p.1 p.2 ne nf nch e n,free p.1 p.2 nch e n,ne,nf,d⟩
theorem Inv.un {t':Nat}(I:Inv X pins σ H s)(u:Un X.fs [] H H' s.heap h')(hok:HOk X.prog X.w H' h'):Inv X pins σ H' {s with heap:=h',toks:=t'}:=by
 obtain⟨m,⟨o,es,ep,ho,r⟩,_⟩:=id I.loc;obtain⟨sl,hL⟩:=u.any ho I.free ae
 exact I.step (g':=s.gens) (d':=s.drawn) (ch:=[]) (λ_ z=>nomatch z) (λb o _ hb _ e n=>u.keep b o e n hb ae) (λb o _ hb _ e n=>u.slot b o e n hb ae) (λb o _ e n=>u.free b o e n ae) (λb o _ e=>u.there b o e ae) u.tups u.frzs u.tbls (λm' hm=>by
  obtain⟨o',es',ep',ho',r'⟩:=hm;rw[ho]at ho';cases ho';exact⟨_,es',ep',hL,r'⟩) hok I.bare
theorem Inv.call {g':Array GenState}{t':Nat}{d':Drawn}{ch:List Addr}(I:Inv X pins σ H s)(u:Un (frs X.stack) ch H H' s.heap h')(hok:HOk X.prog X.w H' h')(hg:AllBare g')
  (hch: ∀b∈ch,(b∈X.ex\/X.s₀.heap.objs.size<=b)/\b≠X.env.locals/\(∀x c,X.env.cells.lookup x=some c->c≠b)/\ ∀p∈X.pn++pins,p.1≠b) :
  Inv X pins σ H' {s with heap:=h',gens:=g',drawn:=d',toks:=t'}:=by
 obtain⟨m,⟨o,es,ep,ho,r⟩,_⟩:=id I.loc;obtain⟨sl,hL⟩:=u.any ho I.free λz=>(hch _ z).2.1 rfl
 exact I.step (ch:=ch) hch (λb o hL hb hc e n=>u.keep b o e n (λz=>(aY.mp<|I.stkSub b z).elim hL hb) hc) (λb o _ _ hc e n=>u.any e n hc) (λb o hc e n=>u.free b o e n hc) (λb o hc e=>u.there b o e hc) u.tups u.frzs u.tbls (λm' hm=>by
  obtain⟨o',es',ep',ho',r'⟩:=hm;rw[ho]at ho';cases ho';exact⟨_,es',ep',hL,r'⟩) hok hg
theorem Inv.turned {t':Nat}{it:Addr}(I:Inv X pins σ H s)(k: ∀b o,b≠it->s.heap.get? b=some o->h'.get? b=some o)(hn:H it=none)(hL:it≠X.env.locals)
  (h1:it∈X.ex\/X.s₀.heap.objs.size<=it) (h2: ∀x c,X.env.cells.lookup x=some c->c≠it) (h3: ∀p∈X.pn++pins,p.1≠it):Inv X pins σ H {s with heap:=h',toks:=t'}:=by
 have nit: ∀b u,H b=some u->b≠it:=λb u e z=>by rw[z,hn]at e;cases e
 refine I.step (g':=s.gens) (d':=s.drawn) (ch:=[it]) (λb hb=> ?_) (λb o _ _ hc e _=>k b o (λz=>hc (by simp[z])) e) (λb o _ _ hc e _=>⟨o.slots,k b o (λz=>hc (by simp[z])) e⟩) (λ_ _ _ _ n=>n)
  (λb o hc e=>⟨o,k b o (λz=>hc (by simp[z])) e⟩) (λ_ _ e=>e) (λ_ _ _ e=>e) (λb ps e=>⟨#[],by rw[e];simp⟩) (λm hm=> ?_) (λb u e=> ?_) I.bare
 ·have e:b=it:=by simpa using hb
  subst e;exact⟨h1,hL,h2,h3⟩
 ·obtain⟨o,es,ep,ho,r⟩:=hm;exact⟨o,es,ep,k _ o (Ne.symm hL) ho,r⟩
 ·refine(I.hok b u e).stay (λc v hc q=>k c v ?_ q) (λ_ q=>q) λ_ _ q=>q
  rcases hc with z|z
  ·rw[z];exact nit b u e
  ·exact nit c _ z
theorem Inv.tok (I:Inv X pins σ H s)(t:Nat):Inv X pins σ H {s with toks:=t}:=I.un (h':=s.heap) (t':=t) Un.refl I.hok
theorem Inv.kept {t':Nat}(I:Inv X pins σ H s)(k: ∀b u,s.heap.get? b=some u->h'.get? b=some u):Inv X pins σ H {s with heap:=h',toks:=t'}:=I.un (Un.kept k) (I.hok.kept k)
theorem Inv.laid {a:Addr}{o:HO}{t':Nat}(I:Inv X pins σ H s)(k: ∀b u,s.heap.get? b=some u->h'.get? b=some u)(hp:s.heap.objs.size<=a)(new:qX X.prog X.w (upd H a o) h' a o) :
  Inv X pins σ (upd H a o) {s with heap:=h',toks:=t'}:=I.un (Un.laid k hp<|I.hok.fresh hp) (I.hok.laid k hp new)
theorem Inv.write {x e:Addr}{o:HO}{t':Nat}(I:Inv X pins σ H s)(mu:Mut (H x))(he:e=x\/H e=some (.own x))(k: ∀b u,b≠e->s.heap.get? b=some u->h'.get? b=some u)(heo: ∃u,h'.get? e=some u)
  (new:qX X.prog X.w (upd H x o) h' x o):Inv X pins σ (upd H x o) {s with heap:=h',toks:=t'}:=I.un (Un.write mu he k heo) (I.hok.write mu he k heo new)
theorem Inv.pins_of {pins':List (Addr×Obj)}(I:Inv X pins σ H s)(h: ∀p∈pins',s.heap.get? p.1=some p.2/\H p.1=none/\p.1≠X.env.locals/\p.1 ∉ X.fs/\ ∀v,p.2.data≠ .cell v):Inv X pins' σ H s:=
 ⟨I.ok,I.os,I.bare,I.base,I.loc,I.cell,I.free,I.freeC,λp hp=>(bC.mp hp).elim (λz=>I.pin p (xV _ z)) (h p),I.hok,I.len⟩
theorem bP4 {N:List Str}(hN:N.Nodup){i j:Nat}{x:Str}(a:N[i]? =some x)(b:N[j]? =some x):i=j:=by
 obtain⟨h1,e1⟩:=kN.mp a;obtain⟨h2,e2⟩:=kN.mp b;exact(List.getElem_inj hN).mp (e1.trans e2.symm)
theorem cD9 {M:Model}{A:Around}{E:Value->Shared->Prop}{i:Nat}{x:Str}{v:V}{u:Value}{Q:Unit->Shared->Prop}(I:Inv X pins σ H s)(hN:X.N.Nodup)(hi:X.N[i]? =some x)(hx:Loc X.env.scope x)(r:RelV v u)
  (h: ∀s',Inv X pins (σ.set i<|some v) H s'->(∃a,SameBut a s.heap s'.heap/\(a=X.env.locals\/X.env.cells.lookup x=some a))->Q () s') (hf:X.fn x=true\/X.env.scope.names.lookup x=some .local:=by walk_at "z"):wpAny M A (storeName X.env x u) Q E s:=by
 obtain⟨m,hn,hl⟩:=id I.loc;have hcls:(X.env.scope.kind== .class||(X.env.scope.kind== .module&&X.env.locals != X.env.globals))=false:=by rw[I.ok.kind];rfl
 have hiσ:i<σ.length:=by rw[I.len];exact(kN.mp hi).1
 have cne:=I.cne;have tracked: ∀{a:Addr} {h':Heap},(∃o,s.heap.get? a=some o/\H a=none)->SameBut a s.heap h'->HOk X.prog X.w H h':=λ{a h'} ha hs b ob e=>by
  obtain⟨_,_,hfree⟩:=ha;refine(I.hok b ob e).stay (λc w' hc q=>(hs.2 c ?_).trans q) (λ_ q=>q) λ_ _ q=>q
  rintro rfl;rcases hc with rfl|hc
  ·rw[hfree]at e;cases e
  ·rw[hfree]at hc;cases hc
 rcases hx with hk|hk
 ·refine wpAny_storeName_local hk hn (λh' hn' hs=> ?_) hcls
  obtain⟨oL,_,_,hoL,_⟩:=id hn;refine h _ ⟨I.ok,I.os,I.bare,⟨λb o e n hb hx=> ?_,λb o e n hb hx=> ?_,I.base.free,λb o e hx=> ?_,I.base.tups,I.base.frzs,I.base.tbls⟩,⟨_,hn',λj y v' e1 e2 e3=> ?_⟩,λy c e=> ?_,I.free,I.freeC,λp hp=> ?_,tracked ⟨oL,hoL,I.free⟩ hs,by simpa using I.len⟩ ⟨_,hs,.inl rfl⟩
  ·exact(hs.2 b<|bK<|aX (aQ e) I.ok.above).trans (I.base.keep b o e n hb hx)
  ·obtain⟨sl,e1⟩:=I.base.slot b o e n hb hx;exact⟨sl,(hs.2 b<|bK<|aX (aQ e) I.ok.above).trans e1⟩
  ·obtain⟨o',e1⟩:=I.base.there b o e hx;exact⟨o',(hs.2 b<|bK<|aX (aQ e) I.ok.above).trans e1⟩
  ·by_cases hj:j=i
   ·subst hj;rw[hi]at e1;cases e1;rw[List.getElem?_set_self hiσ]at e2;cases e2;exact⟨u,r,.inl ⟨hk,ae⟩⟩
   ·rw[List.getElem?_set_ne<|Ne.symm hj]at e2;obtain⟨u',r',q⟩:=hl j y v' e1 e2 e3;refine⟨u',r',?_⟩;rcases q with⟨k,e⟩| ⟨k,c,e,z⟩
    ·refine .inl ⟨k,?_⟩
     have:y≠x:=λe=>hj (bP4 hN e1<|e▸hi)
     simp[this,e]
    ·exact .inr ⟨k,c,e,z.sameBut hs<|cne y c e⟩
  ·obtain⟨w',z⟩:=I.cell y c e;exact⟨w',z.sameBut hs<|cne y c e⟩
  ·obtain⟨e,n,ne,nf,d⟩:=I.pin p hp;exact⟨(hs.2 p.1 ne).trans e,n,ne,nf,d⟩
 ·have hfn:X.fn x=true:=by
   rcases hf with z|z
   ·exact z
   ·rw[z]at hk;cases hk
  obtain⟨c,hc⟩:=I.ok.has x (.inl hk);obtain⟨w',z⟩:=I.cell x c hc;refine wpAny_storeName_cell I.ok.kind hk hc z (λh' hc' hs=> ?_)
  obtain⟨oc,hoc,hocd⟩:=id z;refine h {s with heap:=h'} ⟨I.ok,I.os,I.bare,⟨λb o e n hb hx=> ?_,λb o e n hb hx=> ?_,I.base.free,λb o e hx=> ?_,I.base.tups,I.base.frzs,I.base.tbls⟩,⟨m,hn.sameBut hs<|Ne.symm<|cne x c hc,λj y v' e1 e2 e3=> ?_⟩,λy c' e=> ?_,I.free,I.freeC,λp hp=> ?_,tracked ⟨oc,hoc,I.freeC x c hc⟩ hs,by simpa using I.len⟩ ⟨c,hs,.inr hc⟩
  ·exact(hs.2 b<|bK<|aX (aQ e)<|I.ok.cab x c hfn hc).trans (I.base.keep b o e n hb hx)
  ·obtain⟨sl,e1⟩:=I.base.slot b o e n hb hx;exact⟨sl,(hs.2 b<|bK<|aX (aQ e)<|I.ok.cab x c hfn hc).trans e1⟩
  ·obtain⟨o',e1⟩:=I.base.there b o e hx;exact⟨o',(hs.2 b<|bK<|aX (aQ e)<|I.ok.cab x c hfn hc).trans e1⟩
  ·by_cases hj:j=i
   ·subst hj;rw[hi]at e1;cases e1;rw[List.getElem?_set_self hiσ]at e2;cases e2;exact⟨u,r,.inr ⟨.inl hk,c,hc,hc'⟩⟩
   ·rw[List.getElem?_set_ne<|Ne.symm hj]at e2;obtain⟨u',r',q⟩:=hl j y v' e1 e2 e3;refine⟨u',r',?_⟩;rcases q with q| ⟨k,c',e,z'⟩
    ·exact .inl q
    ·refine .inr ⟨k,c',e,z'.sameBut hs ?_⟩
     rintro rfl;exact hj (bP4 hN e1<|I.ok.inj _ _ _ e hc▸hi)
  ·by_cases hcc:c'=c
   ·subst hcc;exact⟨_,hc'⟩
   ·obtain⟨w2,z2⟩:=I.cell y c' e;exact⟨w2,z2.sameBut hs hcc⟩
  ·obtain⟨e,n,ne,nf,d⟩:=I.pin p hp;refine⟨(hs.2 p.1 ?_).trans e,n,ne,nf,d⟩;intro q;rw[q,hoc]at e;have q':oc=p.2:=gF e;exact d w' (by rw[<-q'];exact hocd)
theorem aK5 {M:Model}{A:Around}{E:Value->Shared->Prop}{i:Nat}{x:Str}{v:V}{u:Value}{Q:Unit->Shared->Prop}(I:Inv X pins σ H s)(hN:X.N.Nodup)(hi:X.N[i]? =some x)(hx:Loc X.env.scope x)(r:RelV v u)
  (h: ∀s',Inv X pins (σ.set i<|some v) H s'->Q () s') (hf:X.fn x=true\/X.env.scope.names.lookup x=some .local:=by walk_at "z"):wpAny M A (storeName X.env x u) Q E s:=
 cD9 I hN hi hx r (λs' I' _=>h s' I') hf
theorem Inv.call' {s':Shared}{ch:List Addr}(I:Inv X pins σ H s)(ho:s'.os=s.os)(u:Un (frs X.stack) ch H H' s.heap s'.heap)(hok:HOk X.prog X.w H' s'.heap)(hg:AllBare s'.gens)
  (hch: ∀b∈ch,(b∈X.ex\/X.s₀.heap.objs.size<=b)/\b≠X.env.locals/\(∀x c,X.env.cells.lookup x=some c->c≠b)/\ ∀p∈X.pn++pins,p.1≠b):Inv X pins σ H' s':=by
 obtain⟨h',g',d',t',o'⟩:=s';have e:o'=s.os:=ho;subst e;exact I.call (g':=g') (t':=t') (d':=d') u hok hg hch
end
abbrev XK:=Value->Option Addr->Hp->Prop
abbrev St:=List (Option V)
abbrev VK:=V->Hp->Prop
abbrev TE:=St->Hp->VK->Prop
abbrev TT:=St->Hp->(Bool->Hp->Prop)->Prop
abbrev TA:=St->Hp->(List V->Hp->Prop)->Prop
structure b90 where
 nx:St->Hp->Prop
 rt:VK
 bk:St->Hp->Prop:=λ_ _=>False
 ct:St->Hp->Prop:=λ_ _=>False
abbrev TS:=b90->St->Hp->Prop
def EP (X:Cx)(pins:List (Addr×Obj))(σ:St)(Q:VK)(u:Value)(s':Shared):Prop:= ∃v H',Inv X pins σ H' s'/\RelV v u/\Q v H'
def TP (X:Cx)(pins:List (Addr×Obj))(σ:St)(Q:Bool->Hp->Prop)(b:Bool)(s':Shared):Prop:= ∃H',Inv X pins σ H' s'/\Q b H'
def AP (X:Cx)(pins:List (Addr×Obj))(σ:St)(Q:List V->Hp->Prop)(us:List Value)(s':Shared):Prop:= ∃vs H',Inv X pins σ H' s'/\Vals vs us/\Q vs H'
def SP (X:Cx)(pins:List (Addr×Obj))(D:b90)(f:Flow)(s':Shared):Prop:=
 match f with
 | .next=> ∃σ' H',Inv X pins σ' H' s'/\D.nx σ' H'
 | .brk=> ∃σ' H',Inv X pins σ' H' s'/\D.bk σ' H'
 | .cont=> ∃σ' H',Inv X pins σ' H' s'/\D.ct σ' H'
 | .ret u=> ∃v σ' H',Inv X pins σ' H' s'/\RelV v u/\D.rt v H'
def PE (X:Cx)(e:Expr)(t:TE):Prop:=
 ∀(pins:List (Addr×Obj)) (s:Shared) (σ:St) (H:Hp) (Q:VK),Inv X pins σ H s->t σ H Q->wpAny (model X.prog X.w) X.A (eval e X.env) (EP X pins σ Q) X.xe s
def PT (X:Cx)(e:Expr)(t:TT):Prop:=
 ∀(pins:List (Addr×Obj)) (s:Shared) (σ:St) (H:Hp) (Q:Bool->Hp->Prop),Inv X pins σ H s->t σ H Q->wpAny (model X.prog X.w) X.A (isTrue e X.env<|eval e X.env) (TP X pins σ Q) X.xe s
def PW (X:Cx)(e:Expr)(t:TT):Prop:=
 ∀(whole:Sem Value) (pins:List (Addr×Obj)) (s:Shared) (σ:St) (H:Hp) (Q:Bool->Hp->Prop),Inv X pins σ H s->t σ H Q->wpAny (model X.prog X.w) X.A (isTrue e X.env whole) (TP X pins σ Q) X.xe s
theorem PW.pt {X:Cx}{e:Expr}{t:TT}(h:PW X e t):PT X e t:=h _
def PA (X:Cx)(es:List Expr)(t:TA):Prop:=
 ∀(pos:Pos) (pins:List (Addr×Obj)) (s:Shared) (σ:St) (H:Hp) (Q:List V->Hp->Prop),Inv X pins σ H s->t σ H Q->wpAny (model X.prog X.w) X.A (spliced<|backTo pos<|starEach es X.env) (AP X pins σ Q) X.xe s
def PS (X:Cx)(st:Stmt)(t:TS):Prop:=
 ∀(pins:List (Addr×Obj)) (s:Shared) (σ:St) (H:Hp) (D:b90),Inv X pins σ H s->t D σ H->wpAny (model X.prog X.w) X.A (exec st X.env) (SP X pins D) X.xe s
def PSs (X:Cx)(st:List Stmt)(t:TS):Prop:=
 ∀(pins:List (Addr×Obj)) (s:Shared) (σ:St) (H:Hp) (D:b90),Inv X pins σ H s->t D σ H->wpAny (model X.prog X.w) X.A (execs st X.env) (SP X pins D) X.xe s
theorem thn {α:Type}{t:Sem α}{Q Q':α->Shared->Prop}{M:Model}{A:Around}{E:Value->Shared->Prop}{s:Shared}(h:wpAny M A t Q E s)(hQ: ∀a s,Q a s->Q' a s):wpAny M A t Q' E s:=bL h hQ λ_ _ x=>x
end L2
namespace L2
open PySem PySem.Spec PyProof.Rows
section
variable {X:Cx}
def aG9 (i:Nat):TE:=λσ H Q=> ∃v,σ[i]? =some (some v)/\Q v H
def tC (v:V):TE:=λ_ H Q=>Q v H
theorem pe_var {i:Nat}{x:Str}{pos:Pos}(hN:X.N[i]? =some x)(hv:Vis X.env.scope x)(hd:(x==("__debug__":Str))=false:=by decide)(hcd:(x==("__classdict__":Str))=false:=by decide):PE X (.Name x pos) (aG9 i):=by
 intro pins s σ H Q I h;obtain⟨v,e,h⟩:=h;obtain⟨m,hn,hl⟩:=I.loc;obtain⟨u,r,l⟩:=hl i x v hN e hv;have fin:EP X pins σ Q u s:=⟨v,H,I,r,h⟩;rcases l with⟨hk,hm⟩| ⟨hk,c,hc,hcell⟩
 ·exact nN (pF I.ok.kind hk hn hm fin) hd
 ·rcases hk with hk|hk
  ·exact nN (wpAny_loadName_cell I.ok.kind hk hc hcell fin) hd
  ·exact nN (wpAny_loadName_free I.ok.kind hk hc hcell fin hcd) hd
theorem pe_int {i j pos}:PE X (.Constant (.int i) j pos) (tC<|.int i):=λ_ _ _ H _ I h=>wpAny_Constant_int ⟨.int i,H,I.tok _,⟨_,rfl⟩,h⟩
theorem pe_bl {b j pos}:PE X (.Constant (.bool b) j pos) (tC<|.bl b):=λ_ _ _ H _ I h=>Constant_bool ⟨.bl b,H,I,rfl,h⟩
theorem pe_non {j pos}:PE X (.Constant .none j pos) (tC .non):=λ_ _ _ H _ I h=>Constant_none ⟨.non,H,I,rfl,h⟩
theorem pe_str {x j pos}:PE X (.Constant (.str x) j pos) (tC<|.str x):=λ_ _ _ H _ I h=>Calls.Constant_str ⟨.str x,H,I.tok _,⟨_,rfl⟩,h⟩
def Gl (X:Cx)(x:Str):Prop:=X.env.kindOf x=some .globalImplicit
theorem v8 {E:Value->Shared->Prop}{pins:List (Addr×Obj)}{s:Shared}{σ:St}{H:Hp}{x:Str}{u:Value}{pos:Pos}{Q:Value->Shared->Prop}(I:Inv X pins σ H s)(hg:Gl X x)(hm:X.mg x=some u)(h:Q u s)
  (hd:(x==("__debug__":Str))=false:=by decide):wpAny (model X.prog X.w) X.A (eval (.Name x pos) X.env) Q E s:=
 Calls.Name_function_global I.ok.kind hg (Calls.loadGlobal_global (by rw[I.ok.glob];exact I.mod.glob.keeps I.bk) hm h) hd
theorem vR {E:Value->Shared->Prop}{pins:List (Addr×Obj)}{s:Shared}{σ:St}{H:Hp}{x:Str}{u:Value}{pos:Pos}{Q:Value->Shared->Prop}(I:Inv X pins σ H s)(hg:Gl X x)(hm:X.mg x=none)(hv:bootBuiltins x=some u)(h:Q u s)
  (hn:x≠"__name__":=by decide) (hd:(x==("__debug__":Str))=false:=by decide):wpAny (model X.prog X.w) X.A (eval (.Name x pos) X.env) Q E s:=by
 obtain⟨mb,h1,h2⟩:=I.mod.blt;exact Calls.Name_function_global I.ok.kind hg (Calls.loadGlobal_builtin (by rw[I.ok.glob];exact I.mod.glob.keeps I.bk) hm (by rw[I.ok.blt];exact h1.keeps I.bk) ((h2 x hn).trans hv) h) hd
theorem c81 {x:Str}{v:V}{u:Value}{pos:Pos}(hg:Gl X x)(hm:X.mg x=some u)(r:RelV v u)(hd:(x==("__debug__":Str))=false:=by decide):PE X (.Name x pos) (tC v):=
 λ_ _ _ H _ I h=>v8 I hg hm ⟨v,H,I,r,h⟩ hd
variable {a b:Expr}{ta tb:TE}{pos:Pos}
def PC (X:Cx)(op:CmpOp)(a b:Expr)(t:TE):Prop:=
 ∀(pins:List (Addr×Obj)) (s:Shared) (σ:St) (H:Hp) (Q:VK),Inv X pins σ H s->t σ H Q->
  wpAny (model X.prog X.w) X.A (eval a X.env) (λv s₁=>wpAny (model X.prog X.w) X.A (eval b X.env) (λu s₂=>wpAny (model X.prog X.w) X.A (compareOp op v u) (EP X pins σ Q) X.xe s₂) X.xe s₁) X.xe s
theorem cK6 (b:Expr){op:CmpOp}(h:op≠ .In)(h2:op≠ .NotIn):behindInMarks op b=false:=by
 have e1:(op==CmpOp.In)=false:=by cases op<;>first|rfl|exact absurd rfl h
 have e2:(op==CmpOp.NotIn)=false:=by cases op<;>first|rfl|exact absurd rfl h2
 cases b<;>simp[behindInMarks,e1,e2]
def tIsN (ta:TE):TE:=λσ H Q=>ta σ H λx H1=>Q (.bl<|decide (x= .non)) H1
def dC8 (ta:TE):TE:=λσ H Q=>ta σ H λx H1=>Q (.bl<|!decide (x= .non)) H1
theorem RelV.none_iff {x:V}{v:Value}(r:RelV x v):(v==Value.none)=decide (x= .non):=by
 cases x with
 | non=>cases r;rfl
 | bl _=>cases r;rfl
 | int _=>obtain⟨t,rfl⟩:=r;rfl
 | str _=>obtain⟨t,rfl⟩:=r;rfl
 | byt _=>obtain⟨t,rfl⟩:=r;rfl
 | flt _=>obtain⟨t,rfl⟩:=r;rfl
 | ref _=>cases r;rfl
 | ty _=>cases r;rfl
theorem pc_isN {j pos'}(ha:PE X a ta):PC X .Is a (.Constant .none j pos') (tIsN ta):=by
 intro pins s σ H Q I h;refine thn (ha pins s σ H _ I h) λv s1 ⟨x,H1,I1,r1,q1⟩=> ?_
 exact Constant_none (is_none_gen ⟨.bl _,H1,I1,by rw[r1.none_iff];rfl,q1⟩)
theorem d05 {j pos'}(ha:PE X a ta):PC X .IsNot a (.Constant .none j pos') (dC8 ta):=by
 intro pins s σ H Q I h;refine thn (ha pins s σ H _ I h) λv s1 ⟨x,H1,I1,r1,q1⟩=> ?_
 exact Constant_none (isnot_none_gen ⟨.bl _,H1,I1,by rw[r1.none_iff];rfl,q1⟩)
def tB (t:TE):TT:=λσ H Q=>t σ H λx H1=> ∃c,x= .bl c/\Q c H1
theorem cK7 {op:CmpOp}{t:TE}(h:PC X op a b t)(h1:behindInMarks op b=false:=by first|exact cK6 _ ac ac|rfl):PT X (.Compare a [op] [b] pos) (tB t):=by
 intro pins s σ H Q I hw;refine wpAny_isTrue_Compare1 (thn (h pins s σ H _ I hw) λv s1 h1=>thn h1 λu s2 h2=>thn h2 λc s3 ⟨x,H1,I1,r1,q1⟩=> ?_) h1
 obtain⟨d,rfl,q⟩:=q1;cases r1;exact y9 ⟨H1,I1,q⟩
theorem pt_val {e:Expr}{t:TE}(h:PE X e t)(he: ∀whole,isTrue e X.env whole=(do let v<-whole;standAt e.pos;holding [v] (truthy v)):=by intro _;rfl):PT X e (tB t):=by
 intro pins s σ H Q I hw;refine isTrue_plain (thn (h pins s σ H _ I hw) λv s1 ⟨x,H1,I1,r1,q1⟩=> ?_) (he _)
 obtain⟨d,rfl,q⟩:=q1;cases r1;exact y9 ⟨H1,I1,q⟩
variable {tA tB':TT}{a24:List Expr}
def tAnd (t u:TT):TT:=λσ H Q=>t σ H λc H1=>if c=true then u σ H1 Q else Q false H1
def tOr (t u:TT):TT:=λσ H Q=>t σ H λc H1=>if c=true then Q true H1 else u σ H1 Q
def tNot (t:TT):TT:=λσ H Q=>t σ H λc H1=>Q (!c) H1
theorem d06 (ha:PT X a tA):PW X (.BoolOp .And [a] pos) tA:=by
 intro wh pins s σ H Q I h;refine isTrue_and (thn (ha pins s σ H Q I h) λc s1 e=> ?_)
 cases c with
 | true=>exact isTrue_and_nil e
 | false=>exact e
theorem pw_or1 (ha:PT X a tA):PW X (.BoolOp .Or [a] pos) tA:=by
 intro wh pins s σ H Q I h;refine isTrue_or (thn (ha pins s σ H Q I h) λc s1 e=> ?_)
 cases c with
 | false=>exact isTrue_or_nil e
 | true=>exact e
theorem pw_and (ha:PT X a tA)(hb:PW X (.BoolOp .And (b::a24) pos) tB'):PW X (.BoolOp .And (a::b::a24) pos) (tAnd tA tB'):=by
 intro wh pins s σ H Q I h;refine isTrue_and (thn (ha pins s σ H _ I h) λc s1 ⟨H1,I1,q1⟩=> ?_)
 cases c with
 | true=>exact hb wh pins s1 σ H1 Q I1 q1
 | false=>exact⟨H1,I1,q1⟩
theorem pw_or (ha:PT X a tA)(hb:PW X (.BoolOp .Or (b::a24) pos) tB'):PW X (.BoolOp .Or (a::b::a24) pos) (tOr tA tB'):=by
 intro wh pins s σ H Q I h;refine isTrue_or (thn (ha pins s σ H _ I h) λc s1 ⟨H1,I1,q1⟩=> ?_)
 cases c with
 | true=>exact⟨H1,I1,q1⟩
 | false=>exact hb wh pins s1 σ H1 Q I1 q1
theorem pt_not (ha:PT X a tA):PT X (.UnaryOp .Not a pos) (tNot tA):=by
 intro pins s σ H Q I h;exact isTrue_not (ha pins s σ H (λc H1=>Q (!c) H1) I h)
def tIf (t:TT)(ta tb:TE):TE:=λσ H Q=>t σ H λc H1=>if c=true then ta σ H1 Q else tb σ H1 Q
theorem cK8 {c:Expr}(hc:PT X c tA)(ha:PE X a ta)(hb:PE X b tb):PE X (.IfExp c a b pos) (tIf tA ta tb):=by
 intro pins s σ H Q I h;refine wpAny_IfExp (thn (hc pins s σ H _ I h) λd s1 ⟨H1,I1,q1⟩=> ?_)
 cases d with
 | true=>exact ha pins s1 σ H1 Q I1 q1
 | false=>exact hb pins s1 σ H1 Q I1 q1
end
end L2
namespace L2
open PySem PySem.Spec PyProof.Rows
def SqL (K:Frag)(H:Hp)(a:Addr)(xs:List V):Prop:=
 Rd H a (.lst xs)\/
  ∃(o:Obj) (its:Array Value) (n:Nat),K.lookup a=some o/\o.cls= .type "list"/\o.dict=none/\o.data= .seq its n/\its.size<=sizeLine/\Vals xs its.toList
def SqT (K:Frag)(H:Hp)(a:Addr)(xs:List V):Prop:=
 Rd H a (.tup xs)\/
  ∃(o:Obj) (its:Array Value) (n:Nat),K.lookup a=some o/\o.cls= .type "tuple"/\o.data= .seq its n/\its.size<=sizeLine/\Vals xs its.toList
noncomputable def absV:Value->Option V
 | .none=>some .non
 | .bool b=>some (.bl b)
 | .int i _=>some (.int i)
 | .str x _=>some (.str x)
 | .bytes b _=>some (.byt b)
 | .float b _=>some (.flt b)
 | .ref a=>some (.ref a)
 | .type n=>some (.ty n)
 | _=>none
theorem RelV.abs {x:V}{u:Value}(r:RelV x u):absV u=some x:=by
 cases x with
 | non=>cases r;rfl
 | bl _=>cases r;rfl
 | int _=>obtain⟨t,rfl⟩:=r;rfl
 | str _=>obtain⟨t,rfl⟩:=r;rfl
 | byt _=>obtain⟨t,rfl⟩:=r;rfl
 | flt _=>obtain⟨t,rfl⟩:=r;rfl
 | ref _=>cases r;rfl
 | ty _=>cases r;rfl
theorem RelV.inj {x y:V}{u:Value}(r:RelV x u)(q:RelV y u):x=y:=gF (r.abs.symm.trans q.abs)
theorem Vals.inj: ∀{xs ys:List V} {us:List Value},Vals xs us->Vals ys us->xs=ys
 | _,_,_,.nil,.nil=>rfl
 | _,_,_,.cons r t,.cons r' t'=>by rw[r.inj r',Vals.inj t t']
section
variable {X:Cx}{pins:List (Addr×Obj)}{σ:St}{H:Hp}{s:Shared}{a:Addr}{xs ys:List V}
theorem SqL.of {K:Frag}(h:H a=some (.lst xs)):SqL K H a xs:= .inl (.inl h)
theorem Inv.list (I:Inv X pins σ H s)(h:SqL X.K H a xs): ∃its:List Value,Vals xs its/\PlainL s.heap a its.toArray/\xs.length<=sizeLine:=by
 rcases h with h| ⟨o,its,n,hk,hc,hd,hs,hz,r⟩
 ·obtain⟨z,its,n,r,e⟩:=h.ok I.hok;exact⟨its,r,⟨_,n,e,rfl,rfl,rfl⟩,z⟩
 ·refine⟨its.toList,r,⟨o,n,I.kIn a o hk,hc,hd,by simpa using hs⟩,?_⟩
  have e:=r.length;simp only[aF1]at e
  lia
theorem Inv.tuple (I:Inv X pins σ H s)(h:SqT X.K H a xs): ∃its:List Value,Vals xs its/\IsTup s.heap a its.toArray/\xs.length<=sizeLine:=by
 rcases h with h| ⟨o,its,n,hk,hc,hs,hz,r⟩
 ·obtain⟨z,its,r,p⟩:=h.ok I.hok;exact⟨its,r,p,z⟩
 ·refine⟨its.toList,r,⟨o,I.kIn a o hk,hc,n,by simpa using hs⟩,?_⟩
  have e:=r.length;simp only[aF1]at e
  lia
theorem Inv.list_inj (I:Inv X pins σ H s)(h:SqL X.K H a xs)(h':SqL X.K H a ys):xs=ys:=by
 obtain⟨its,r,⟨o,n,e,_,_,d⟩,_⟩:=I.list h;obtain⟨its',r',⟨o',n',e',_,_,d'⟩,_⟩:=I.list h';rw[e]at e';cases e';rw[d]at d'
 injection d' with d1 _
 have:its=its':=by simpa using bU toList d1
 subst this;exact r.inj r'
theorem Inv.tuple_inj (I:Inv X pins σ H s)(h:SqT X.K H a xs)(h':SqT X.K H a ys):xs=ys:=by
 obtain⟨its,r,⟨o,e,_,n,d⟩,_⟩:=I.tuple h;obtain⟨its',r',⟨o',e',_,n',d'⟩,_⟩:=I.tuple h';rw[e]at e';cases e';rw[d]at d'
 injection d' with d1 _
 have:its=its':=by simpa using bU toList d1
 subst this;exact r.inj r'
end
noncomputable abbrev Cx.wish (X:Cx)(E:Value->Shared->Prop):Cx:={X with xe:=E}
noncomputable abbrev Cx.nox (X:Cx):Cx:=X.wish λ_ _=>False
theorem Cx.Ok.wish {X:Cx}(ok:X.Ok)(E:Value->Shared->Prop):(X.wish E).Ok:=
 ⟨ok.mod,ok.kind,ok.glob,ok.blt,ok.above,ok.inj,ok.has,ok.cab,ok.hd,ok.frames,ok.stk,ok.exf,ok.bs,ok.bsz,ok.noex,ok.exfs,ok.funs,ok.frf⟩
theorem Cx.Ok.unwish {X:Cx}{E:Value->Shared->Prop}(ok:(X.wish E).Ok):X.Ok:=
 ⟨ok.mod,ok.kind,ok.glob,ok.blt,ok.above,ok.inj,ok.has,ok.cab,ok.hd,ok.frames,ok.stk,ok.exf,ok.bs,ok.bsz,ok.noex,ok.exfs,ok.funs,ok.frf⟩
section
variable {X:Cx}{pins:List (Addr×Obj)}{σ:St}{H:Hp}{s:Shared}{E:Value->Shared->Prop}
theorem Inv.wish (I:Inv X pins σ H s)(E:Value->Shared->Prop):Inv (X.wish E) pins σ H s:=⟨I.ok.wish E,I.os,I.bare,I.base,I.loc,I.cell,I.free,I.freeC,I.pin,I.hok,I.len⟩
theorem Inv.unwish (I:Inv (X.wish E) pins σ H s):Inv X pins σ H s:=⟨I.ok.unwish,I.os,I.bare,I.base,I.loc,I.cell,I.free,I.freeC,I.pin,I.hok,I.len⟩
theorem SP.unwish {D:b90}{f:Flow}{s':Shared}(h:SP (X.wish E) pins D f s'):SP X pins D f s':=by
 cases f with
 | next=>obtain⟨σ',H',I,q⟩:=h;exact⟨σ',H',I.unwish,q⟩
 | brk=>obtain⟨σ',H',I,q⟩:=h;exact⟨σ',H',I.unwish,q⟩
 | cont=>obtain⟨σ',H',I,q⟩:=h;exact⟨σ',H',I.unwish,q⟩
 | ret u=>obtain⟨v,σ',H',I,r,q⟩:=h;exact⟨v,σ',H',I.unwish,r,q⟩
theorem PSs.nox {st:List Stmt}{t:TS}(h:PSs X.nox st t):PSs X st t:=λpins s σ H D I hw=>
 bL (h pins s σ H D (I.wish _) hw) (λ_ _ q=>q.unwish) λ_ _ z=>False.elim z
end
section
variable {X:Cx}{st:Stmt}{a24:List Stmt}{t u:TS}{e:Expr}{te:TE}{pos:Pos}
def tNext:TS:=λD σ H=>D.nx σ H
def tSeq (t u:TS):TS:=λD σ H=>t {D with nx:=u D} σ H
theorem d07:PSs X [] tNext:=λ_ _ σ H _ I h=>nG ⟨σ,H,I,h⟩
theorem wX (h1:PS X st t)(h2:PSs X a24 u):PSs X (st::a24) (tSeq t u):=by
 intro pins s σ H D I h;refine tE (thn (h1 pins s σ H {D with nx:=u D} I h) λf s1 q=> ?_)
 cases f with
 | next=>
  obtain⟨σ',H',I',q⟩:=q;exact h2 pins s1 σ' H' D I' q
 | ret v=>exact q
 | brk=>exact q
 | cont=>exact q
theorem bG6 (h1:PS X st t):PSs X [st] t:=by
 intro pins s σ H D I h;refine tE (thn (h1 pins s σ H D I h) λf s1 q=> ?_)
 cases f with
 | next=>exact nG q
 | ret v=>exact q
 | brk=>exact q
 | cont=>exact q
theorem Inv.quiet {pins:List (Addr×Obj)}{σ:St}{H:Hp}{s:Shared}(I:Inv X pins σ H s):interactive X.env=false:=by simp[interactive,I.ok.kind]
def tDrop (te:TE):TS:=λD σ H=>te σ H λ_ H1=>D.nx σ H1
theorem bG7 (he:PE X e te)(hs:swapsWith e none pos.line X.env=pure false:=by rfl):PS X (.Expr e pos) (tDrop te):=by
 intro pins s σ H D I h;exact wpAny_Expr_any (thn (he pins s σ H _ I h) λv s1 ⟨x,H1,I1,r1,q1⟩=>⟨σ,H1,I1,q1⟩) I.quiet hs
def tRet (te:TE):TS:=λD σ H=>te σ H D.rt
theorem cK9 (he:PE X e te):PS X (.Return (some e) pos) (tRet te):=by
 intro pins s σ H D I h;exact wpAny_Return_some (thn (he pins s σ H _ I h) λv s1 ⟨x,H1,I1,r1,q1⟩=>⟨x,σ,H1,I1,r1,q1⟩)
def tIfS (c:TT)(t u:TS):TS:=λD σ H=>c σ H λb H1=>if b=true then t D σ H1 else u D σ H1
theorem dC9 {c:Expr}{a b:List Stmt}{tc:TT}(hc:PT X c tc)(ha:PSs X a t)(hb:PSs X b u):PS X (.If c a b pos) (tIfS tc t u):=by
 intro pins s σ H D I h;refine wpAny_If (thn (hc pins s σ H _ I h) λd s1 ⟨H1,I1,q1⟩=> ?_)
 cases d with
 | true=>exact ha pins s1 σ H1 D I1 q1
 | false=>exact hb pins s1 σ H1 D I1 q1
def tNever:TS:=λ_ _ _=>False
theorem cL0:PS X st tNever:=λ_ _ _ _ _ _ h=>h.elim
end
abbrev TG:=V->St->Hp->(St->Hp->Prop)->Prop
abbrev TGs:=List V->St->Hp->(St->Hp->Prop)->Prop
def PG (X:Cx)(target:Expr)(t:TG):Prop:=
 ∀(pins:List (Addr×Obj)) (s:Shared) (σ:St) (H:Hp) (v:V) (u:Value) (Q:St->Hp->Prop),Inv X pins σ H s->RelV v u->t v σ H Q->
  wpAny (model X.prog X.w) X.A (assign target X.env u) (λ_ s'=> ∃σ' H',Inv X pins σ' H' s'/\Q σ' H') X.xe s
def PGs (X:Cx)(ts:List Expr)(t:TGs):Prop:=
 ∀(pins:List (Addr×Obj)) (s:Shared) (σ:St) (H:Hp) (vs:List V) (us:List Value) (Q:St->Hp->Prop),Inv X pins σ H s->Vals vs us->t vs σ H Q->
  wpAny (model X.prog X.w) X.A (assignInOrder ((assignEach ts X.env).map (·.2)) us) (λ_ s'=> ∃σ' H',Inv X pins σ' H' s'/\Q σ' H') X.xe s
abbrev cL1:=V->V->V->Hp->(Hp->Prop)->Prop
def PSet (X:Cx)(t:cL1):Prop:=
 ∀(pins:List (Addr×Obj)) (s:Shared) (σ:St) (H:Hp) (o i v:V) (ov iv u:Value) (Q:Hp->Prop),Inv X pins σ H s->RelV o ov->RelV i iv->RelV v u->t o i v H Q->
  wpAny (model X.prog X.w) X.A (setItem ov iv u) (λ_ s'=> ∃H',Inv X pins σ H' s'/\Q H') X.xe s
abbrev TIp:=V->V->Hp->VK->Prop
def PIp (X:Cx)(op:Operator)(t:TIp):Prop:=
 ∀(pins:List (Addr×Obj)) (s:Shared) (σ:St) (H:Hp) (x y:V) (v u:Value) (Q:VK),Inv X pins σ H s->RelV x v->RelV y u->t x y H Q->
  wpAny (model X.prog X.w) X.A (inplaceOp op v u) (EP X pins σ Q) X.xe s
section
variable {X:Cx}{pos:Pos}
def aK6 (i:Nat):TG:=λv σ H Q=>Q (σ.set i<|some v) H
theorem dY {i:Nat}{x:Str}(hN:X.N.Nodup)(hi:X.N[i]? =some x)(hx:Loc X.env.scope x)(hf:X.fn x=true\/X.env.scope.names.lookup x=some .local:=by walk_at "z"):PG X (.Name x pos) (aK6 i):=by
 intro pins s σ H v u Q I r h;exact wpAny_assign_Name (aK5 I hN hi hx r (λs' I'=>⟨_,H,I',h⟩) hf)
def gNil:TGs:=λvs σ H Q=>vs=[]/\Q σ H
def gCons (t:TG)(u:TGs):TGs:=λvs σ H Q=> ∃v r,vs=v::r/\t v σ H λσ' H'=>u r σ' H' Q
theorem d08:PGs X [] gNil:=by
 intro pins s σ H vs us Q I r h;obtain⟨e,h⟩:=h;subst e;cases r;exact assignInOrder_nil ⟨σ,H,I,h⟩
theorem cL2 {e:Expr}{es:List Expr}{t:TG}{u:TGs}(h1:PG X e t)(h2:PGs X es u)
  (hs:(assignEach (e::es) X.env).map (·.2)=assign e X.env::(assignEach es X.env).map (·.2):=by rfl):PGs X (e::es) (gCons t u):=by
 intro pins s σ H vs us Q I r h;obtain⟨v,vr,e1,h⟩:=h;subst e1;cases r with
 | cons r rr=>
  rw[hs];refine assignInOrder_cons (thn (h1 pins s σ H _ _ _ I r h) λ_ s1 ⟨σ1,H1,I1,q1⟩=> ?_)
  exact h2 pins s1 σ1 H1 _ _ Q I1 rr q1
def gTup (K:Frag)(n:Nat)(t:TGs):TG:=λv σ H Q=> ∃a xs,v= .ref a/\SqT K H a xs/\xs.length=n/\t xs σ H Q
theorem pg_tup {es:List Expr}{k:Nat}{t:TGs}{n:Nat}(hc:X.calm=true)(h:PGs X es t)
  (hn:(assignEach es X.env).length=n:=by rfl) (hst:(assignEach es X.env).findIdx? (·.1)=none:=by rfl):PG X (.Tuple es k pos) (gTup X.K n t):=by
 intro pins s σ H v u Q I r hw;obtain⟨a,xs,e1,hq,hl,hw⟩:=hw;subst e1;cases r;obtain⟨its,rv,ht,hz⟩:=I.tuple hq;refine assign_Tuple_tuple (I.ok.hd hc) ht (by simp[hn,<-hl,rv.length]) hst λh' hx=> ?_
 have I1:Inv X pins σ H {s with heap:=h'}:=I.kept (t':=s.toks) λb o e=>hx b o (bK<|aQ e) e
 exact h pins _ σ H xs _ Q I1 (by simpa using rv) hw
def gSub (to ti:TE)(t:cL1):TG:=λv σ H Q=>to σ H λo H1=>ti σ H1 λi H2=>t o i v H2 λH3=>Q σ H3
theorem pg_sub {o i:Expr}{to ti:TE}{t:cL1}(ho:PE X o to)(hi:PE X i ti)(hs:PSet X t)
  (ha: ∀v,assign (.Subscript o i pos) X.env v=(do
   let ov<-holding [v] (eval o X.env)
   let iv<-holding [v,ov] (eval i X.env)
   standAt pos
   holding [v,ov,iv] (setItem ov iv v)
   release [v,ov,iv] []):=by intro _;rfl):PG X (.Subscript o i pos) (gSub to ti t):=by
 intro pins s σ H v u Q I r h;rw[ha];refine a8 (j4<|thn (ho pins s σ H _ I h) λov s1 ⟨x,H1,I1,r1,q1⟩=> ?_)
 refine a8 (j4<|thn (hi pins s1 σ H1 _ I1 q1) λiv s2 ⟨y,H2,I2,r2,q2⟩=> ?_)
 refine a8 (pT<|a8<|j4<|thn (hs pins s2 σ H2 x y v ov iv u _ I2 r1 r2 r q2) λ_ s3 ⟨H3,I3,q3⟩=> ?_)
 exact wpAny_release ⟨σ,H3,I3,q3⟩
def d09 (te:TE)(g:TG):TS:=λD σ H=>te σ H λx H1=>g x σ H1 D.nx
theorem cL3 {tg e:Expr}{te:TE}{g:TG}(he:PE X e te)(hg:PG X tg g)(hs:swapsWithSole [tg] e pos.line X.env=pure false:=by rfl)(hw:swappedStores [tg] e X.env=pure none:=by rfl)
  (h1:(assignEach [tg] X.env).map (·.2)=[assign tg X.env]:=by rfl):PS X (.Assign [tg] e pos) (d09 te g):=by
 intro pins s σ H D I h;refine wpAny_Assign_stores (thn (he pins s σ H _ I h) λv s1 ⟨x,H1,I1,r1,q1⟩=> ?_) hs hw
 rw[h1];exact thn (hg pins s1 σ H1 x v _ I1 r1 q1) λ_ s2 q=>q
theorem ps_set {i:Nat}{x:Str}{e:Expr}{te:TE}{pos':Pos}(hN:X.N.Nodup)(hi:X.N[i]? =some x)(hx:Loc X.env.scope x)(he:PE X e te)(hs:swapsWith e (some<|.Name x pos') pos.line X.env=pure false:=by rfl)(hf:X.fn x=true\/X.env.scope.names.lookup x=some .local:=by walk_at "z") :
  PS X (.Assign [.Name x pos'] e pos) (d09 te<|aK6 i):=by
 intro pins s σ H D I h;refine wpAny_Assign_Name (thn (he pins s σ H _ I h) λv s1 ⟨y,H1,I1,r1,q1⟩=> ?_) hs
 exact aK5 I1 hN hi hx r1 (λs2 I2=>⟨_,H1,I2,q1⟩) hf
def tAug (i:Nat)(te:TE)(ti:TIp):TS:=λD σ H=> ∃x,σ[i]? =some (some x)/\te σ H λy H1=>ti x y H1 λz H2=>D.nx (σ.set i<|some z) H2
theorem ps_aug {i:Nat}{x:Str}{e:Expr}{te:TE}{op:Operator}{ti:TIp}{pos':Pos}(hN:X.N.Nodup)(hi:X.N[i]? =some x)(hx:Loc X.env.scope x)(he:PE X e te)(ho:PIp X op ti)(hf:X.fn x=true\/X.env.scope.names.lookup x=some .local:=by walk_at "z") :
  PS X (.AugAssign (.Name x pos') op e pos) (tAug i te ti):=by
 intro pins s σ H D I h;obtain⟨v,e1,h⟩:=h;obtain⟨m,hn,hl⟩:=I.loc;have vis:Vis X.env.scope x:=by rcases hx with k|k;exact .inl k;exact .inr (.inl k)
 obtain⟨u,r,l⟩:=hl i x v hi e1 vis;refine wpAny_AugAssign_Name ?_;have go:wpAny (model X.prog X.w) X.A (eval e X.env) (λw s₂=>wpAny (model X.prog X.w) X.A (inplaceOp op u w) (λr s₃=>wpAny (model X.prog X.w) X.A (storeName X.env x r) (λ_=>SP X pins D .next) X.xe s₃) X.xe s₂) X.xe s:=by
  refine thn (he pins s σ H _ I h) λw s1 ⟨y,H1,I1,r1,q1⟩=> ?_
  refine thn (ho pins s1 σ H1 v y u w _ I1 r r1 q1) λz s2 ⟨zv,H2,I2,r2,q2⟩=> ?_
  exact aK5 I2 hN hi hx r2 (λs3 I3=>⟨_,H2,I3,q2⟩) hf
 rcases l with⟨hk,hm⟩| ⟨hk,c,hc,hcell⟩
 ·exact pF I.ok.kind hk hn hm go
 ·rcases hk with hk|hk
  ·exact wpAny_loadName_cell I.ok.kind hk hc hcell go
  ·rcases hx with k|k
   ·have:X.env.scope.names.lookup x=some .free:=hk;rw[k]at this;cases this
   ·have:X.env.scope.names.lookup x=some .free:=hk;rw[k]at this;cases this
def tAugS (to ti te:TE)(tget:V->V->Hp->VK->Prop)(tip:TIp)(tset:cL1):TS:=λD σ H=>to σ H λo H1=>ti σ H1 λi H2=>tget o i H2 λx H3=>te σ H3 λy H4=>tip x y H4 λz H5=>tset o i z H5 λH6=>D.nx σ H6
def PGet (X:Cx)(t:V->V->Hp->VK->Prop):Prop:=
 ∀(pins:List (Addr×Obj)) (s:Shared) (σ:St) (H:Hp) (o i:V) (ov iv:Value) (Q:VK),Inv X pins σ H s->RelV o ov->RelV i iv->t o i H Q->
  wpAny (model X.prog X.w) X.A (getItem ov iv) (EP X pins σ Q) X.xe s
theorem d10 {o i e:Expr}{to ti te:TE}{tget:V->V->Hp->VK->Prop}{tip:TIp}{tset:cL1}{op:Operator}{tpos:Pos}(ho:PE X o to)(hi:PE X i ti)(hg:PGet X tget)(he:PE X e te)(hp:PIp X op tip)(hs:PSet X tset)
  (ha: ∀ov iv new,augStore i ov iv new=(do holding [new,ov,iv] (setItem ov iv new);release [new,ov,iv] [];pure .next):=by intros;rfl):PS X (.AugAssign (.Subscript o i tpos) op e pos) (tAugS to ti te tget tip tset):=by
 intro pins s σ H D I h;refine wpAny_AugAssign_SubscriptAny (thn (ho pins s σ H _ I h) λov s1 ⟨x1,H1,I1,r1,q1⟩=> ?_) ha
 refine thn (hi pins s1 σ H1 _ I1 q1) λiv s2 ⟨x2,H2,I2,r2,q2⟩=> ?_
 refine thn (hg pins s2 σ H2 x1 x2 ov iv _ I2 r1 r2 q2) λold s3 ⟨x3,H3,I3,r3,q3⟩=> ?_
 refine thn (he pins s3 σ H3 _ I3 q3) λv s4 ⟨x4,H4,I4,r4,q4⟩=> ?_
 refine thn (hp pins s4 σ H4 x3 x4 old v _ I4 r3 r4 q4) λnew s5 ⟨x5,H5,I5,r5,q5⟩=> ?_
 exact thn (hs pins s5 σ H5 x1 x2 x5 ov iv new _ I5 r1 r2 r5 q5) λ_ s6 ⟨H6,I6,q6⟩=>⟨σ,H6,I6,q6⟩
def ipI (f:Int->Int->Int):TIp:=λx y H Q=> ∃i j,x= .int i/\y= .int j/\Q (.int<|f i j) H
theorem ip_add:PIp X .Add (ipI λi j=>i+j):=by
 intro pins s σ H x y v u Q I r1 r2 h;obtain⟨i,j,e1,e2,q⟩:=h;subst e1;subst e2;obtain⟨t,rfl⟩:=r1;obtain⟨t',rfl⟩:=r2;exact iadd_int ⟨.int _,H,I.tok _,⟨_,rfl⟩,q⟩
theorem cL4:PIp X .Sub (ipI λi j=>i-j):=by
 intro pins s σ H x y v u Q I r1 r2 h;obtain⟨i,j,e1,e2,q⟩:=h;subst e1;subst e2;obtain⟨t,rfl⟩:=r1;obtain⟨t',rfl⟩:=r2;exact isub_int ⟨.int _,H,I.tok _,⟨_,rfl⟩,q⟩
end
section
variable {X:Cx}{pos:Pos}
def tWhile (c:TT)(tb:TS):TS:=λD σ H=> ∃W:Nat->St->Hp->Prop,(∃m,W m σ H)/\ ∀m σ H,W m σ H->
 c σ H λb H1=>if b=true then ∃N:St->Hp->Prop,(∀σ' H',N σ' H'-> ∃m',m'<m/\W m' σ' H')/\tb {D with nx:=N,ct:=N,bk:=D.nx} σ H1 else D.nx σ H1
theorem cL5 {c:Expr}{body:List Stmt}{tc:TT}{tb:TS}(hp:PassesOwn (model X.prog X.w) X.A X.env X.xe)(hc:PT X c tc)(hb:PSs X body tb):PS X (.While c body [] pos) (tWhile tc tb):=by
 intro pins s σ H D I h;obtain⟨W,⟨m0,w0⟩,turn⟩:=h;refine wpAny_While (codeAny_whileLoop (λn s'=> ∃σ' H',Inv X pins σ' H' s'/\W n σ' H') ?_ m0 ⟨σ,H,I,w0⟩)
 rintro n s1 ⟨σ1,H1,I1,w1⟩;refine nI hp (thn (hc pins s1 σ1 H1 _ I1<|turn n σ1 H1 w1) λb s2 ⟨H2,I2,q2⟩=> ?_)
 cases b with
 | true=>
  obtain⟨N,hN,q2⟩:=q2;rw[a7 rfl];refine nI hp (thn (hb pins s2 σ1 H2 _ I2 q2) λf s3 q3=> ?_)
  cases f with
  | next=>
   obtain⟨σ3,H3,I3,n3⟩:=q3;obtain⟨m',hm,w3⟩:=hN σ3 H3 n3;exact⟨m',hm,σ3,H3,I3,w3⟩
  | cont=>
   obtain⟨σ3,H3,I3,n3⟩:=q3;obtain⟨m',hm,w3⟩:=hN σ3 H3 n3;exact⟨m',hm,σ3,H3,I3,w3⟩
  | brk=>exact q3
  | ret v=>exact q3
 | false=>
  rw[a6 bI];exact nG ⟨σ1,H2,I2,q2⟩
end
structure It where
 go:Nat->Hp->Prop
 yld:Nat->Hp->V->Hp->Prop
 stop:Nat->Hp->Prop
def aP7 (X:Cx)(pins:List (Addr×Obj))(H:Hp)(b:Addr):Prop:=
 H b=none/\b≠X.env.locals/\b ∉ X.fs/\(b∈X.ex\/X.s₀.heap.objs.size<=b)/\(∀x c,X.env.cells.lookup x=some c->c≠b)/\ ∀p∈X.pn++pins,p.1≠b
theorem Inv.fpOk {X:Cx}{pins:List (Addr×Obj)}{σ:St}{H H':Hp}{s:Shared}{b:Addr}(I:Inv X pins σ H s)(hb:s.heap.objs.size<=b)(hn:H' b=none):aP7 X pins H' b:=by
 refine⟨hn,pY<|aX I.lt hb,I.nofs hb,.inr<|aL I.sz hb,λx c e z=> ?_,λp hp z=> ?_⟩
 ·obtain⟨v,q⟩:=I.cell x c e;exact absurd (aX q.lt (by rw[z];exact hb)) (dI _)
 ·exact absurd (aX (aQ (I.pin p hp).1) (by rw[z];exact hb)) (dI _)
structure bP5 (P:Program)(w:World)(K:Frag)(tg:Expr)(J:It)(fp:List Addr)(it:Addr)(tn:Nat->Heap->Prop):Prop where
 mem:it∈fp
 obj: ∀i h,tn i h-> ∀b∈fp,∃o,h.get? b=some o/\ ∀v,o.data≠ .cell v
 keep: ∀i h h',tn i h->(∀b∈fp,∀o,h.get? b=some o->h'.get? b=some o)->tn i h'
 item: ∀(X:Cx),X.prog=P->X.w=w->X.K=K->X.calm=true-> ∀(i:Nat) (pins:List (Addr×Obj)) (s:Shared) (σ:St) (H:Hp) (E:Value->Shared->Prop),Inv X pins σ H s->(∀b∈fp,aP7 X pins H b)->tn i s.heap->J.go i H->
  wpAny (model P w) X.A (pyNext<|.ref it) (λr s1=> ∃u,r=some u/\
   wpAny (model P w) X.A (letOwnedTupleGo tg (.ref it) u) (λ_ s2=> ∃x H',Inv X pins σ H' s2/\RelV x u/\J.yld i H x H'/\tn (i+1) s2.heap/\ ∀b∈fp,H' b=none) E s1) E s
 done: ∀(X:Cx),X.prog=P->X.w=w->X.K=K->X.calm=true-> ∀(i:Nat) (pins:List (Addr×Obj)) (s:Shared) (σ:St) (H:Hp) (E:Value->Shared->Prop),Inv X pins σ H s->(∀b∈fp,aP7 X pins H b)->tn i s.heap->J.stop i H->
  wpAny (model P w) X.A (pyNext<|.ref it) (λr s1=>r=none/\Inv X pins σ H s1) E s
 self: ∀(A:Around) (i:Nat) (s:Shared) (Q:Value->Shared->Prop) (E:Value->Shared->Prop),tn i s.heap->Q (.ref it) s->wpAny (model P w) A (pyIter<|.ref it) Q E s
abbrev TI:=St->Hp->(It->Hp->Prop)->Prop
def PIE (X:Cx)(pins:List (Addr×Obj))(σ:St)(tg:Expr)(R:It->Hp->Prop)(itv:Value)(s2:Shared):Prop:=
 ∃(it:Addr) (fp:List Addr) (tn:Nat->Heap->Prop) (J:It) (H':Hp),itv= .ref it/\Inv X pins σ H' s2/\bP5 X.prog X.w X.K tg J fp it tn/\tn 0 s2.heap/\(∀b∈fp,aP7 X pins H' b)/\R J H'
def PI (X:Cx)(tg iter:Expr)(wi:TI):Prop:=
 ∀(pins:List (Addr×Obj)) (s:Shared) (σ:St) (H:Hp) (R:It->Hp->Prop),Inv X pins σ H s->wi σ H R->
  wpAny (model X.prog X.w) X.A (eval iter X.env) (λv s1=>wpAny (model X.prog X.w) X.A (pyIter v) (PIE X pins σ tg R) X.xe s1) X.xe s
theorem bP6 {M:Model}{A:Around}{E:Value->Shared->Prop}{s:Shared}{tg:Expr}{it:Addr}{u:Value}{o:Obj}{n:String}{vs:Array Value}{Q:Unit->Shared->Prop}(ho:s.heap.get? it=some o)(hc:o.cls= .type n)(hd:o.data= .fields vs)
  (hn:["enumerate","zip","dict_itemiterator","dict_reverseitemiterator","odict_iterator","itertools.zip_longest","itertools.pairwise"].contains n=false) (hQ:Q () s):wpAny M A (letOwnedTupleGo tg (.ref it) u) Q E s:=by
 unfold letOwnedTupleGo;cases tg<;>first
  | exact aI hQ
  | (cases u<;>first
    | exact aI hQ
    | (refine a8 (wpAny_load ho ?_)
       rw[hc,hd];show wpAny M A (if(["enumerate","zip","dict_itemiterator","dict_reverseitemiterator","odict_iterator","itertools.zip_longest","itertools.pairwise"].contains n&&vs[0]? ==some (rawInt _))=true then _ else _) Q E s;rw[a6 (by intro h;rw[hn,Bool.false_and]at h;cases h)]
       exact aI hQ))
noncomputable def Itl (K:Frag)(a:Addr):It:=
 ⟨λi H=> ∃xs x,SqL K H a xs/\xs[i]? =some x,λi H x H'=>H'=H/\ ∀xs,SqL K H a xs->xs[i]? =some x,λi H=> ∃xs,SqL K H a xs/\xs.length<=i⟩
noncomputable def Itt (K:Frag)(a:Addr):It:=
 ⟨λi H=> ∃xs x,SqT K H a xs/\xs[i]? =some x,λi H x H'=>H'=H/\ ∀xs,SqT K H a xs->xs[i]? =some x,λi H=> ∃xs,SqT K H a xs/\xs.length<=i⟩
noncomputable def Itr (lo:Int)(n:Nat):It:=⟨λi _=>i<n,λi H x H'=>H'=H/\x= .int (lo+i),λi _=>n<=i⟩
theorem cE0 {P:Program}{w:World}{K:Frag}{tg:Expr}(a it:Addr):bP5 P w K tg (Itl K a) [it] it (λi h=>h.IsListIter it a i) where
 mem:=ae
 obj:=λi h st b hb=>by
  have e:b=it:=by simpa using hb
  subst e;obtain⟨o,e,c,d⟩:=st;exact⟨o,e,λv z=>by rw[d]at z;cases z⟩
 keep:=λi h h' st k=>st.at λo e=>k it ae o e
 item:=by
  intro X hP hw hK hc i pins s σ H E I hf st hg;subst hP hw hK;obtain⟨xs,x,hq,hx⟩:=hg;obtain⟨its,rv,p,hz⟩:=I.list hq;obtain⟨u,hu,ru⟩:=rv.get hx;obtain⟨f0,f1,f2,f3,f4,f5⟩:=hf it ae
  refine wpAny_pyNext_list_item st p.isList (x:=u) (by simpa using hu) λh' st' sb=> ?_
  have I1:Inv X pins σ H {s with heap:=h'}:=I.turned (t':=s.toks) (λb o hb e=>(sb.2 b hb).trans e) f0 f1 f3 f4 f5
  obtain⟨o,e,c,d⟩:=id st';exact⟨u,rfl,bP6 (s:={s with heap:=h'}) e c d ac ⟨x,H,I1,ru,⟨rfl,λys hy=>by rw[I.list_inj hy hq];exact hx⟩,st',λb hb=>(hf b hb).1⟩⟩
 done:=by
  intro X hP hw hK hc i pins s σ H E I hf st hg;subst hP hw hK;obtain⟨xs,hq,hx⟩:=hg;obtain⟨its,rv,p,hz⟩:=I.list hq;obtain⟨f0,f1,f2,f3,f4,f5⟩:=hf it ae
  have hl:=rv.length;exact wpAny_pyNext_list_end (I.ok.hd hc) st p.isList (by simp;lia) λh' eb=>⟨rfl,I.turned (t':=s.toks) (λb o hb e=>eb b o hb e) f0 f1 f3 f4 f5⟩
 self:=λ_ _ _ _ _ st h=>wpAny_pyIter_listiter st h
theorem c01 {P:Program}{w:World}{K:Frag}{tg:Expr}(a it:Addr):bP5 P w K tg (Itt K a) [it] it (λi h=>h.IsTupleIter it a i) where
 mem:=ae
 obj:=λi h st b hb=>by
  have e:b=it:=by simpa using hb
  subst e;obtain⟨o,e,c,d⟩:=st;exact⟨o,e,λv z=>by rw[d]at z;cases z⟩
 keep:=λi h h' st k=>st.at λo e=>k it ae o e
 item:=by
  intro X hP hw hK hc i pins s σ H E I hf st hg;subst hP hw hK;obtain⟨xs,x,hq,hx⟩:=hg;obtain⟨its,rv,p,hz⟩:=I.tuple hq;obtain⟨u,hu,ru⟩:=rv.get hx;obtain⟨f0,f1,f2,f3,f4,f5⟩:=hf it ae
  refine wpAny_pyNext_tuple_item st (show s.heap.IsTuple a its.toArray from p) (x:=u) (by simpa using hu) λh' st' sb=> ?_
  have I1:Inv X pins σ H {s with heap:=h'}:=I.turned (t':=s.toks) (λb o hb e=>(sb.2 b hb).trans e) f0 f1 f3 f4 f5
  obtain⟨o,e,c,d⟩:=id st';exact⟨u,rfl,bP6 (s:={s with heap:=h'}) e c d ac ⟨x,H,I1,ru,⟨rfl,λys hy=>by rw[I.tuple_inj hy hq];exact hx⟩,st',λb hb=>(hf b hb).1⟩⟩
 done:=by
  intro X hP hw hK hc i pins s σ H E I hf st hg;subst hP hw hK;obtain⟨xs,hq,hx⟩:=hg;obtain⟨its,rv,p,hz⟩:=I.tuple hq;obtain⟨f0,f1,f2,f3,f4,f5⟩:=hf it ae
  have hl:=rv.length;exact wpAny_pyNext_tuple_end (I.ok.hd hc) st (show s.heap.IsTuple a its.toArray from p) (by simp;lia) λh' eb=>⟨rfl,I.turned (t':=s.toks) (λb o hb e=>eb b o hb e) f0 f1 f3 f4 f5⟩
 self:=λ_ _ _ _ _ st h=>wpAny_pyIter_tupleiter st h
theorem c02 {P:Program}{w:World}{K:Frag}{tg:Expr}(it:Addr)(lo:Int)(n:Nat):bP5 P w K tg (Itr lo n) [it] it (λi h=>IsRangeIter h it (lo+(i:Nat)*1) ((n:Int)-(i:Nat)) 1) where
 mem:=ae
 obj:=λi h st b hb=>by
  have e:b=it:=by simpa using hb
  subst e;exact⟨_,st,λv z=>by
   have z':Data.fields _=Data.cell v:=z;cases z'⟩
 keep:=λi h h' st k=>k it ae _ st
 item:=by
  intro X hP hw hK hc i pins s σ H E I hf st hg;subst hP hw hK;obtain⟨f0,f1,f2,f3,f4,f5⟩:=hf it ae
  have W:=Walks.range (prog:=X.prog) (w:=X.w) (I.ok.hd hc) it lo 1 n;refine W.item i s _ _ hg st λv h' tk hv st' kk=> ?_
  obtain⟨t,rfl⟩:=hv;have I1:Inv X pins σ H {s with heap:=h',toks:=tk}:=I.turned (λb o hb e=>kk b o (by simpa using hb) e) f0 f1 f3 f4 f5
  refine⟨_,rfl,bP6 (s:={s with heap:=h',toks:=tk}) (n:="range_iterator") st' rfl rfl ac ⟨.int<|lo+i,H,I1,⟨t,?_⟩,⟨rfl,rfl⟩,st',λb hb=>(hf b hb).1⟩⟩
  rw[iG]
 done:=by
  intro X hP hw hK hc i pins s σ H E I hf st hg;subst hP hw hK;obtain⟨f0,f1,f2,f3,f4,f5⟩:=hf it ae
  exact wpAny_pyNext_range_end (I.ok.hd hc) st (by have:n<=i:=hg;lia) λh' eb=>⟨rfl,I.turned (t':=s.toks) (λb o hb e=>eb b o hb e) f0 f1 f3 f4 f5⟩
 self:=λ_ _ _ _ _ st h=>aD8 st h
end L2
namespace L2
open PySem PySem.Spec PyProof.Rows
section
variable {X:Cx}{tg:Expr}
theorem bP7 {pins:List (Addr×Obj)}{σ:St}{H:Hp}{s:Shared}{R:It->Hp->Prop}{E:Value->Shared->Prop}{lo hi:Int}{t u v:Tok}{tk:Nat}(I:Inv X pins σ H s)(h1: -(2^62)<=lo)(h2:lo<2^62)(h3: -(2^62)<=hi)(h4:hi<2^62)
  (q:R (Itr lo (hi-lo).toNat) H):wpAny (model X.prog X.w) X.A (pyIter<|.ref s.heap.objs.size) (PIE X pins σ tg R) E {s with heap:=s.heap.push {cls:= .type "range",data:= .fields #[.int lo t,.int hi u,.int 1 v]},toks:=tk}:=by
 refine wpAny_pyIter_range (IsRange.new ..) (small_one h1 h2 h3 h4) ?_
 have I1:Inv X pins σ H {s with heap:=s.heap.push {cls:= .type "range",data:= .fields #[.int lo t,.int hi u,.int 1 v]},toks:=tk}:=I.kept λb o e=>aO _ e
 refine⟨(s.heap.push {cls:= .type "range",data:= .fields #[.int lo t,.int hi u,.int 1 v]}).objs.size,[(s.heap.push {cls:= .type "range",data:= .fields #[.int lo t,.int hi u,.int 1 v]}).objs.size],_,_,H,rfl,
  I1.kept (t':=tk) λb o e=>aO _ e,c02 _ lo (hi-lo).toNat,?_,λb hb=> ?_,q⟩
 ·have e1:lo+((0:Nat):Int)*1=lo:=ae
  have e2:(((hi-lo).toNat:Nat):Int)-((0:Nat):Int)=Builtin.Range.rangeSize lo hi 1:=by rw[rangeSize_one];split<;>lia
  show IsRangeIter _ _ (lo+((0:Nat):Int)*1) ((((hi-lo).toNat:Nat):Int)-((0:Nat):Int)) 1
  rw[e1,e2];exact bY _ rfl
 ·have e:b=(s.heap.push {cls:= .type "range",data:= .fields #[.int lo t,.int hi u,.int 1 v]}).objs.size:=by simpa using hb
  subst e;exact I1.fpOk (aB _) (I1.hok.fresh<|aB _)
def iRng1 (ta:TA):TI:=λσ H R=>ta σ H λvs H1=> ∃j:Int,vs=[.int j]/\ -(2^62)<=j/\j<2^62/\R (Itr 0 j.toNat) H1
def iRng2 (ta:TA):TI:=λσ H R=>ta σ H λvs H1=> ∃i j:Int,vs=[.int i,.int j]/\(-(2^62)<=i/\i<2^62/\ -(2^62)<=j/\j<2^62)/\R (Itr i (j-i).toNat) H1
theorem cE1 {a:Expr}{ta:TA}{p pos:Pos}(hg:Gl X "range")(hm:X.mg "range"=none)(ha:PA X [a] ta)(hs:starEach [a] X.env=[(false,eval a X.env)]:=by rfl):PI X tg (.Call (.Name "range" p) [a] [] pos) (iRng1 ta):=by
 intro pins s σ H R I h;refine Call_ (vR I hg hm boot_range<|jN (thn (ha pos pins s σ H _ I h) λus s1 ⟨vs,H1,I1,r1,q1⟩=> ?_) hs rfl)
 obtain⟨j,e,q1,q2,q⟩:=q1;subst e;cases r1 with
 | cons r rr=>
  cases rr;obtain⟨t,rfl⟩:=r;exact call_range_1 (bP7 I1 ad ad q1 q2<|by simpa using q)
theorem cE2 {a b:Expr}{ta:TA}{p pos:Pos}(hg:Gl X "range")(hm:X.mg "range"=none)(ha:PA X [a,b] ta)(hs:starEach [a,b] X.env=[(false,eval a X.env),(false,eval b X.env)]:=by rfl)(hs2:starEach [b] X.env=[(false,eval b X.env)]:=by rfl) :
  PI X tg (.Call (.Name "range" p) [a,b] [] pos) (iRng2 ta):=by
 intro pins s σ H R I h;refine Call_ (vR I hg hm boot_range<|jN (thn (ha pos pins s σ H _ I h) λus s1 ⟨vs,H1,I1,r1,q1⟩=> ?_) (by rw[hs,hs2]) (by rw[hs2];rfl))
 obtain⟨i,j,e,⟨q1,q2,q3,q4⟩,q⟩:=q1;subst e;cases r1 with
 | cons r rr=>
  cases rr with
  | cons r' rr=>
   cases rr;obtain⟨t,rfl⟩:=r;obtain⟨t',rfl⟩:=r';exact call_range_2 (bP7 I1 q1 q2 q3 q4 q)
def tFor (wi:TI)(g:TG)(tb:TS):TS:=λD σ H=>wi σ H λJ H1=> ∃W:Nat->Nat->St->Hp->Prop,(∃m,W 0 m σ H1)/\ ∀i m σ H,W i m σ H->
 (J.stop i H/\D.nx σ H)\/(J.go i H/\ ∃N:St->Hp->Prop,(∀σ' H',N σ' H'-> ∃m',m'<m/\W (i+1) m' σ' H')/\ ∀x H',J.yld i H x H'->g x σ H' λσ2 H2=>tb {D with nx:=N,ct:=N,bk:=D.nx} σ2 H2)
noncomputable def aZ5 (fp:List Addr)(h:Heap):List (Addr×Obj):=fp.filterMap λb=>(h.get? b).map λo=>(b,o)
theorem yU {fp:List Addr}{h:Heap}{b:Addr}{o:Obj}(hb:b∈fp)(e:h.get? b=some o):(b,o)∈aZ5 fp h:=aF3.mpr ⟨b,hb,by rw[e];rfl⟩
theorem cE3 {fp:List Addr}{h:Heap}{p:Addr×Obj}(hp:p∈aZ5 fp h):p.1∈fp/\h.get? p.1=some p.2:=by
 obtain⟨b,hb,e⟩:=aF3.mp hp;cases q:h.get? b with
 | none=>rw[q]at e;cases e
 | some o=>
  rw[q]at e;have e':(b,o)=p:=gF e;subst e';exact⟨hb,q⟩
theorem Inv.pinned {pins:List (Addr×Obj)}{σ:St}{H:Hp}{s:Shared}{fp:List Addr}(I:Inv X pins σ H s)(hf: ∀b∈fp,aP7 X pins H b)(ho: ∀b∈fp,∃o,s.heap.get? b=some o/\ ∀v,o.data≠ .cell v):Inv X (pins++aZ5 fp s.heap) σ H s:=
 I.pins_of λp hp=>(bC.mp hp).elim (λz=>I.pin p (fT _ z)) λz=>by
  obtain⟨hb,e⟩:=cE3 z;obtain⟨f0,f1,f2,_⟩:=hf p.1 hb;obtain⟨o,e',d⟩:=ho p.1 hb;rw[e]at e';cases e';exact⟨e,f0,f1,f2,d⟩
theorem Inv.unpinned {pins pl:List (Addr×Obj)}{σ:St}{H:Hp}{s:Shared}(I:Inv X (pins++pl) σ H s):Inv X pins σ H s:=I.pins_of λp hp=>I.pin p (fT _<|xV _ hp)
theorem ps_for {iter:Expr}{body:List Stmt}{wi:TI}{g:TG}{tb:TS}{pos:Pos}(hp:PassesOwn (model X.prog X.w) X.A X.env X.xe)(hc:X.calm=true)(hi:PI X tg iter wi)(hg:PG X tg g)(hb:PSs X body tb)
  (hs: ∀x,foldedSetIterable iter X.env x=pure x:=by intro _;rfl):PS X (.For tg iter body [] pos) (tFor wi g tb):=by
 intro pins s σ H D I h;refine wpAny_For (thn (hi pins s σ H _ I h) λv s1 h1=>thn h1 λitv s2 h2=> ?_) hs
 obtain⟨it,fp,tn,J,H2,e,I2,T,st2,f2,W,⟨m0,w0⟩,turn⟩:=h2;subst e;have stat: ∀{H':Hp},(∀b∈fp,H' b=none)-> ∀b∈fp,aP7 X pins H' b:=λhn b hb=>⟨hn b hb,(f2 b hb).2⟩
 refine codeAny_forLoop_any (λn s'=> ∃i σ' H',Inv X pins σ' H' s'/\tn i s'.heap/\(∀b∈fp,H' b=none)/\W i n σ' H') ?_ m0 ⟨0,σ,H2,I2,st2,λb hb=>(f2 b hb).1,w0⟩
 rintro n s3 ⟨i,σ3,H3,I3,st3,fr3,w3⟩;rcases turn i n σ3 H3 w3 with⟨stop,qn⟩| ⟨go,N,hN,step⟩
 ·refine nI hp (thn (T.done X rfl rfl rfl hc i pins s3 σ3 H3 X.xe I3 (stat fr3) st3 stop) λr s4 ⟨hr,I4⟩=> ?_)
  subst hr;exact nG ⟨σ3,H3,I4,qn⟩
 ·refine nI hp (thn (T.item X rfl rfl rfl hc i pins s3 σ3 H3 X.xe I3 (stat fr3) st3 go) λr s4 ⟨u,hr,h4⟩=> ?_)
  subst hr;refine nI hp (thn h4 λ_ s5 ⟨x,H5,I5,r5,y5,st5,fr5⟩=> ?_)
  have I5':=I5.pinned (stat fr5) (T.obj _ _ st5);refine nI hp (thn (hg _ s5 σ3 H5 x u _ I5' r5<|step x H5 y5) λ_ s6 ⟨σ6,H6,I6,q6⟩=> ?_)
  refine nI hp (thn (hb _ s6 σ6 H6 _ I6 q6) λf s7 q7=> ?_)
  have again: ∀{σ7:St} {H7:Hp},Inv X (pins++aZ5 fp s5.heap) σ7 H7 s7->N σ7 H7-> ∃m,m<n/\ ∃i σ' H',Inv X pins σ' H' s7/\tn i s7.heap/\(∀b∈fp,H' b=none)/\W i m σ' H':=λ{σ7 H7} I7 n7=>by
   obtain⟨m',hm,w7⟩:=hN σ7 H7 n7;refine⟨m',hm,i+1,σ7,H7,I7.unpinned,T.keep _ _ _ st5 λb hb o e=>(I7.pin (b,o)<|fT _<|fT _<|yU hb e).1,λb hb=> ?_,w7⟩
   obtain⟨o,e,d⟩:=T.obj _ _ st5 b hb;exact(I7.pin (b,o)<|fT _<|fT _<|yU hb e).2.1
  cases f with
  | next=>obtain⟨σ7,H7,I7,n7⟩:=q7;exact again I7 n7
  | cont=>obtain⟨σ7,H7,I7,n7⟩:=q7;exact again I7 n7
  | brk=>obtain⟨σ7,H7,I7,q7⟩:=q7;exact⟨σ7,H7,I7.unpinned,q7⟩
  | ret v=>obtain⟨x7,σ7,H7,I7,r7,q7⟩:=q7;exact⟨x7,σ7,H7,I7.unpinned,r7,q7⟩
end
end L2
namespace L2
open PySem PySem.Spec PyProof.Rows
abbrev R2:=V->V->Hp->VK->Prop
def OpR (X:Cx)(f:Value->Value->Sem Value)(r:R2):Prop:=
 ∀(pins:List (Addr×Obj)) (s:Shared) (σ:St) (H:Hp) (x y:V) (v u:Value) (Q:VK),Inv X pins σ H s->RelV x v->RelV y u->r x y H Q->
  wpAny (model X.prog X.w) X.A (f v u) (EP X pins σ Q) X.xe s
def UnR (X:Cx)(f:Value->Sem Value)(r:V->Hp->VK->Prop):Prop:=
 ∀(pins:List (Addr×Obj)) (s:Shared) (σ:St) (H:Hp) (x:V) (v:Value) (Q:VK),Inv X pins σ H s->RelV x v->r x H Q->
  wpAny (model X.prog X.w) X.A (f v) (EP X pins σ Q) X.xe s
def sD (X:Cx)(f:Value)(r:List V->Hp->VK->Prop):Prop:=
 ∀(pins:List (Addr×Obj)) (s:Shared) (σ:St) (H:Hp) (xs:List V) (us:List Value) (Q:VK),Inv X pins σ H s->Vals xs us->r xs H Q->
  wpAny (model X.prog X.w) X.A (call f us) (EP X pins σ Q) X.xe s
def tOp (r:R2)(ta tb:TE):TE:=λσ H Q=>ta σ H λx H1=>tb σ H1 λy H2=>r x y H2 Q
def tUn (r:V->Hp->VK->Prop)(ta:TE):TE:=λσ H Q=>ta σ H λx H1=>r x H1 Q
def rI (C:Int->Int->Prop)(g:Int->Int->V):R2:=λx y H Q=> ∃i j,x= .int i/\y= .int j/\C i j/\Q (g i j) H
def rI0 (g:Int->Int->V):R2:=λx y H Q=> ∃i j,x= .int i/\y= .int j/\Q (g i j) H
def rU (g:Int->V):V->Hp->VK->Prop:=λx H Q=> ∃i,x= .int i/\Q (g i) H
section
variable {X:Cx}{a b c:Expr}{ta tb tc:TE}{pos:Pos}
theorem binT (ha:PE X a ta)(hb:PE X b tb){pins:List (Addr×Obj)}{s:Shared}{σ:St}{H:Hp}{R:V->V->Hp->Prop}(I:Inv X pins σ H s)
  (h:ta σ H λx H1=>tb σ H1 λy H2=>R x y H2) {Q:Value->Shared->Prop} {f:Value->Value->Sem Value}
  (hf: ∀v u s2 x y H2,Inv X pins σ H2 s2->RelV x v->RelV y u->R x y H2->wpAny (model X.prog X.w) X.A (f v u) Q X.xe s2) :
  wpAny (model X.prog X.w) X.A (eval a X.env) (λv s₁=>wpAny (model X.prog X.w) X.A (eval b X.env) (λu s₂=>wpAny (model X.prog X.w) X.A (f v u) Q X.xe s₂) X.xe s₁) X.xe s:=by
 refine thn (ha pins s σ H _ I h) λv s1 ⟨x,H1,I1,r1,q1⟩=> ?_
 refine thn (hb pins s1 σ H1 _ I1 q1) λu s2 ⟨y,H2,I2,r2,q2⟩=> ?_
 exact hf v u s2 x y H2 I2 r1 r2 q2
theorem pe_op {op:Operator}{r:R2}(ho:OpR X (binaryOp op) r)(ha:PE X a ta)(hb:PE X b tb):PE X (.BinOp a op b pos) (tOp r ta tb):=by
 intro pins s σ H Q I h;exact wpAny_BinOp (binT ha hb I h λv u s2 x y H2 I2 rx ry q=>ho pins s2 σ H2 x y v u Q I2 rx ry q)
theorem pe_un {op:UnaryOp}{r:V->Hp->VK->Prop}(ho:UnR X (unaryOp op) r)(ha:PE X a ta):PE X (.UnaryOp op a pos) (tUn r ta):=by
 intro pins s σ H Q I h;exact UnaryOp_ (thn (ha pins s σ H _ I h) λv s1 ⟨x,H1,I1,r1,q1⟩=>ho pins s1 σ H1 x v Q I1 r1 q1)
theorem opI {f:Value->Value->Sem Value}{C:Int->Int->Prop}{g:Int->Int->Int}
  (rule: ∀(i j:Int) (t u:Tok) (s:Shared) (Q:Value->Shared->Prop) (E:Value->Shared->Prop),C i j->Q (.int (g i j) s.toks) {s with toks:=s.toks+1}->wpAny (model X.prog X.w) X.A (f (.int i t)<|.int j u) Q E s) :
  OpR X f (rI C λi j=> .int (g i j)):=by
 intro pins s σ H x y v u Q I rx ry h;obtain⟨i,j,rfl,rfl,hc,q⟩:=h;obtain⟨t,rfl⟩:=rx;obtain⟨t',rfl⟩:=ry;exact rule i j t t' s _ _ hc ⟨.int<|g i j,H,I.tok _,⟨_,rfl⟩,q⟩
theorem opI0 {f:Value->Value->Sem Value}{g:Int->Int->Int}
  (rule: ∀(i j:Int) (t u:Tok) (s:Shared) (Q:Value->Shared->Prop) (E:Value->Shared->Prop),Q (.int (g i j) s.toks) {s with toks:=s.toks+1}->wpAny (model X.prog X.w) X.A (f (.int i t)<|.int j u) Q E s) :
  OpR X f (rI0 λi j=> .int (g i j)):=by
 intro pins s σ H x y v u Q I rx ry h;obtain⟨i,j,rfl,rfl,q⟩:=h;obtain⟨t,rfl⟩:=rx;obtain⟨t',rfl⟩:=ry;exact rule i j t t' s _ _ ⟨.int<|g i j,H,I.tok _,⟨_,rfl⟩,q⟩
theorem d11 {f:Value->Value->Sem Value}{g:Int->Int->Bool}
  (rule: ∀(i j:Int) (t u:Tok) (s:Shared) (Q:Value->Shared->Prop) (E:Value->Shared->Prop),Q (.bool<|g i j) s->wpAny (model X.prog X.w) X.A (f (.int i t)<|.int j u) Q E s) :
  OpR X f (rI0 λi j=> .bl (g i j)):=by
 intro pins s σ H x y v u Q I rx ry h;obtain⟨i,j,rfl,rfl,q⟩:=h;obtain⟨t,rfl⟩:=rx;obtain⟨t',rfl⟩:=ry;exact rule i j t t' s _ _ ⟨.bl<|g i j,H,I,rfl,q⟩
def d12 (i j:Int):Prop:=0<=j/\j<=1000000/\i.natAbs<2^64
def c03 (i j:Int):Prop:=(-(2^64)<i/\i<2^64)\/(-(2^64)<j/\j<2^64)
theorem c03.ok {i j:Int}(h:c03 i j):IntMulOk i j:=by
 rcases h with⟨h1,h2⟩| ⟨h1,h2⟩
 ·exact .of_left (intBits_le_64 h1 h2)
 ·exact .of_right (intBits_le_64 h1 h2)
theorem op_add:OpR X (binaryOp .Add) (rI0 λi j=> .int (i+j)):=opI0 λ_ _ _ _ _ _ _ q=>add_int q
theorem op_sub:OpR X (binaryOp .Sub) (rI0 λi j=> .int (i-j)):=opI0 λ_ _ _ _ _ _ _ q=>sub_int q
theorem d13:OpR X (binaryOp .Mod) (rI (λ_ j=>j≠0) λi j=> .int (i.fmod j)):=opI λ_ _ _ _ _ _ _ hc q=>mod_int' hc q
theorem op_pow:OpR X (binaryOp .Pow) (rI d12 λi j=> .int (i^j.toNat)):=opI λ_ _ _ _ _ _ _ hc q=>pow_int_small hc.1 hc.2.1 hc.2.2 q
theorem unI {f:Value->Sem Value}{g:Int->Int}
  (rule: ∀(i:Int) (t:Tok) (s:Shared) (Q:Value->Shared->Prop) (E:Value->Shared->Prop),Q (.int (g i) s.toks) {s with toks:=s.toks+1}->wpAny (model X.prog X.w) X.A (f<|.int i t) Q E s) :
  UnR X f (rU λi=> .int (g i)):=by
 intro pins s σ H x v Q I rx h;obtain⟨i,rfl,q⟩:=h;obtain⟨t,rfl⟩:=rx;exact rule i t s _ _ ⟨.int<|g i,H,I.tok _,⟨_,rfl⟩,q⟩
theorem un_neg:UnR X (unaryOp .USub) (rU λi=> .int (-i)):=unI λ_ _ _ _ _ q=>neg_int q
end
noncomputable def scal:V->V->Bool
 | .non,.non=>true| .non,.int _=>true| .int _,.non=>true| .non,.bl _=>true| .bl _,.non=>true| .non,.str _=>true| .str _,.non=>true
 | .int _,.int _=>true| .bl _,.bl _=>true| .str _,.str _=>true| .byt _,.byt _=>true
 | .int _,.str _=>true| .str _,.int _=>true| .bl _,.str _=>true| .str _,.bl _=>true
 | _,_=>false
noncomputable def rEq:R2:=λx y H Q=>scal x y=true/\Q (.bl<|decide (x=y)) H
noncomputable def rNe:R2:=λx y H Q=>scal x y=true/\Q (.bl<|!decide (x=y)) H
theorem aX8 {i j:Int}:decide (V.int i=V.int j)=(i==j):=by
 rw[tG];simp
theorem bG8 {i j:Bool}:decide (V.bl i=V.bl j)=(i==j):=by
 rw[tG];simp
theorem aX9 {i j:Str}:decide (V.str i=V.str j)=(i==j):=by
 rw[tG];simp
theorem c82 {i j:Array UInt8}:decide (V.byt i=V.byt j)=(i.toList==j.toList):=by
 rw[tG];cases i;cases j;simp
section
variable {X:Cx}{a b c:Expr}{ta tb tc:TE}{pos:Pos}
theorem fO {pins:List (Addr×Obj)}{σ:St}{H:Hp}{s:Shared}{Q:VK}{k k':Bool}(I:Inv X pins σ H s)(q:Q (.bl k) H)(e:k=k'):EP X pins σ Q (.bool k') s:=by
 subst e;exact⟨.bl k,H,I,rfl,q⟩
theorem cL6:OpR X (compareOp .Eq) rEq:=by
 intro pins s σ H x y v u Q I rx ry h;obtain⟨hs,q⟩:=h;cases x with
 | non=>
  cases rx;cases y with
  | non=>cases ry;exact PySem.EqNone.eq_none_none (fO I q ae)
  | bl j=>cases ry;exact PySem.EqNone.eq_none_bool (fO I q ae)
  | int j=>obtain⟨t',rfl⟩:=ry;exact PySem.EqNone.eq_none_int (fO I q ae)
  | str j=>obtain⟨t',rfl⟩:=ry;exact PySem.EqNone.eq_none_str (fO I q ae)
  | _=>exact absurd (show false=true from hs) bI
 | bl i=>
  cases rx;cases y with
  | non=>cases ry;exact PySem.EqNone.eq_bool_none (fO I q ae)
  | bl j=>cases ry;exact eq_bool (fO I q bG8)
  | str j=>obtain⟨t',rfl⟩:=ry;exact PySem.EqMixed.eq_bool_str (fO I q ae)
  | _=>exact absurd (show false=true from hs) bI
 | int i=>
  obtain⟨t,rfl⟩:=rx;cases y with
  | non=>cases ry;exact PySem.EqNone.eq_int_none (fO I q ae)
  | int j=>obtain⟨t',rfl⟩:=ry;exact eq_int (fO I q aX8)
  | str j=>obtain⟨t',rfl⟩:=ry;exact PySem.EqMixed.eq_int_str (fO I q ae)
  | _=>exact absurd (show false=true from hs) bI
 | str i=>
  obtain⟨t,rfl⟩:=rx;cases y with
  | non=>cases ry;exact PySem.EqNone.eq_str_none (fO I q ae)
  | bl j=>cases ry;exact PySem.EqMixed.eq_str_bool (fO I q ae)
  | int j=>obtain⟨t',rfl⟩:=ry;exact PySem.EqMixed.eq_str_int (fO I q ae)
  | str j=>obtain⟨t',rfl⟩:=ry;exact eq_str (fO I q aX9)
  | _=>exact absurd (show false=true from hs) bI
 | byt i=>
  obtain⟨t,rfl⟩:=rx;cases y with
  | byt j=>obtain⟨t',rfl⟩:=ry;exact PySem.W.eq_bytes (fO I q c82)
  | _=>exact absurd (show false=true from hs) bI
 | _=>cases y<;>exact absurd (show false=true from hs) bI
theorem cL7:OpR X (compareOp .NotEq) rNe:=by
 intro pins s σ H x y v u Q I rx ry h;obtain⟨hs,q⟩:=h;cases x with
 | non=>
  cases rx;cases y with
  | non=>cases ry;exact PySem.EqNone.ne_none_none (fO I q ae)
  | bl j=>cases ry;exact PySem.EqNone.ne_none_bool (fO I q ae)
  | int j=>obtain⟨t',rfl⟩:=ry;exact PySem.EqNone.ne_none_int (fO I q ae)
  | str j=>obtain⟨t',rfl⟩:=ry;exact PySem.EqNone.ne_none_str (fO I q ae)
  | _=>exact absurd (show false=true from hs) bI
 | bl i=>
  cases rx;cases y with
  | non=>cases ry;exact PySem.EqNone.ne_bool_none (fO I q ae)
  | bl j=>cases ry;exact ne_bool (fO I q<|bU not bG8)
  | str j=>obtain⟨t',rfl⟩:=ry;exact PySem.EqMixed.ne_bool_str (fO I q ae)
  | _=>exact absurd (show false=true from hs) bI
 | int i=>
  obtain⟨t,rfl⟩:=rx;cases y with
  | non=>cases ry;exact PySem.EqNone.ne_int_none (fO I q ae)
  | int j=>obtain⟨t',rfl⟩:=ry;exact ne_int (fO I q<|bU not aX8)
  | str j=>obtain⟨t',rfl⟩:=ry;exact PySem.EqMixed.ne_int_str (fO I q ae)
  | _=>exact absurd (show false=true from hs) bI
 | str i=>
  obtain⟨t,rfl⟩:=rx;cases y with
  | non=>cases ry;exact PySem.EqNone.ne_str_none (fO I q ae)
  | bl j=>cases ry;exact PySem.EqMixed.ne_str_bool (fO I q ae)
  | int j=>obtain⟨t',rfl⟩:=ry;exact PySem.EqMixed.ne_str_int (fO I q ae)
  | str j=>obtain⟨t',rfl⟩:=ry;exact ne_str (fO I q<|bU not aX9)
  | _=>exact absurd (show false=true from hs) bI
 | byt i=>
  obtain⟨t,rfl⟩:=rx;cases y with
  | byt j=>obtain⟨t',rfl⟩:=ry;exact PySem.W.ne_bytes (fO I q<|bU not c82)
  | _=>exact absurd (show false=true from hs) bI
 | _=>cases y<;>exact absurd (show false=true from hs) bI
theorem op_lt:OpR X (compareOp .Lt) (rI0 λi j=> .bl (decide (i<j))):=d11 λ_ _ _ _ _ _ _ q=>lt_int q
theorem op_le:OpR X (compareOp .LtE) (rI0 λi j=> .bl (decide (i<=j))):=d11 λ_ _ _ _ _ _ _ q=>le_int q
theorem op_gt:OpR X (compareOp .Gt) (rI0 λi j=> .bl (decide (j<i))):=d11 λ_ _ _ _ _ _ _ q=>gt_int q
theorem op_ge:OpR X (compareOp .GtE) (rI0 λi j=> .bl (decide (j<=i))):=d11 λ_ _ _ _ _ _ _ q=>ge_int q
theorem aZ6 (b:Expr){op:CmpOp}(h:op≠ .In:=by decide)(h2:op≠ .NotIn:=by decide):behindInMarks op b=false:=by
 have e1:(op==CmpOp.In)=false:=by cases op<;>first|rfl|exact absurd rfl h
 have e2:(op==CmpOp.NotIn)=false:=by cases op<;>first|rfl|exact absurd rfl h2
 cases b<;>simp[behindInMarks,e1,e2]
theorem d14 {op:CmpOp}{r:R2}(ho:OpR X (compareOp op) r)(ha:PE X a ta)(hb:PE X b tb)(hm:behindInMarks op b=false):PE X (.Compare a [op] [b] pos) (tOp r ta tb):=by
 intro pins s σ H Q I h;exact wpAny_Compare1 (binT ha hb I h λv u s2 x y H2 I2 rx ry q=>ho pins s2 σ H2 x y v u Q I2 rx ry q) hm
def tTest (t:TE):TT:=λσ H Q=>t σ H λx H'=> ∃k,x= .bl k/\Q k H'
theorem d15 {op:CmpOp}{r:R2}(ho:OpR X (compareOp op) r)(ha:PE X a ta)(hb:PE X b tb)(hm:behindInMarks op b=false):PT X (.Compare a [op] [b] pos) (tTest<|tOp r ta tb):=by
 intro pins s σ H Q I h;refine wpAny_isTrue_Compare1 (thn (ha pins s σ H _ I h) λv s1 ⟨x,H1,I1,r1,q1⟩=>thn (hb pins s1 σ H1 _ I1 q1) λu s2 ⟨y,H2,I2,r2,q2⟩=>
  thn (ho pins s2 σ H2 x y v u _ I2 r1 r2 q2) λc s3 ⟨z,H3,I3,r3,k,e,q3⟩=> ?_) hm
 subst e;cases r3;exact y9 ⟨H3,I3,q3⟩
theorem aP8:(sizeLine:Nat)<2^63:=by rw[sizeLine_eq];decide
theorem vals1 {x:V}{us:List Value}(r:Vals [x] us): ∃u,us=[u]/\RelV x u:=by
 cases r with
 | cons r1 r2=>cases r2;exact⟨_,rfl,r1⟩
theorem vals2 {x y:V}{us:List Value}(r:Vals [x,y] us): ∃u w',us=[u,w']/\RelV x u/\RelV y w':=by
 cases r with
 | cons r1 r2=>
  cases r2 with
  | cons r3 r4=>cases r4;exact⟨_,_,rfl,r1,r3⟩
theorem cL8:sD X (.builtin "abs") (λxs H Q=> ∃i,xs=[.int i]/\Q (.int<|if i<0 then -i else i) H):=by
 intro pins s σ H xs us Q I r h;obtain⟨i,rfl,q⟩:=h;obtain⟨u,rfl,t,rfl⟩:=vals1 r;exact call_abs_int λu tk=>⟨.int<|if i<0 then -i else i,H,I.tok _,⟨_,rfl⟩,q⟩
theorem cE4 (hc:X.calm=true):sD X (.builtin "max") (λxs H Q=> ∃i j,xs=[.int i,.int j]/\Q (.int<|if j>i then j else i) H):=by
 intro pins s σ H xs us Q I r h;obtain⟨i,j,rfl,q⟩:=h;obtain⟨u,w',rfl,⟨t,rfl⟩,⟨t',rfl⟩⟩:=vals2 r;refine max_two_ints (I.ok.hd hc) λh' tk k=>⟨_,H,I.kept k,?_,q⟩
 by_cases hj:j>i
 ·rw[a7 hj,a7 hj];exact⟨_,rfl⟩
 ·rw[a6 hj,a6 hj];exact⟨_,rfl⟩
theorem cE5 (hc:X.calm=true):sD X (.builtin "min") (λxs H Q=> ∃i j,xs=[.int i,.int j]/\Q (.int<|if j<i then j else i) H):=by
 intro pins s σ H xs us Q I r h;obtain⟨i,j,rfl,q⟩:=h;obtain⟨u,w',rfl,⟨t,rfl⟩,⟨t',rfl⟩⟩:=vals2 r;refine min_two_ints (I.ok.hd hc) λh' tk k=>⟨_,H,I.kept k,?_,q⟩
 by_cases hj:j<i
 ·rw[a7 hj,a7 hj];exact⟨_,rfl⟩
 ·rw[a6 hj,a6 hj];exact⟨_,rfl⟩
theorem bC2:sD X (.type "int") (λxs H Q=>(∃i,xs=[.int i]/\Q (.int i) H)\/ ∃k,xs=[.bl k]/\Q (.int<|if k then 1 else 0) H):=by
 intro pins s σ H xs us Q I r h;rcases h with⟨i,rfl,q⟩| ⟨k,rfl,q⟩
 ·obtain⟨u,rfl,t,rfl⟩:=vals1 r;exact call_int_int ⟨.int i,H,I,⟨_,rfl⟩,q⟩
 ·obtain⟨u,rfl,r1⟩:=vals1 r;cases r1;exact call_int_bool ⟨.int<|if k then 1 else 0,H,I.tok _,⟨_,rfl⟩,q⟩
end
end L2
namespace L2
open PySem PySem.Spec PyProof.Rows
structure cE6 (h:Heap)(x dx C:Addr)(mA:Str->Option Value):Prop where
 obj:h.get? x=some (instObj C dx)
 ns:h.Ns1 dx mA
 ne:dx≠x
theorem cE7 {h:Heap}{dx:Addr}{mA:Str->Option Value}(n:h.Ns1 dx mA): ∃od,h.get? dx=some od/\ ∀name,lookIn name od=some (mA name):=by
 obtain⟨o,es,ep,ho,hd,hk,_,hm⟩:=n;refine⟨o,ho,λname=> ?_⟩
 have e:=hm name;unfold nsFind findBy at e;rw[<-Array.find?_toList]at e;unfold lookIn;rw[hd];dsimp only;split
 ·rename_i y q
  rw[q]at e;exact bU some e
 ·rename_i q
  rw[q]at e;have a:es.toList.any (·.refKey)=false:=by
   rw[List.any_eq_false];intro y hy;obtain⟨z,t,hkey⟩:=hk y (Array.mem_toList_iff.mp hy);simp[DictEntry.refKey,hkey]
  have a': ¬es.toList.any (·.refKey)=true:=by rw[a];exact bI
  rw[a6 a'];exact bU some e
theorem cE6.look {h:Heap}{x dx C:Addr}{mA:Str->Option Value}(I:cE6 h x dx C mA): ∃od,InstAt h x (instObj C dx) C (some od)/\ ∀name,lookIn name od=some (mA name):=
 let ⟨od,ho,hl⟩:=cE7 I.ns
 ⟨od,⟨I.obj,rfl,rfl,ho⟩,hl⟩
section
variable {prog:Program}{w:World}{A:Around}{E:Value->Shared->Prop}{s:Shared}{K:Frag}{x dx C f:Addr}{mA:Str->Option Value}{name:Str}{v:Value}
theorem d16 {expr:Bool}{Q:Value->Shared->Prop}(X:K.In s.heap)(I:cE6 s.heap x dx C mA)(hg:plainGet K C name=true)(hh:hasDictIn K C=true)
  (ha:findIn K (.ref C) name=some none) (hv:mA name=some v) (hv':PySem.W.handedIn v=true) (h:Q v {s with toks:=s.toks+1}) :
  wpAny (model prog w) A (getAttr (.ref x) name expr) Q E s:=by
 obtain⟨od,J,hl⟩:=I.look;exact PySem.W.get_value X J (PySem.W.plainGet_of hg).1 (PySem.W.findObj_own hh ha rfl (by rw[hl,hv])) hv' h
theorem d17 {ns:List Str}{Q:Unit->Shared->Prop}(X:K.In s.heap)(I:cE6 s.heap x dx C mA)
  (hs:findIn K (.ref C) "__setattr__"=some (some<|.builtin "object.__setattr__")) (hp:plainOver K C=true) (ht:takerIn K C name=some none) (hh:hasDictIn K C=true)
  (hw:PySem.Within mA ns) (hsz:ns.length<=sizeLine)
  (h: ∀h',cE6 h' x dx C (λy=>if y=name then some v else mA y)->SameBut dx s.heap h'->Q () {s with heap:=h',toks:=s.toks+2}) :
  wpAny (model prog w) A (setAttr (.ref x) name v) Q E s:=by
 obtain⟨od,J,hl⟩:=I.look;refine PySem.W.set_plain X J hs (PySem.W.osa_open (s:={s with toks:=s.toks+1}) (r:=none) X J hp ht λb=> ?_)
 obtain⟨cd,hc,hd'⟩:=PySem.W.any_some hh;have hx:s.heap.get? x=some ⟨.ref C,some dx,.plain,#[]⟩:=I.obj;refine a8 (aI<|a8<|a8<|wpAny_loadPart hx<|a8<|PySem.W.Looks.here (s:={s with toks:=s.toks+1}) (aF2 X hc) ?_);rw[hd'];refine aI (a:=some dx) (a8<|aI<|a8 ?_);refine wpAny_nsSet1 (s:={s with toks:=s.toks+1}) I.ns λh' hn2 hs2=> ?_
 obtain⟨oD,esD,epD,hoD,hdD,hcD⟩:=hn2.count (PySem.Within.cons name v hw);refine a8 (wpAny_lookBehind hoD (by rw[hdD];exact pastItsLine_dict (aL hcD (by rw[j1];lia))) ?_)
 exact aI (h _ ⟨(hs2.2 _<|Ne.symm I.ne).trans I.obj,hn2,I.ne⟩ hs2)
theorem bP8 {R:Result->Shared->Prop}{vs:List Value}{kw:List (Str×Value)}(X:K.In s.heap)(hm:makesIn K C=true)
  (hi:findIn K (.ref C) "__init__"=some (some<|.ref f)) (hf:PySem.W.typeIn K (.ref f)=some (.type "function"))
  (h:codeAny (model prog w) (A.under<|.builtin "type.__call__" ⟨.ref C::vs,kw⟩) (.call (.ref f) ⟨.ref (s.heap.objs.size+1)::vs,kw⟩) (PySem.W.InitBack (s.heap.objs.size+1) R)
   {s with heap:=(s.heap.push emptyDict).push (instObj C s.heap.objs.size)}) :
  codeAny (model prog w) A (.call (.ref C) ⟨vs,kw⟩) R s:=by
 obtain⟨hh,g,d,t,os⟩:=s;exact PySem.W.make_core (PySem.W.makes_of X hm) (PySem.W.looks_findIn X hi) (λself=>PySem.W.bind_fn X self hf) (.inl rfl) h
end
noncomputable def uY (f:Str)(v:V):List (Str×V)->List (Str×V)
 | []=>[(f,v)]
 | (g,x)::r=>if g=f then(g,v)::r else(g,x)::uY f v r
theorem aT8 (f g:Str)(v:V): ∀fs:List (Str×V),(uY f v fs).lookup g=if g=f then some v else fs.lookup g
 | []=>by
  show List.lookup g [(f,v)]=_
  by_cases h:g=f
  ·have hb:(g==f)=true:=gJ.mpr h;simp only[List.lookup,hb,a7 h]
  ·have hb:(g==f)=false:=pH.mpr h;simp only[List.lookup,hb,a6 h]
 | (k,x)::r=>by
  have ih:=aT8 f g v r;rw[show uY f v ((k,x)::r)=(if k=f then(k,v)::r else(k,x)::uY f v r)from rfl]
  by_cases hk:k=f
  ·rw[a7 hk]
   by_cases h:g=k
   ·have hb:(g==k)=true:=gJ.mpr h;simp only[List.lookup,hb,a7<|h.trans hk]
   ·have hb:(g==k)=false:=pH.mpr h;simp only[List.lookup,hb,a6 (λe:g=f=>h (e.trans hk.symm))]
  ·rw[a6 hk]
   by_cases h:g=k
   ·have hb:(g==k)=true:=gJ.mpr h;simp only[List.lookup,hb,a6 (λe:g=f=>hk (h.symm.trans e))]
   ·have hb:(g==k)=false:=pH.mpr h;simp only[List.lookup,hb];exact ih
theorem aP9 (f:Str)(v:V): ∀fs:List (Str×V),f∈(uY f v fs).map (·.1)/\ ∀g,g∈fs.map (·.1)->g∈(uY f v fs).map (·.1)
 | []=>⟨by simp[uY],λg h=>by simp at h⟩
 | (k,x)::r=>by
  obtain⟨i1,i2⟩:=aP9 f v r;rw[show uY f v ((k,x)::r)=(if k=f then(k,v)::r else(k,x)::uY f v r)from rfl]
  by_cases hk:k=f
  ·rw[a7 hk];subst hk;exact⟨ae,λg h=>by simpa using h⟩
  ·rw[a6 hk];refine⟨?_,λg h=> ?_⟩
   ·rw[d6];exact bF _ i1
   ·rw[d6]at h⊢;rcases aY.mp h with e|e
    ·exact aY.mpr (.inl e)
    ·exact bF _ (i2 g e)
theorem aT9 (f:Str)(v:V): ∀fs:List (Str×V),(uY f v fs).length<=fs.length+1
 | []=>by simp[uY]
 | (k,x)::r=>by
  have ih:=aT9 f v r;rw[show uY f v ((k,x)::r)=(if k=f then(k,v)::r else(k,x)::uY f v r)from rfl]
  by_cases hk:k=f
  ·rw[a7 hk,j1,j1];lia
  ·rw[a6 hk,j1,j1];lia
theorem c00.some_of {v:V}{o:Option Value}(r:c00 (some v) o): ∃u,o=some u/\RelV v u:=by
 cases o with
 | none=>exact(show False from r).elim
 | some u=>exact⟨u,rfl,r⟩
theorem cE8 {v:V}{u:Value}(r:RelV v u):PySem.W.handedIn u=true:=by
 cases v with
 | non=>cases (show u=Value.none from r);rfl
 | bl b=>cases (show u=Value.bool b from r);rfl
 | int i=>obtain⟨t,e⟩:=(show ∃t,u=Value.int i t from r);cases e;rfl
 | str x=>obtain⟨t,e⟩:=(show ∃t,u=Value.str x t from r);cases e;rfl
 | byt b=>obtain⟨t,e⟩:=(show ∃t,u=Value.bytes b t from r);cases e;rfl
 | flt b=>obtain⟨t,e⟩:=(show ∃t,u=Value.float b t from r);cases e;rfl
 | ref a=>cases (show u=Value.ref a from r);rfl
 | ty n=>cases (show u=Value.type n from r);rfl
section
variable {P:Program}{w:World}{H H':Hp}{h h':Heap}{a C dx:Addr}{fs fs':List (Str×V)}
theorem c83 (hok:HOk P w H h)(e:H a=some (.ins C dx fs)): ∃mA,cE6 h a dx C mA/\(∀f,c00 (fs.lookup f)<|mA f)/\PySem.Within mA (fs.map (·.1))/\fs.length<=1000/\H dx=some (.own a):=by
 obtain⟨d,z,ne,ob,mA,n,r,q⟩:=(show qX P w H h a (.ins C dx fs)from hok a _ e)
 exact⟨mA,⟨ob,n,ne⟩,r,q,z,d⟩
end
structure Cls (K:Frag)(C:Addr):Prop where
 pg:plainGet K C Str.empty=true
 hd:hasDictIn K C=true
 po:plainOver K C=true
 sa:findIn K (.ref C) "__setattr__"=some (some<|.builtin "object.__setattr__")
theorem Cls.get {K:Frag}{C:Addr}(c:Cls K C)(f:Str):plainGet K C f=true:=c.pg
def a25 (K:Frag)(C:Addr)(f:Str):Prop:=findIn K (.ref C) f=some none
theorem a25.taker {K:Frag}{C:Addr}{f:Str}(n:a25 K C f):takerIn K C f=some none:=by
 unfold takerIn;rw[show findIn K (.ref C) f=some none from n]
 rfl
section
variable {X:Cx}{pins:List (Addr×Obj)}{σ:St}{H:Hp}{s:Shared}{a C dx:Addr}{fs:List (Str×V)}{f:Str}{v:V}{A:Around}{E:Value->Shared->Prop}
theorem c04 {b:Bool}{Q:Value->Shared->Prop}(I:Inv X pins σ H s)(e:H a=some (.ins C dx fs))(c:Cls X.K C)(n:a25 X.K C f)(l:fs.lookup f=some v)
  (h: ∀u s',Inv X pins σ H s'->RelV v u->Q u s'):wpAny (model X.prog X.w) A (getAttr (.ref a) f b) Q E s:=by
 obtain⟨mA,O,r,_,_,_⟩:=c83 I.hok e;obtain⟨u,hu,ru⟩:=c00.some_of (v:=v) (o:=mA f) (by rw[<-l];exact r f)
 exact d16 I.kIn O (c.get f) c.hd n hu (cE8 ru) (h u _ (I.tok _) ru)
theorem c05 {y:V}{u:Value}{Q:Unit->Shared->Prop}(I:Inv X pins σ H s)(e:H a=some (.ins C dx fs))(c:Cls X.K C)(n:a25 X.K C f)(hl:fs.length<1000)(ry:RelV y u)
  (h: ∀s',Inv X pins σ (upd H a<|.ins C dx<|uY f y fs) s'->Q () s'):wpAny (model X.prog X.w) A (setAttr (.ref a) f u) Q E s:=by
 obtain⟨mA,O,r,wi,_,ho⟩:=c83 I.hok e;have hz:(fs.map (·.1)).length<=sizeLine:=by rw[aC,sizeLine_eq];lia
 refine d17 I.kIn O c.sa c.po n.taker c.hd wi hz λh' O' sb=>h _ ?_
 have hd: ∃o,h'.get? dx=some o:=let ⟨o,_,_,e',_⟩:=O'.ns;⟨o,e'⟩;refine I.write (x:=a) (e:=dx) (by rw[e];exact True.intro) (.inr ho) (λb q hb z=>(sb.2 b hb).trans z) hd ?_
 refine⟨by rw[cE O.ne];exact ho,?_,O.ne,O'.obj,_,O'.ns,λg=> ?_,λg hg=> ?_⟩
 ·have:=aT9 f y fs;lia
 ·show c00 ((uY f y fs).lookup g) (if g=f then some u else mA g)
  rw[aT8]
  by_cases q:g=f
  ·rw[a7 q,a7 q];exact ry
  ·rw[a6 q,a6 q];exact r g
 ·by_cases q:g=f
  ·rw[q];exact(aP9 f y fs).1
  ·refine(aP9 f y fs).2 g (wi g λz=>hg ?_)
   show(if g=f then some u else mA g)=none
   rw[a6 q];exact z
theorem Inv.made (I:Inv X pins σ H s):Inv X pins σ (upd (upd H s.heap.objs.size<|.own<|s.heap.objs.size+1) (s.heap.objs.size+1)<|.ins C s.heap.objs.size [])
  {s with heap:=(s.heap.push emptyDict).push (instObj C s.heap.objs.size)}:=by
 have e1:(s.heap.push emptyDict).get? s.heap.objs.size=some emptyDict:=bY s.heap rfl;have e2:((s.heap.push emptyDict).push<|instObj C s.heap.objs.size).get? (s.heap.objs.size+1)=some (instObj C s.heap.objs.size):=by
  have:=bY (s.heap.push emptyDict) (o:=instObj C s.heap.objs.size) rfl
  rwa [j3]at this
 have e3:(s.heap.push emptyDict).Ns s.heap.objs.size (λ_=>none):=⟨emptyDict,#[],_,e1,rfl,(λe he=>absurd he ae),λ_=>rfl⟩
 have I1:=I.laid (a:=s.heap.objs.size) (o:= .own (s.heap.objs.size+1)) (h':=s.heap.push emptyDict) (t':=s.toks) (λb u q=>aO _ q) (aB _) ⟨_,e1⟩
 refine I1.laid (a:=s.heap.objs.size+1) (o:= .ins C s.heap.objs.size []) (t':=s.toks) (λb u q=>aO _ q) (le_of_eq<|j3 _ _) ?_
 have ne:s.heap.objs.size≠s.heap.objs.size+1:=bK (pQ _);refine⟨by rw[cE ne,iT],eO _,ne,e2,λ_=>none,(Heap.Ns1.of_empty e3).at λo q=>aO _ q,λ_=>True.intro,λy hy=>absurd rfl hy⟩
theorem d18 {prog:Program}{w:World}{env:Env}{e:Expr}{f:Str}{pos:Pos}{s:Shared}{Q:Value->Shared->Prop}(hb:attributeBase e f env (eval e env)=eval e env)
  (h:wpAny (model prog w) A (eval e env) (λo s₁=>wpAny (model prog w) A (getAttr o f true) Q E s₁) E s):wpAny (model prog w) A (eval (.Attribute e f pos) env) Q E s:=
 Attribute_any_ h (by rw[arm_eval_Attribute,hb])
end
def tFld (K:Frag)(ta:TE)(f:Str):TE:=λσ H Q=>ta σ H λx H1=> ∃a C dx fs v,x= .ref a/\H1 a=some (.ins C dx fs)/\Cls K C/\a25 K C f/\fs.lookup f=some v/\Q v H1
def cL9 (K:Frag)(ta tv:TE)(f:Str):TS:=λD σ H=>tv σ H λy H1=>ta σ H1 λx H2=> ∃a C dx fs,x= .ref a/\H2 a=some (.ins C dx fs)/\Cls K C/\a25 K C f/\fs.length<1000/\
 D.nx σ (upd H2 a<|.ins C dx<|uY f y fs)
section
variable {X:Cx}{o e value:Expr}{f:Str}{pos pos' tpos:Pos}{ta tv:TE}
theorem pe_fld (he:PE X e ta)(hb:attributeBase e f X.env (eval e X.env)=eval e X.env):PE X (.Attribute e f pos) (tFld X.K ta f):=by
 intro pins s σ H Q I h;refine d18 hb (thn (he pins s σ H _ I h) λu s1 zz=> ?_)
 obtain⟨x,H1,I1,rx,a,C,dx,fs,v,ex,ea,c,n,l,q⟩:=zz;subst ex;obtain rfl:u=Value.ref a:=rx;exact c04 I1 ea c n l λu' s2 I2 ru=>⟨v,H1,I2,ru,q⟩
theorem c06 (ha:PE X o ta)(hv:PE X value tv)(hs:swapsWith value (some<|.Attribute o f pos') pos.line X.env=pure false):PS X (.Assign [.Attribute o f pos'] value pos) (cL9 X.K ta tv f):=by
 intro pins s σ H D I h;refine aD0 (thn (hv pins s σ H _ I h) λu s1 ⟨y,H1,I1,ry,q⟩=>thn (ha pins s1 σ H1 _ I1 q) λov s2 zz=> ?_) hs
 obtain⟨x,H2,I2,rx,a,C,dx,fs,ex,ea,c,n,l,q2⟩:=zz;subst ex;obtain rfl:ov=Value.ref a:=rx;exact c05 I2 ea c n l ry λs3 I3=>⟨σ,_,I3,q2⟩
end
end L2
namespace L2
open PySem PySem.Spec PyProof.Rows
structure hZ (k:Nat)(A:Around):Prop where
 hd:A.handled=none
 dp:A.depth+3*k+5<recursionLimit
 un:A.units+16*k+200<cLine
theorem hZ.mono {j k:Nat}{A:Around}(r:hZ k A)(h:j<=k):hZ j A:=⟨r.hd,by have:=r.dp;lia,by have:=r.un;lia⟩
theorem hZ.deeper {k:Nat}{A:Around}(r:hZ (k+1) A)(env:Env):hZ k (A.deeper env):=
 ⟨r.hd,by have:=r.dp;show A.depth+1+3*k+5<_;lia,by have:=r.un;show A.units+3+16*k+200<_;lia⟩
theorem c07 {A:Around}{C:Addr}{us:List Value}{kw:List (Str×Value)}:(A.under<|.builtin "type.__call__" ⟨.ref C::us,kw⟩).depth=A.depth+1:=by
 first|rfl|simp[Around.under,Code.weight,Code.isCreation,Code.isGuard,Code.isCaller,Code.frames,Code.isFrame,guardIds]
theorem c08 {A:Around}{C:Addr}{us:List Value}{kw:List (Str×Value)}:(A.under<|.builtin "type.__call__" ⟨.ref C::us,kw⟩).units=A.units+1:=by
 first|rfl|simp[Around.under,Code.cUnits,Code.frames,Code.isFrame]
theorem hZ.make {k:Nat}{A:Around}(r:hZ (k+1) A)(C:Addr)(us:List Value)(kw:List (Str×Value)):hZ k (A.under<|.builtin "type.__call__" ⟨.ref C::us,kw⟩):=
 ⟨r.hd,by have:=r.dp;rw[c07];omega,by have:=r.un;rw[c08];omega⟩
theorem hZ.depth {k:Nat}{A:Around}(r:hZ k A):A.depth<recursionLimit:=by have:=r.dp;lia
theorem hZ.units {k:Nat}{A:Around}(r:hZ k A):A.units+64<cLine:=by have:=r.un;lia
def tNil:TA:=λ_ H Q=>Q [] H
def tCons (ta:TE)(tr:TA):TA:=λσ H Q=>ta σ H λx H1=>tr σ H1 λxs H2=>Q (x::xs) H2
section
variable {X:Cx}{e:Expr}{es:List Expr}{te:TE}{t:TA}{pos:Pos}
theorem c09:PA X [] tNil:=λ_ _ _ _ H Q I h=>Calls.spliced_nil ⟨[],H,I,.nil,h⟩
theorem bG9 (ha:PE X e te)(hr:PA X es t)(hs:starEach (e::es) X.env=(false,eval e X.env)::starEach es X.env:=by rfl):PA X (e::es) (tCons te t):=by
 intro pos pins s σ H Q I h;rw[hs];show wpAny _ _ (spliced ((false,eval e X.env)::backTo pos (starEach es X.env))) _ _ s;refine Calls.spliced_cons (thn (ha pins s σ H _ I h) λu s1 ⟨x,H1,I1,r1,q1⟩=> ?_)
 exact thn (hr pos pins s1 σ H1 _ I1 q1) λus s2 ⟨xs,H2,I2,r2,q2⟩=>⟨x::xs,H2,I2,.cons r1 r2,q2⟩
def tTup (t:TA):TE:=λσ H Q=>t σ H λxs H1=>xs.length<=sizeLine/\ ∀p,H1 p=none->Q (.ref p) (upd H1 p<|.tup xs)
def tLst (t:TA):TE:=λσ H Q=>t σ H λxs H1=>xs.length<=sizeLine/\ ∀p,H1 p=none->Q (.ref p) (upd H1 p<|.lst xs)
theorem pe_tup {x1}(h:PA X es t):PE X (.Tuple es x1 pos) (tTup t):=by
 intro pins s σ H Q I hq;refine wpAny_Tuple_spliced (thn (h pos pins s σ H _ I hq) λus s1 ⟨xs,H1,I1,r,z,q⟩=>⟨by rw[<-r.length];exact z,?_⟩)
 have hf:H1 s1.heap.objs.size=none:=I1.hok.fresh (aB _);refine⟨.ref s1.heap.objs.size,upd H1 s1.heap.objs.size<|.tup xs,I1.laid (t':=s1.toks) (λb u e=>aO _ e) (aB _) ?_,rfl,q _ hf⟩
 exact⟨z,us,r,⟨_,bY _ rfl,rfl,_,rfl⟩⟩
theorem pe_lst (h:PA X es t):PE X (.List es pos) (tLst t):=by
 intro pins s σ H Q I hq;refine wpAny_List_spliced (thn (h pos pins s σ H _ I hq) λus s1 ⟨xs,H1,I1,r,z,q⟩=>⟨by rw[<-r.length];exact z,?_⟩)
 have hf:H1 s1.heap.objs.size=none:=I1.hok.fresh (aB _);refine⟨.ref s1.heap.objs.size,upd H1 s1.heap.objs.size<|.lst xs,I1.laid (t':=s1.toks) (λb u e=>aO _ e) (aB _) ?_,rfl,q _ hf⟩
 exact⟨z,us,0,r,bY _ rfl⟩
end
abbrev Sp:=List V->Hp->VK->XK->Prop
abbrev CXT:=List Env->Hp->Shared->XK->Value->Shared->Prop
structure c12 (P:Program)(w:World)(K:Frag)(mg:Str->Option Value)(base:Heap)(A:Around)(outer:List Env)(s:Shared)(H:Hp):Prop where
 frames:A.frames=some outer
 mod:Mod K mg base
 bs: ∀b o,base.get? b=some o->s.heap.get? b=some o/\H b=none
 bsz:base.objs.size<=s.heap.objs.size
 funs:s.heap.FunFrames base outer
 frf: ∀b∈frs outer,H b=none
 hok:HOk P w H s.heap
 bare:AllBare s.gens
def CE (outer:List Env)(P:Program)(w:World)(H:Hp)(s:Shared)(Q:VK)(u:Value)(s':Shared):Prop:=
 ∃v H',s'.os=s.os/\AllBare s'.gens/\Un (frs outer) [] H H' s.heap s'.heap/\HOk P w H' s'.heap/\RelV v u/\Q v H'
def CR (CX:CXT)(outer:List Env)(P:Program)(w:World)(H:Hp)(s:Shared)(Q:VK)(E:XK)(r:Result)(s':Shared):Prop:=
 match r with
 | .ok (.ret u)=>CE outer P w H s Q u s'
 | .ok _=>False
 | .error e=>CX outer H s E e s'
structure sL (P:Program)(w:World)(K:Frag)(mg:Str->Option Value)(base:Heap)(CX:CXT)(k:Nat)(f:Addr)(fd:FuncData)(ps:List Str)(sp:Sp):Prop where
 len: ∀vs H Q E,sp vs H Q E->vs.length=ps.length
 run: ∀(A:Around) (outer:List Env) (s:Shared) (H:Hp) (args:Args) (us:List Value) (vs:List V) (Q:VK) (E:XK),hZ k A->c12 P w K mg base A outer s H->BindsTo s fd args (ps.zip us)->Vals vs us->sp vs H Q E->
  codeAny (model P w) A (.call (.ref f) args) (CR CX outer P w H s Q E) s
theorem sL.mono {P:Program}{w:World}{K:Frag}{mg:Str->Option Value}{base:Heap}{CX:CXT}{j k:Nat}{f:Addr}{fd:FuncData}{ps:List Str}{sp:Sp}(F:sL P w K mg base CX j f fd ps sp)(h:j<=k) :
  sL P w K mg base CX k f fd ps sp:=⟨F.len,λA outer s H args us vs Q E hr=>F.run A outer s H args us vs Q E (hr.mono h)⟩
theorem c12.make {P:Program}{w:World}{K:Frag}{mg:Str->Option Value}{base:Heap}{A:Around}{outer:List Env}{s:Shared}{H:Hp}(e:c12 P w K mg base A outer s H)(C:Addr)(us:List Value)(kw:List (Str×Value)) :
  c12 P w K mg base (A.under<|.builtin "type.__call__" ⟨.ref C::us,kw⟩) outer s H:=⟨by first|exact e.frames| (simpa[Around.under,Code.envs,Code.isFrame,pushEnvs]using e.frames),e.mod,e.bs,e.bsz,e.funs,e.frf,e.hok,e.bare⟩
section
variable {X:Cx}{pins:List (Addr×Obj)}{σ:St}{H:Hp}{s s':Shared}
theorem Inv.env0 (I:Inv X pins σ H s):c12 X.prog X.w X.K X.mg X.base X.A X.stack s H:=
 ⟨I.ok.frames,I.ok.mod,I.bs,aL I.ok.bsz I.sz,I.stack,I.stkFree,I.hok,I.bare⟩
theorem Inv.after {Q:VK}{u:Value}(I:Inv X pins σ H s)(h:CE X.stack X.prog X.w H s Q u s'):EP X pins σ Q u s':=by
 obtain⟨v,H',os,bare,un,hok,r,q⟩:=h;obtain⟨hh,g,d,t,os'⟩:=s';obtain rfl:os'=s.os:=os;exact⟨v,H',I.call (h':=hh) (g':=g) (d':=d) (t':=t) (ch:=[]) un hok bare λb z=>absurd z ae,r,q⟩
end
def cM0 (sp:Sp)(dvs:List V)(E:XK)(t:TA):TE:=λσ H Q=>t σ H λvs H1=>sp (vs++dvs) H1 Q E
def c84 (C:Addr)(sp:Sp)(dvs:List V)(E:XK)(t:TA):TE:=λσ H Q=>t σ H λvs H1=> ∀x dx,H1 x=none->H1 dx=none->dx≠x->
 sp (.ref x::(vs++dvs)) (upd (upd H1 dx<|.own x) x<|.ins C dx []) (λv H2=>v= .non/\Q (.ref x) H2) E
def Binds (K:Frag)(fd:FuncData)(ps:List Str)(ds:List Value):Prop:=
 ∀(s:Shared) (us:List Value),K.In s.heap->(us++ds).length=ps.length->BindsTo s fd ⟨us,[]⟩ (ps.zip<|us++ds)
theorem Binds.all {K:Frag}{fd:FuncData}{ps:List Str}(h: ∀us:List Value,us.length=ps.length->bindArgs fd ⟨us,[]⟩=pure (ps.zip us)):Binds K fd ps []:=λs us _ hl=>by
 rw[iE]at hl⊢;exact .of_eq (h us hl)
def vS (CX:CXT)(X:Cx)(E:XK):Prop:= ∀(pins:List (Addr×Obj)) (σ:St) (H:Hp) (s:Shared) (e:Value) (s':Shared),Inv X pins σ H s->CX X.stack H s E e s'->X.xe e s'
section
variable {X:Cx}{CX:CXT}{k:Nat}{f C:Addr}{fd:FuncData}{ps:List Str}{sp:Sp}{dvs:List V}{ds:List Value}{E:XK}{x m:Str}{p pos apos:Pos}{e o:Expr}{es:List Expr}{ta:TE}{t:TA}
theorem cM1 {pins:List (Addr×Obj)}{σ:St}{H:Hp}{s:Shared}{Q:VK}{us:List Value}{vs:List V}(F:sL X.prog X.w X.K X.mg X.base CX k f fd ps sp)(hr:hZ k X.A)(hb:Binds X.K fd ps ds)(hd:Vals dvs ds)(hx:vS CX X E)
  (I:Inv X pins σ H s) (r:Vals vs us) (h:sp (vs++dvs) H Q E):wpAny (model X.prog X.w) X.A (call (.ref f) us) (EP X pins σ Q) X.xe s:=by
 have r2:Vals (vs++dvs) (us++ds):=r.append hd;have hl:(us++ds).length=ps.length:=by rw[<-r2.length];exact F.len _ _ _ _ h
 refine tQ (tM (F.run X.A X.stack s H ⟨us,[]⟩ (us++ds) (vs++dvs) Q E hr I.env0 (hb s us I.kIn hl) r2 h) λr s' hq=> ?_)
 cases r with
 | error e=>exact hx pins σ H s e s' I hq
 | ok fl=>
  cases fl with
  | ret u=>exact I.after hq
  | next=>exact False.elim hq
  | brk=>exact False.elim hq
  | cont=>exact False.elim hq
theorem c85 (F:sL X.prog X.w X.K X.mg X.base CX k f fd ps sp)(hr:hZ k X.A)(hg:Gl X x)(hm:X.mg x=some (.ref f))(hk:keepIn X.K (.ref f)=true)(hb:Binds X.K fd ps ds)(hd:Vals dvs ds)(hx:vS CX X E)
  (ha:PA X (e::es) t) (hdb:(x==("__debug__":Str))=false:=by decide) (he:starEach (e::es) X.env=(false,eval e X.env)::starEach es X.env:=by rfl) (hpl:(backTo pos<|starEach es X.env).any (·.1)=false:=by rfl) :
  PE X (.Call (.Name x p) (e::es) [] pos) (cM0 sp dvs E t):=by
 intro pins s σ H Q I h;refine pL (v8 I hg hm ?_ hdb);refine aF4 (h₀:=X.base) I.ok.mod.kin hk (thn (ha pos pins s σ H _ I h) λus s1 ⟨vs,H1,I1,r,q⟩=>⟨I1.kIn,?_⟩) he hpl
 exact cM1 F hr hb hd hx I1 r q
theorem cM2 (F:sL X.prog X.w X.K X.mg X.base CX k f fd ps sp)(hr:hZ k X.A)(hg:Gl X x)(hm:X.mg x=some (.ref f))(hk:keepIn X.K (.ref f)=true)(hb:Binds X.K fd ps ds)(hd:Vals dvs ds)(hx:vS CX X E)
  (hdb:(x==("__debug__":Str))=false:=by decide):PE X (.Call (.Name x p) [] [] pos) (cM0 sp dvs E tNil):=by
 intro pins s σ H Q I h;refine pL (v8 I hg hm ?_ hdb);exact PySem.W.callWith_K0 I.kIn hk (cM1 (us:=[]) F hr hb hd hx I .nil h)
structure Mk (K:Frag)(C f:Addr):Prop where
 makes:makesIn K C=true
 init:findIn K (.ref C) "__init__"=some (some<|.ref f)
 fn:PySem.W.isFn K (.ref f)=true
 kp:keepIn K (.ref C)=true
theorem cM3 {pins:List (Addr×Obj)}{σ:St}{H:Hp}{s:Shared}{Q:VK}{us:List Value}{vs:List V}(M:Mk X.K C f)(F:sL X.prog X.w X.K X.mg X.base CX k f fd ps sp)(hr:hZ (k+1) X.A)(hb:Binds X.K fd ps ds)(hd:Vals dvs ds)
  (hx:vS CX X E) (I:Inv X pins σ H s) (r:Vals vs us)
  (h: ∀x dx,H x=none->H dx=none->dx≠x->sp (.ref x::(vs++dvs)) (upd (upd H dx<|.own x) x<|.ins C dx []) (λv H2=>v= .non/\Q (.ref x) H2) E) :
  wpAny (model X.prog X.w) X.A (call (.ref C) us) (EP X pins σ Q) X.xe s:=by
 have hq:=h (s.heap.objs.size+1) s.heap.objs.size (I.hok.fresh<|tO _) (I.hok.fresh<|aB _) (bK<|pQ _);have I2:=Inv.made (C:=C) I;have r2:Vals (V.ref (s.heap.objs.size+1)::(vs++dvs)) (Value.ref (s.heap.objs.size+1)::(us++ds)):= .cons rfl (r.append hd);have hl:(Value.ref (s.heap.objs.size+1)::us++ds).length=ps.length:=by
  have e:=r2.length;rw[F.len _ _ _ _ hq]at e;exact e.symm
 refine tQ (bP8 (f:=f) I.kIn M.makes M.init (gJ.mp M.fn) (tM (F.run _ X.stack _ _ ⟨Value.ref (s.heap.objs.size+1)::us,[]⟩ (Value.ref (s.heap.objs.size+1)::(us++ds)) _ _ E (hr.make C us [])
  (I2.env0.make C us []) (hb _ (Value.ref (s.heap.objs.size+1)::us) I2.kIn hl) r2 hq) λr s' hq'=> ?_))
 cases r with
 | error e=>exact hx pins σ _ _ e s' I2 hq'
 | ok fl=>
  cases fl with
  | ret u=>
   obtain⟨v,H',I3,rv,ev,q3⟩:=I2.after hq';subst ev;exact⟨rv,⟨V.ref<|s.heap.objs.size+1,H',I3,rfl,q3⟩⟩
  | next=>exact False.elim hq'
  | brk=>exact False.elim hq'
  | cont=>exact False.elim hq'
theorem d19 (M:Mk X.K C f)(F:sL X.prog X.w X.K X.mg X.base CX k f fd ps sp)(hr:hZ (k+1) X.A)(hg:Gl X x)(hm:X.mg x=some (.ref C))(hb:Binds X.K fd ps ds)(hd:Vals dvs ds)(hx:vS CX X E)
  (ha:PA X (e::es) t) (hdb:(x==("__debug__":Str))=false:=by decide) (he:starEach (e::es) X.env=(false,eval e X.env)::starEach es X.env:=by rfl) (hpl:(backTo pos<|starEach es X.env).any (·.1)=false:=by rfl) :
  PE X (.Call (.Name x p) (e::es) [] pos) (c84 C sp dvs E t):=by
 intro pins s σ H Q I h;refine pL (v8 I hg hm ?_ hdb);refine aF4 (h₀:=X.base) I.ok.mod.kin M.kp (thn (ha pos pins s σ H _ I h) λus s1 ⟨vs,H1,I1,r,q⟩=>⟨I1.kIn,?_⟩) he hpl
 exact cM3 M F hr hb hd hx I1 r q
end
section
variable {X:Cx}{CX:CXT}{k:Nat}{f C:Addr}{fd:FuncData}{ps ks:List Str}{sp:Sp}{E:XK}{x m:Str}{p pos apos kpos:Pos}{e o:Expr}{es:List Expr}{kws:List Keyword}{te ta:TE}{t tk:TA}{nm:Option Str}
variable {g:List Value->List Value->List Value}{gV:List V->List V->List V}
end
structure b6 (N P:List Str)(sc:Scope):Prop where
 kind:sc.kind= .function
 co:sc.isCoroutine=false
 gen:sc.isGenerator=false
 nd:N.Nodup
 pre:N.take P.length=P
 par: ∀x∈P,sc.names.lookup x=some .local\/sc.names.lookup x=some .cell
 nofree: ∀y∈sc.names,y.2≠ .free
theorem bC3 {kindOf:Str->Option NameKind}{x:Str}: ∀{binds:List (Str×Value)} {m:Str->Option Value},(∀v,(x,v) ∉ binds)->bindL kindOf binds m x=m x
 | [],_,_=>rfl
 | (n,v)::r,m,h=>by
  unfold bindL;rw[bC3 λw hw=>h w (bF _ hw)]
  split
  ·have:x≠n:=by rintro rfl;exact h v cD
   simp[this]
  ·rfl
theorem bC4 {kindOf:Str->Option NameKind}{x:Str}: ∀{binds:List (Str×Value)} {m:Str->Option Value},(∀v,(x,v) ∉ binds)->bindC kindOf binds m x=m x
 | [],_,_=>rfl
 | (n,v)::r,m,h=>by
  unfold bindC;rw[bC4 λw hw=>h w (bF _ hw)]
  split
  ·rfl
  ·have:x≠n:=by rintro rfl;exact h v cD
   simp[this]
theorem bC5 {kindOf:Str->Option NameKind}{x:Str}{v:Value}: ∀{P:List Str} {vs:List Value} {i:Nat} {m:Str->Option Value},P.Nodup->P[i]? =some x->vs[i]? =some v->kindOf x=some .local->
  bindL kindOf (P.zip vs) m x=some v
 | [],_,_,_,_,h,_,_=>by simp at h
 | _::_,[],_,_,_,_,h,_=>by simp at h
 | p::P,w::vs,0,m,nd,h1,h2,hk=>by
  simp at h1 h2;subst h1;subst h2
  show bindL kindOf ((p,w)::P.zip vs) m p=_
  unfold bindL;rw[bC3 λv hv=>(yB.mp nd).1 (yC hv).1,a7 hk]
  simp
 | p::P,w::vs,i+1,m,nd,h1,h2,hk=>by
  show bindL kindOf ((p,w)::P.zip vs) m x=_
  unfold bindL;exact bC5 (i:=i) (yB.mp nd).2 (by simpa using h1) (by simpa using h2) hk
theorem bC6 {kindOf:Str->Option NameKind}{x:Str}{v:Value}: ∀{P:List Str} {vs:List Value} {i:Nat} {m:Str->Option Value},P.Nodup->P[i]? =some x->vs[i]? =some v->kindOf x≠some .local->
  bindC kindOf (P.zip vs) m x=some v
 | [],_,_,_,_,h,_,_=>by simp at h
 | _::_,[],_,_,_,_,h,_=>by simp at h
 | p::P,w::vs,0,m,nd,h1,h2,hk=>by
  simp at h1 h2;subst h1;subst h2
  show bindC kindOf ((p,w)::P.zip vs) m p=_
  unfold bindC;rw[bC4 λv hv=>(yB.mp nd).1 (yC hv).1,a6 hk]
  simp
 | p::P,w::vs,i+1,m,nd,h1,h2,hk=>by
  show bindC kindOf ((p,w)::P.zip vs) m x=_
  unfold bindC;exact bC6 (i:=i) (yB.mp nd).2 (by simpa using h1) (by simpa using h2) hk
noncomputable def start (N:List Str)(vs:List V):St:=vs.map some++replicate (N.length-vs.length) none
noncomputable def tV (CX:CXT)(P:Program)(w:World)(K:Frag)(mg:Str->Option Value)(base:Heap)(N:List Str)(qual:Str)(scope:Scope)(f:Addr)(cd:Value)(A:Around)(outer:List Env)(s:Shared)(H:Hp)(E:XK):Cx where
 prog:=P
 w:=w
 K:=K
 mg:=mg
 base:=base
 A:=A.deeper (envOfC qual scope s.heap.objs.size f cd)
 N:=N
 s₀:=s
 H₀:=H
 env:=envOfC qual scope s.heap.objs.size f cd
 outer:=outer
 stack:=envOfC qual scope s.heap.objs.size f cd::outer
 ex:=[]
 calm:=true
 fn:=λ_=>true
 pn:=[]
 xe:=λe s'=>wpAny (model P w) (A.deeper<|envOfC qual scope s.heap.objs.size f cd) (leaving (envOfC qual scope s.heap.objs.size f cd) e) (λ_ s''=>CX outer H s E e s'') (λe' s''=>CX outer H s E e' s'') s'
theorem bP9 {sc:Scope}{n:Nat}{x:Str}(h:sc.names.lookup x=some .cell): ∃c,(cellsFrom n sc.names []).lookup x=some c:=by
 have q:=aD9 sc.names n [] (.inl h);exact Option.isSome_iff_exists.mp q
theorem bC7 {CX:CXT}{P:Program}{w:World}{K:Frag}{mg:Str->Option Value}{base:Heap}{N ps:List Str}{qual:Str}{scope:Scope}{f:Addr}{cd:Value}{A:Around}{outer:List Env}{s s1:Shared}{H:Hp}{E:XK}{us:List Value}{vs:List V}
  (S:b6 N ps scope) (hd:A.handled=none) (e0:c12 P w K mg base A outer s H) (hl:vs.length=ps.length) (r:Vals vs us)
  (x:InCallC s s.heap.objs.size (bindL (envOfC qual scope s.heap.objs.size f cd).kindOf (ps.zip us) λ_=>none) (cellsFrom (s.heap.objs.size+1) scope.names []) (bindC (envOfC qual scope s.heap.objs.size f cd).kindOf (ps.zip us) λ_=>none) s1) :
  Inv (tV CX P w K mg base N qual scope f cd A outer s H E) [] (start N vs) H s1:=by
 have hpl:ps.length<=N.length:=by have:=bU List.length S.pre;rw[pR]at this;lia
 obtain⟨h1,tk,rfl,hk⟩:=x.done;have noA: ∀b:Addr,b ∉ (tV CX P w K mg base N qual scope f cd A outer s H E).ex:=λb z=>absurd (show b∈([]:List Addr)from z) ae
 refine⟨⟨e0.mod,S.kind,rfl,rfl,aB _,λy z c h1 h2=> ?_,λy hy=> ?_,λy c _ h=> ?_,λ_=>hd,Around.frames_deeper e0.frames,.inr ⟨rfl,rfl⟩,λb z=>absurd z (noA b),e0.bs,e0.bsz,λb _ _=>noA b,λb z=>absurd z (noA b),e0.funs,e0.frf⟩,
  rfl,e0.bare,Un.kept hk,⟨_,x.toInCall.ns,λi y v h1 h2 h3=> ?_⟩,λy c h=>⟨_,x.cell y c h⟩,e0.hok.fresh<|aB _,λy c h=> ?_,λp hp=>absurd (show p∈([]:List (Addr×Obj))from hp) ae,e0.hok.kept hk,?_⟩
 ·exact name_of_addr x.apart (pI h1) (pI h2)
 ·have hy:scope.names.lookup y=some .cell\/scope.names.lookup y=some .free:=hy;rcases hy with hy|hy
  ·exact bP9 hy
  ·exact absurd rfl (S.nofree _<|pI hy)
 ·exact nM (x.above y c<|pI h)
 ·have hi:i<vs.length:=by
   unfold start at h2
   by_cases hi:i<vs.length
   ·exact hi
   ·rw[sY<|by simpa using hi]at h2
    rw[List.getElem?_replicate]at h2;split at h2<;>cases h2
  have ha:vs[i]? =some v:=by
   unfold start at h2;rw[xO<|by simpa using hi,bJ]at h2
   cases e:vs[i]? with
   | none=>rw[e]at h2;cases h2
   | some a=>rw[e]at h2;cases h2;rfl
  obtain⟨u,hu,rv⟩:=r.get ha;have hp:ps[i]? =some y:=by
   rw[<-S.pre,List.getElem?_take_of_lt ad];exact h1
  have ndP:ps.Nodup:=by rw[<-S.pre];exact S.nd.sublist (List.take_sublist _ _)
  refine⟨u,rv,?_⟩
  rcases S.par y (aE6 hp)with k|k
  ·exact .inl ⟨k,bC5 ndP hp hu k⟩
  ·obtain⟨c,e⟩:=bP9 (n:=s.heap.objs.size+1) k;refine .inr ⟨.inl k,c,e,?_⟩;have q:=x.cell y c e;rw[bC6 ndP hp hu (by show scope.names.lookup y≠_;rw[k];decide)]at q
   exact q
 ·exact e0.hok.fresh (nM<|x.above y c<|pI h)
 ·unfold start;show _=N.length;rw[cY,aC,aE3]
  lia
theorem cM4 {CX:CXT}{P:Program}{w:World}{K:Frag}{mg:Str->Option Value}{base:Heap}{k:Nat}{f:Addr}{name qual:Str}{params:Arguments}{body:List Stmt}{scope:Scope}{dV kV doc pm cdv ct oc:Value}{an od:Option Addr}
  {osl:Array (Option Value)} {N ps:List Str} {sp:Sp} (lk:K.lookup f=some ⟨oc,od,.func<|fnOf name qual params body scope dV kV doc pm an cdv ct,osl⟩) (hcd:codeIn K cdv qual=true) (S:b6 N ps scope)
  (len: ∀vs H Q E,sp vs H Q E->vs.length=ps.length)
  (hbody: ∀(A:Around) (outer:List Env) (s:Shared) (H:Hp) (vs:List V) (Q:VK) (E:XK),hZ k (A.deeper<|envOfC qual scope s.heap.objs.size f cdv)->sp vs H Q E->
   ∃t,PSs (tV CX P w K mg base N qual scope f cdv A outer s H E) body t/\t {nx:=λ_ H'=>Q .non H',rt:=Q} (start N vs) H) :
  sL P w K mg base CX (k+1) f (fnOf name qual params body scope dV kV doc pm an cdv ct) ps sp:=by
 refine⟨len,λA outer s H args us vs Q E hr e0 hb r hsp=> ?_⟩
 have hl:=len _ _ _ _ hsp;have KX:K.In s.heap:=e0.mod.kin.keeps λb o e=>(e0.bs b o e).1
 have lim:s.heap.NoLimit:=e0.mod.nolimit.keeps λb o e=>(e0.bs b o e).1
 have hkind: ∀y∈ps.zip us,scope.names.lookup y.1=some .local\/(scope.names.lookup y.1=some .cell/\((cellsFrom (s.heap.objs.size+1) scope.names []).lookup y.1).isSome=true):=λ⟨n,v⟩ hy=>by
  rcases S.par n (yC hy).1 with q|q
  ·exact .inl q
  ·exact .inr ⟨q,aD9 _ _ _<|.inl q⟩
 refine codeAny_call_function hr.depth (KX _ _ lk) rfl S.co S.gen rfl (PySem.W.codeRec_of KX hcd) (hb _ _ _ _ ?_)
 refine wpAny_newFunctionEnv_cells S.kind hkind λenv he s1 x=> ?_
 subst he;refine⟨lim.keeps x.toInCall.keep,codeAny_func ?_⟩;obtain⟨t,ht,hq⟩:=hbody A outer s H vs Q E (hr.deeper _) hsp;have I:Inv (tV CX P w K mg base N qual scope f cdv A outer s H E) [] (start N vs) H s1:=bC7 S hr.hd e0 hl r x;refine bL (ht [] s1 (start N vs) H _ I hq) (λfl s' hs=> ?_) λe s' hs=>hs
 have fin: ∀{σ':St} {H':Hp} {v:V} {u:Value},Inv (tV CX P w K mg base N qual scope f cdv A outer s H E) [] σ' H' s'->RelV v u->Q v H'->CE outer P w H s Q u s':=
  λ{σ' H' v u} J rv q=>⟨v,H',J.os,J.bare,J.base,J.hok,rv,q⟩
 cases fl with
 | ret u=>
  obtain⟨v,σ',H',J,rv,q⟩:=hs;exact fin J rv q
 | next=>
  obtain⟨σ',H',J,q⟩:=hs;exact fin (v:=V.non) (u:=Value.none) J rfl q
 | brk=>
  obtain⟨_,_,_,q⟩:=hs;exact False.elim q
 | cont=>
  obtain⟨_,_,_,q⟩:=hs;exact False.elim q
end L2
namespace L2
open PySem PySem.Spec PyProof.Rows
section
variable {X:Cx}{x:Str}{p pos:Pos}{e:Expr}{es:List Expr}{t:TA}{id T:String}{r:List V->Hp->VK->Prop}
def tCB (r:List V->Hp->VK->Prop)(t:TA):TE:=λσ H Q=>t σ H λvs H1=>r vs H1 Q
theorem bQ0 (hc:sD X (.builtin id) r)(hg:Gl X x)(hm:X.mg x=none)(hv:bootBuiltins x=some (.builtin id))(ha:PA X (e::es) t)(hn:x≠"__name__":=by decide)(hdb:(x==("__debug__":Str))=false:=by decide)
  (he:starEach (e::es) X.env=(false,eval e X.env)::starEach es X.env:=by rfl) (hpl:(backTo pos<|starEach es X.env).any (·.1)=false:=by rfl):PE X (.Call (.Name x p) (e::es) [] pos) (tCB r t):=by
 intro pins s σ H Q I h;refine pL (vR I hg hm hv ?_ hn hdb);exact PyProof.Rows.callWith_builtin1 (thn (ha pos pins s σ H _ I h) λus s1 ⟨vs,H1,I1,r1,q1⟩=>hc pins s1 σ H1 vs us Q I1 r1 q1) he hpl
theorem cE9 (hc:sD X (.type T) r)(hg:Gl X x)(hm:X.mg x=none)(hv:bootBuiltins x=some (.type T))(ha:PA X (e::es) t)(hn:x≠"__name__":=by decide)(hdb:(x==("__debug__":Str))=false:=by decide)
  (he:starEach (e::es) X.env=(false,eval e X.env)::starEach es X.env:=by rfl) (hpl:(backTo pos<|starEach es X.env).any (·.1)=false:=by rfl):PE X (.Call (.Name x p) (e::es) [] pos) (tCB r t):=by
 intro pins s σ H Q I h;refine pL (vR I hg hm hv ?_ hn hdb);exact jN (thn (ha pos pins s σ H _ I h) λus s1 ⟨vs,H1,I1,r1,q1⟩=>hc pins s1 σ H1 vs us Q I1 r1 q1) he hpl
end
end L2
namespace HT
open PySem PyProof.Rows
section
open PySem.SeqAt
open PySem.AutoSeq1 (wpAny_loadPart')
open PySem.MeetsSeq PySem.MeetsSeq2 PySem.MeetsSeq3
end
section
variable {prog:Program}{w:World}{A:Around}{E:Value->Shared->Prop}{s:Shared}
theorem cat_tup {t b:Addr}{vs ws:List Value}{Q:Value->Shared->Prop}(ht:IsTup s.heap t vs.toArray)(hb:IsTup s.heap b ws.toArray)(hv:vs≠[])
  (h1:ws=[]->Q (.ref t) s) (h2:ws≠[]->Q (.ref s.heap.objs.size) {s with heap:=s.heap.push {cls:= .type "tuple",data:= .seq (vs++ws).toArray}})
  (hsz:vs.length+ws.length<=sizeLine):wpAny (model prog w) A (binaryOp .Add (.ref t)<|.ref b) Q E s:=by
 obtain⟨⟨cls,dd,data,sl⟩,ho,hc,n,hd⟩:=id ht;obtain⟨⟨cls2,dd2,data2,sl2⟩,ho2,hc2,n2,hd2⟩:=id hb;simp only at hc hd hc2 hd2;subst hc hd hc2 hd2;have e:vs.toArray++ws.toArray=(vs++ws).toArray:=ae
 by_cases hw:ws=[]
 ·exact concat_meets ⟨_,ho,rfl⟩ ⟨_,ho2,rfl⟩ aG4 seq_tuple_add aE0 aD4 (aD1 _ _)
   (tuple_addW1 t b vs.toArray ws.toArray n n2 dd dd2 sl sl2 (by simpa using hv)<|by simp[hw]) ⟨ho,ho2,h1 hw⟩
 ·refine concat_meets ⟨_,ho,rfl⟩ ⟨_,ho2,rfl⟩ aG4 seq_tuple_add aE0 aD4 (aD1 _ _)
   (tuple_addW2 t b vs.toArray ws.toArray n n2 dd dd2 sl sl2 (by simpa using hv) (by simpa using hw) (by rw[b9,b9];exact hsz)) ⟨ho,ho2,?_⟩
  rw[e];exact h2 hw
noncomputable def sIx (n d:Nat):Option Int->Nat
 | none=>d
 | some v=>if v<0 then(v+(n:Int)).toNat else min v.toNat n
theorem sIx_none (n d:Nat):sIx n d none=d:=rfl
theorem sIx_nat (n d k:Nat):sIx n d (some (k:Int))=min k n:=by
 show(if(k:Int)<0 then((k:Int)+(n:Int)).toNat else min (k:Int).toNat n)=min k n
 rw[a6 ad,cZ]
theorem sIx_le (n d:Nat)(hd:d<=n)(o:Option Int):sIx n d o<=n:=by
 cases o with
 | none=>exact hd
 | some v=>
  show(if v<0 then(v+(n:Int)).toNat else min v.toNat n)<=n
  by_cases hv:v<0
  ·rw[a7 hv];lia
  ·rw[a6 hv];exact Nat.min_le_right _ _
theorem c86 (v:Int)(n d:Nat):(if v<0 then max (v+(n:Int)) 0 else min v (n:Int))=((sIx n d (some v):Nat):Int):=by
 show(if v<0 then max (v+(n:Int)) 0 else min v (n:Int))=(((if v<0 then(v+(n:Int)).toNat else min v.toNat n):Nat):Int)
 by_cases hv:v<0
 ·simp only[a7 hv];lia
 ·simp only[a6 hv];lia
theorem c13 (lo hi:Option Int)(n:Nat):Builtin.Slice.sliceAdjust lo hi 1 (n:Int)=(((sIx n 0 lo:Nat):Int),((sIx n n hi:Nat):Int)):=by
 have h1: ¬((1:Int)<0):=ad
 unfold Builtin.Slice.sliceAdjust;simp only[h1,iI];refine j7 ?_ ?_
 ·cases lo with
  | none=>rfl
  | some v=>exact c86 v n 0
 ·cases hi with
  | none=>rfl
  | some v=>exact c86 v n n
theorem c14 (i j:Nat):Builtin.Slice.slicePlaces (i:Int) (j:Int) 1=j-i:=by
 unfold Builtin.Slice.slicePlaces;have h1:(1:Int)>0:=ad
 simp only[h1,eU,Int.ediv_one];split<;>lia
theorem aZ7 {v:Value}{o:Option Int}{Q:Option Int->Shared->Prop}(p:IsPart v o)(h:Q o s):wpAny (model prog w) A (Builtin.Slice.slicePartIndex v) Q E s:=by
 cases p with
 | none=>exact slicePart_none h
 | int i t=>exact slicePart_int h
theorem wY {sl:Addr}{vl vu:Value}{lo hi:Option Int}{n:Nat}{Q:Int×Int×Nat->Shared->Prop}(hs:s.heap.IsSliceOf sl vl vu .none)(pl:IsPart vl lo)(pu:IsPart vu hi)
  (h:Q (((sIx n 0 lo:Nat):Int),1,sIx n n hi-sIx n 0 lo) s):wpAny (model prog w) A (Builtin.Slice.sliceApplied (.ref sl)<|pure (n:Int)) Q E s:=by
 obtain⟨os,hos,hcs,hds⟩:=id hs;unfold Builtin.Slice.sliceApplied Builtin.Slice.sliceFields;refine a8 (a8<|d7 hos hds (x:=vl) rfl (a8<|d7 hos hds (x:=vu) rfl (a8<|d7 hos hds (x:= .none) rfl (aI ?_))));refine a8 (slicePart_none ?_);show wpAny _ _ (if((1:Int)==0)=true then _ else _) _ _ s;rw[a6 ac]
 refine a8 (aZ7 pl<|a8<|aZ7 pu<|a8<|aI ?_)
 show wpAny _ _ (match Builtin.Slice.sliceAdjust lo hi 1 (n:Int)with| (lo,hi)=>pure (lo,(1:Int),Builtin.Slice.slicePlaces lo hi 1)) _ _ s
 rw[c13 lo hi n];show wpAny _ _ (pure (((sIx n 0 lo:Nat):Int),(1:Int),Builtin.Slice.slicePlaces ((sIx n 0 lo:Nat):Int) ((sIx n n hi:Nat):Int) 1)) _ _ s;rw[c14];exact aI h
theorem cM5 (xs:Array Value)(i k:Nat):((List.range k).filterMap fun(m:Nat)=>xs[((i:Int)+(m:Int)*1).toNat]?).toArray=((xs.toList.drop i).take k).toArray:=by
 have e:(fun(m:Nat)=>xs[((i:Int)+(m:Int)*1).toNat]?)=λm=>xs[i+m]? :=by
  funext m
  have:((i:Int)+(m:Int)*1).toNat=i+m:=ad
  rw[this]
 rw[e];have:=pick_run xs i k;rw[List.filterMap_map]at this;have e2:((λx=>xs[x]?)∘λx=>i+x)=λm=>xs[i+m]? :=rfl
 rw[e2]at this;rw[this]
theorem getItem_tuple_cut {t sl:Addr}{items:Array Value}{vl vu:Value}{lo hi:Option Int}{Q:Value->Shared->Prop}(ht:IsTup s.heap t items)(hs:s.heap.IsSliceOf sl vl vu .none)(pl:IsPart vl lo)(pu:IsPart vu hi)
  (hw: ¬(sIx items.size 0 lo=0/\sIx items.size items.size hi=items.size))
  (h:Q (.ref s.heap.objs.size) {s with heap:=s.heap.push {cls:= .type "tuple",data:= .seq ((items.toList.drop<|sIx items.size 0 lo).take<|sIx items.size items.size hi-sIx items.size 0 lo).toArray}})
  (hsz:items.size<=sizeLine):wpAny (model prog w) A (getItem (.ref t)<|.ref sl) Q E s:=by
 have htake:sizeOk (.seq ((items.toList.drop<|sIx items.size 0 lo).take<|sIx items.size items.size hi-sIx items.size 0 lo).toArray):=by
  show((items.toList.drop<|sIx items.size 0 lo).take<|sIx items.size items.size hi-sIx items.size 0 lo).toArray.size<=sizeLine
  rw[b9,pR,nB,aF1];omega
 have hj:sIx items.size items.size hi<=items.size:=sIx_le _ _ (aB _) hi;obtain⟨os,hos,hcs,hds⟩:=id hs;have hTs:s.TypeIs (.ref sl) "slice":=⟨os,hos,hcs⟩;unfold getItem;try with_reducible refine j4 ?_
 first|refine a8 (aI ?_)|skip
 refine a8 (wpAny_sequenceKey ht.typeIs ac ?_)
 refine a8 (kO (name:=Str.ofString "__getitem__") ht.typeIs xL
  (j2 xL ht.typeIs entry_tuple_getitem ?_<|args_tuple_getitem _ _))
 show wpAny _ _ (Builtin.Tuple.tupleItemsOf (.ref t) >>= _) _ _ s
 refine a8 (tupleItemsOf_ ht ?_)
 refine a8 (yL hTs ?_)
 rw[a7 ac]
 refine a8 (wY hs pl pu ?_)
 have hno: ¬((((sIx items.size 0 lo:Nat):Int)==0&&(1:Int)==1&&(sIx items.size items.size hi-sIx items.size 0 lo)==items.size)=true):=by
  intro q;rw[dS,dS]at q;have q1:((sIx items.size 0 lo:Nat):Int)=0:=eq_of_beq q.1.1;have q2:sIx items.size items.size hi-sIx items.size 0 lo=items.size:=eq_of_beq q.2;exact hw ⟨aa,aa⟩
 show wpAny _ _ (if(((sIx items.size 0 lo:Nat):Int)==0&&(1:Int)==1&&(sIx items.size items.size hi-sIx items.size 0 lo)==items.size)=true then _ else _) _ _ s
 rw[a6 hno,cM5]
 first
  | exact a8 (m:=Builtin.Tuple.tupleExact _) (jR (aI ⟨_,rfl,aI h⟩) htake)
  | exact a8 (m:=Builtin.Tuple.tupleExact _) (jR (a8<|aI<|aI ⟨_,rfl,aI h⟩) htake)
  | exact a8 (a8 (m:=Builtin.Tuple.tupleExact _)<|jR (aI<|aI ⟨_,rfl,aI h⟩) htake)
  | exact a8 (a8 (m:=Builtin.Tuple.tupleExact _)<|jR (aI ⟨_,rfl,aI h⟩) htake)
end
end HT
namespace L2
open PySem PySem.Spec PyProof.Rows
abbrev TO:=St->Hp->(Option Int->Hp->Prop)->Prop
def PO (X:Cx)(e:Option Expr)(t:TO):Prop:=
 ∀(pins:List (Addr×Obj)) (s:Shared) (σ:St) (H:Hp) (Q:Option Int->Hp->Prop),Inv X pins σ H s->t σ H Q->
  wpAny (model X.prog X.w) X.A (evalPart e X.env) (λu s'=> ∃o H',Inv X pins σ H' s'/\IsPart u o/\Q o H') X.xe s
def d20:TO:=λ_ H Q=>Q none H
def tPart (t:TE):TO:=λσ H Q=>t σ H λx H1=> ∃i,x= .int i/\Q (some i) H1
theorem intsAre_of {ns:List Int}: ∀{us:List Value},Vals (ns.map V.int) us->IntsAre us ns:=by
 induction ns with
 | nil=>intro us r;rw[j6]at r;cases r;exact .nil
 | cons n ns ih=>
  intro us r;rw[d6]at r;cases r with
  | cons r1 r2=>
   obtain⟨t,e⟩:=r1;subst e;exact .cons n t (ih r2)
section
variable {X:Cx}{e:Expr}{te:TE}{lo hi:Option Expr}{tl th:TO}{pos p2:Pos}
theorem d21:PO X none d20:=by
 intro pins s σ H Q I h;rw[evalPart_none];exact aI ⟨none,H,I,.none,h⟩
theorem d22 (h:PE X e te):PO X (some e) (tPart te):=by
 intro pins s σ H Q I hw;rw[evalPart_some];refine thn (h pins s σ H _ I hw) λu s1 ⟨x,H1,I1,r1,q1⟩=> ?_
 obtain⟨i,rfl,q⟩:=q1;obtain⟨t,rfl⟩:=r1;exact⟨some i,H1,I1,.int i t,q⟩
def SlR (X:Cx)(r:V->Option Int->Option Int->Hp->VK->Prop):Prop:=
 ∀(pins:List (Addr×Obj)) (s:Shared) (σ:St) (H:Hp) (x:V) (v vl vu:Value) (lo hi:Option Int) (sl:Addr) (Q:VK),Inv X pins σ H s->RelV x v->s.heap.IsSliceOf sl vl vu .none->IsPart vl lo->IsPart vu hi->r x lo hi H Q->
  ∃T id,typeLookup (.type T) "__getitem__"=pure (some<|.builtin id)/\s.TypeIs v T/\wpAny (model X.prog X.w) X.A (getItem v<|.ref sl) (EP X pins σ Q) X.xe s
theorem SlR.or {r r':V->Option Int->Option Int->Hp->VK->Prop}(h:SlR X r)(h':SlR X r'):SlR X (λx lo hi H Q=>r x lo hi H Q\/r' x lo hi H Q):=by
 intro pins s σ H x v vl vu lo hi sl Q I rx hs pl pu q;rcases q with q|q
 ·exact h pins s σ H x v vl vu lo hi sl Q I rx hs pl pu q
 ·exact h' pins s σ H x v vl vu lo hi sl Q I rx hs pl pu q
def tSl (r:V->Option Int->Option Int->Hp->VK->Prop)(te:TE)(tl th:TO):TE:=λσ H Q=>te σ H λx H1=>tl σ H1 λl H2=>th σ H2 λu H3=>r x l u H3 Q
theorem bQ1 {r:V->Option Int->Option Int->Hp->VK->Prop}(hr:SlR X r)(he:PE X e te)(hl:PO X lo tl)(hu:PO X hi th):PE X (.Subscript e (.Slice lo hi none p2) pos) (tSl r te tl th):=by
 intro pins s σ H Q I h;refine Subscript_ (thn (he pins s σ H _ I h) λv s1 ⟨x,H1,I1,r1,q1⟩=> ?_)
 refine wpAny_Slice (thn (hl pins s1 σ H1 _ I1 q1) λvl s2 ⟨l,H2,I2,pl,q2⟩=>thn (hu pins s2 σ H2 _ I2 q2) λvu s3 ⟨u,H3,I3,pu,q3⟩=> ?_)
 rw[evalPart_none];refine aI ?_;have I4:Inv X pins σ H3 {s3 with heap:=s3.heap.push {cls:= .type "slice",data:= .fields #[vl,vu,.none]}}:=I3.kept (t':=s3.toks) λb ob q=>aO _ q
 obtain⟨T,id,hT,ht,hg⟩:=hr pins {s3 with heap:=s3.heap.push {cls:= .type "slice",data:= .fields #[vl,vu,.none]}} σ H3 x v vl vu l u s3.heap.objs.size Q I4 r1 (Heap.IsSliceOf.new ..) pl pu q3;show wpAny (model X.prog X.w) X.A (subscriptTail e (.Slice lo hi none p2) v<|.ref s3.heap.objs.size) (EP X pins σ Q) X.xe {s3 with heap:=s3.heap.push {cls:= .type "slice",data:= .fields #[vl,vu,.none]}}
 exact tail_any (ops:=[.ref s3.heap.objs.size,v]) ht hT hg (by with_unfolding_all rfl)
noncomputable def bQ2 (xs:List V)(lo hi:Option Int):List V:=(xs.drop<|HT.sIx xs.length 0 lo).take (HT.sIx xs.length xs.length hi-HT.sIx xs.length 0 lo)
theorem aU0 (xs:List V)(lo hi:Option Int):(bQ2 xs lo hi).length<=xs.length:=by
 unfold bQ2;rw[pR,nB]
 lia
noncomputable def rSlT (K:Frag):V->Option Int->Option Int->Hp->VK->Prop:=λx lo hi H Q=> ∃a xs,x= .ref a/\SqT K H a xs/\
 ¬(HT.sIx xs.length 0 lo=0/\HT.sIx xs.length xs.length hi=xs.length)/\ ∀p,H p=none->Q (.ref p) (upd H p<|.tup<|bQ2 xs lo hi)
theorem cM6:SlR X (rSlT X.K):=by
 intro pins s σ H x v vl vu lo hi sl Q I rx hs pl pu h;obtain⟨a,xs,rfl,hx,hw,q⟩:=h;cases rx;obtain⟨its,r,ht,hz⟩:=I.tuple hx;have hlen:its.toArray.size=xs.length:=by rw[b9];exact r.length.symm
 refine⟨"tuple",_,PyProof.Rows.slot_tuple_getitem.lookup,ht.typeIs,?_⟩
 refine HT.getItem_tuple_cut ht hs pl pu (by rw[hlen];exact hw) ?_ (by rw[hlen];exact hz)
 rw[hlen];refine⟨.ref s.heap.objs.size,_,I.laid (t':=s.toks) (o:= .tup (bQ2 xs lo hi)) (λb ob q=>aO _ q) (aB _) ?_,rfl,q _<|I.hok.fresh<|aB _⟩
 exact⟨aL (aU0 xs lo hi) hz,_,(r.drop<|HT.sIx xs.length 0 lo).take<|HT.sIx xs.length xs.length hi-HT.sIx xs.length 0 lo,tU _ _⟩
noncomputable def rCatT (K:Frag):R2:=λx y H Q=> ∃a b xs ys,x= .ref a/\y= .ref b/\SqT K H a xs/\SqT K H b ys/\xs≠[]/\xs.length+ys.length<=sizeLine/\
 (ys=[]->Q (.ref a) H)/\(ys≠[]-> ∀p,H p=none->Q (.ref p) (upd H p<|.tup<|xs++ys))
theorem Vals.nil_iff {xs:List V}{us:List Value}(r:Vals xs us):us=[]↔xs=[]:=by
 cases r with
 | nil=>simp
 | cons _ _=>simp
theorem d23:OpR X (binaryOp .Add) (rCatT X.K):=by
 intro pins s σ H x y v u Q I rx ry h;obtain⟨a,b,xs,ys,rfl,rfl,ha,hb,hx,hz,q1,q2⟩:=h;cases rx;cases ry;obtain⟨its,r1,p1,_⟩:=I.tuple ha;obtain⟨its2,r2,p2,_⟩:=I.tuple hb;refine HT.cat_tup p1 p2 (λz=>hx (r1.nil_iff.mp z)) (λz=>⟨.ref a,H,I,rfl,q1<|r2.nil_iff.mp z⟩) (λz=> ?_) (by rw[<-r1.length,<-r2.length];exact hz)
 refine⟨.ref s.heap.objs.size,_,I.laid (t':=s.toks) (o:= .tup (xs++ys)) (λb ob q=>aO _ q) (aB _) ?_,rfl,q2 (λw=>z (r2.nil_iff.mpr w)) _<|I.hok.fresh<|aB _⟩
 exact⟨by rw[cY];exact hz,_,r1.append r2,tU _ _⟩
end
end L2
namespace L2
open PySem PySem.Spec PyProof.Rows
noncomputable def ixN (n:Nat)(i:Int):Option Nat:=if 0<=i then(if i<n then some i.toNat else none)else if -(n:Int)<=i then some (i+n).toNat else none
noncomputable def atI {α:Type}(xs:List α)(i:Int):Option α:=(ixN xs.length i).bind λj=>xs[j]?
theorem c87 {n:Nat}{i:Int}{j:Nat}(h:ixN n i=some j):seqIndex? i n=some j/\j<n/\ -(n:Int)<=i/\i<n:=by
 unfold ixN at h
 by_cases h0:0<=i
 ·rw[a7 h0]at h
  by_cases h1:i<n
  ·rw[a7 h1]at h;have e:i.toNat=j:=gF h;exact⟨by rw[yR h0 h1,e],ad,ad,h1⟩
  ·rw[a6 h1]at h;cases h
 ·rw[a6 h0]at h
  by_cases h1: -(n:Int)<=i
  ·rw[a7 h1]at h;have e:(i+n).toNat=j:=gF h;exact⟨by rw[yM ad h1,e],ad,h1,ad⟩
  ·rw[a6 h1]at h;cases h
theorem aY0 {α:Type}{xs:List α}{i:Int}{v:α}(h:atI xs i=some v): ∃j,seqIndex? i xs.length=some j/\xs[j]? =some v/\j<xs.length/\ -(xs.length:Int)<=i/\i<xs.length:=by
 unfold atI at h;cases e:ixN xs.length i with
 | none=>rw[e]at h;cases h
 | some j=>
  rw[e]at h;obtain⟨h1,h2,h3,h4⟩:=c87 e;exact⟨j,h1,h,h2,h3,h4⟩
theorem cW {α:Type}{xs:List α}{j:Nat}{v:α}(h:xs[j]? =some v):atI xs (j:Int)=some v:=by
 have hj:j<xs.length:=(kN.mp h).1;have e:ixN xs.length (j:Int)=some j:=by
  unfold ixN;rw[a7 ad,a7 ad];simp
 unfold atI;rw[e];exact h
theorem cM7 {α:Type}(xs:List α)(v:α):atI (xs++[v]) (-1)=some v:=by
 have hl:(xs++[v]).length=xs.length+1:=ae
 have e:ixN (xs++[v]).length (-1)=some xs.length:=by
  unfold ixN;rw[hl,a6 ac,a7 ad]
  congr 1
  lia
 unfold atI;rw[e];show(xs++[v])[xs.length]? =some v;simp
def bH0 (b:Expr):Prop:= ∀o i,subscripted b false o i=operate [o,i] (getItem o i)
def IxR (X:Cx)(r:R2):Prop:=
 ∀(value slice:Expr) (pins:List (Addr×Obj)) (s:Shared) (σ:St) (H:Hp) (x y:V) (v u:Value) (Q:VK),Inv X pins σ H s->RelV x v->RelV y u->r x y H Q->
  subscripted slice false v u=operate [v,u] (getItem v u)->wpAny (model X.prog X.w) X.A (subscriptTail value slice v u) (EP X pins σ Q) X.xe s
def MtR (X:Cx)(id:String)(r:V->List V->Hp->VK->Prop):Prop:=
 ∀(pins:List (Addr×Obj)) (s:Shared) (σ:St) (H:Hp) (x:V) (xs:List V) (v:Value) (us:List Value) (Q:VK),Inv X pins σ H s->RelV x v->Vals xs us->r x xs H Q->
  wpAny (model X.prog X.w) X.A (call (.builtin id) (v::us)) (EP X pins σ Q) X.xe s
section
variable {X:Cx}{a b:Expr}{ta tb:TE}{pos:Pos}
theorem IxR.or {r r':R2}(h:IxR X r)(h':IxR X r'):IxR X (λx y H Q=>r x y H Q\/r' x y H Q):=by
 intro value slice pins s σ H x y v u Q I rx ry q hs;rcases q with q|q
 ·exact h value slice pins s σ H x y v u Q I rx ry q hs
 ·exact h' value slice pins s σ H x y v u Q I rx ry q hs
theorem pe_ix {r:R2}(hr:IxR X r)(ha:PE X a ta)(hb:PE X b tb)(hs:bH0 b):PE X (.Subscript a b pos) (tOp r ta tb):=by
 intro pins s σ H Q I h;exact Subscript_ (binT ha hb I h λv u s2 x y H2 I2 rx ry q=>hr a b pins s2 σ H2 x y v u Q I2 rx ry q (hs _ _))
noncomputable def rIxL (K:Frag):R2:=λx y H Q=> ∃p xs i v,x= .ref p/\y= .int i/\SqL K H p xs/\atI xs i=some v/\Q v H
noncomputable def rIxT (K:Frag):R2:=λx y H Q=> ∃p xs i v,x= .ref p/\y= .int i/\SqT K H p xs/\atI xs i=some v/\Q v H
noncomputable def rIxS:R2:=λx y H Q=> ∃z i c,x= .str z/\y= .int i/\z.length<=sizeLine/\atI z.cps.toList i=some c/\Q (.str ⟨#[c]⟩) H
theorem d24:IxR X (rIxL X.K):=by
 intro value slice pins s σ H x y v u Q I rx ry h hs;obtain⟨p,xs,i,z,rfl,rfl,hq,he,q⟩:=h;cases rx;obtain⟨t,rfl⟩:=ry;obtain⟨its,r,pl,hz⟩:=I.list hq;obtain⟨j,h1,h2,h3,h4,h5⟩:=aY0 he;obtain⟨w,ew,rw'⟩:=r.get h2;have hl:=r.length;have hn:=aP8;have fin:EP X pins σ Q w s:=⟨z,H,I,rw',q⟩
 by_cases h0:0<=i
 ·have hj:i.toNat=j:=by
   rw[yR h0 h5]at h1;exact gF h1
  exact item_listR pl.isList h0 ad (by rw[hj];simpa using ew) fin hs
 ·have hj:(i+(its.toArray.size:Int)).toNat=j:=by
   rw[yM ad h4]at h1
   rw[b9,<-hl];exact gF h1
  exact subscriptTail_builtinR (x:=w) pl.isList.typeIs slot_list_getitem.lookup
   (wpAny_getItem_list_neg (Q:=λr s'=>r=w/\EP X pins σ Q r s') pl.isList ad (by rw[b9]<;>lia) ad (by rw[hj];simpa using ew) ⟨rfl,fin⟩) hs
theorem ix_tup:IxR X (rIxT X.K):=by
 intro value slice pins s σ H x y v u Q I rx ry h hs;obtain⟨p,xs,i,z,rfl,rfl,hq,he,q⟩:=h;cases rx;obtain⟨t,rfl⟩:=ry;obtain⟨its,r,pl,hz⟩:=I.tuple hq;obtain⟨j,h1,h2,h3,h4,h5⟩:=aY0 he;obtain⟨w,ew,rw'⟩:=r.get h2;have hl:=r.length;have hn:=aP8;have fin:EP X pins σ Q w s:=⟨z,H,I,rw',q⟩;exact subscriptTail_builtinR (x:=w) pl.typeIs slot_tuple_getitem.lookup
  (getItem_tuple (j:=j) (Q:=λr s'=>r=w/\EP X pins σ Q r s') pl ad ad (by rw[b9,<-hl];exact h1) (by simpa using ew) ⟨rfl,fin⟩) hs
theorem ix_str:IxR X rIxS:=by
 intro value slice pins s σ H x y v u Q I rx ry h hs;obtain⟨z,i,c,rfl,rfl,hz,he,q⟩:=h;obtain⟨t,rfl⟩:=rx;obtain⟨t',rfl⟩:=ry;obtain⟨j,h1,h2,h3,h4,h5⟩:=aY0 he;have hl:z.cps.toList.length=z.length:=by simp[Str.length]
 rw[hl]at h1 h4 h5;have hn:=aP8;exact tail_any (typeIs_str s z t) slot_str_getitem.lookup (getItem_str (c:=c) (by
  have e1:decide (i< -(2^63:Int))=false:=fF ad
  have e2:decide (i≥2^63)=false:=fF ad
  rw[e1,e2,Bool.or_false]) (by rw[h1];simpa using h2) ⟨.str ⟨#[c]⟩,H,I.tok _,⟨_,rfl⟩,q⟩) hs
noncomputable def rIx (K:Frag):R2:=λx y H Q=>rIxL K x y H Q\/rIxT K x y H Q\/rIxS x y H Q
theorem ix_seq:IxR X (rIx X.K):=d24.or (ix_tup.or ix_str)
theorem c15 (its:List Value)(n j:Nat)(u:Value):Obj.mapSeq (·.setIfInBounds j u) {cls:= .type "list",data:= .seq its.toArray n}={cls:= .type "list",data:= .seq (its.set j u).toArray n}:=by
 simp[Obj.mapSeq]
theorem Inv.lst {pins:List (Addr×Obj)}{σ:St}{H:Hp}{s:Shared}{p:Addr}{xs:List V}(I:Inv X pins σ H s)(h:H p=some (.lst xs)) :
  ∃(its:List Value) (n:Nat),Vals xs its/\s.heap.get? p=some {cls:= .type "list",data:= .seq its.toArray n}/\xs.length<=sizeLine:=by
 obtain⟨z,its,n,r,e⟩:=I.hok p _ h;exact⟨its,n,r,e,z⟩
theorem Inv.lstUpd {pins:List (Addr×Obj)}{σ:St}{H:Hp}{s:Shared}{p:Addr}{xs ys:List V}{its its':List Value}{n n':Nat}{f:Obj->Obj}(I:Inv X pins σ H s)(h:H p=some (.lst xs))
  (ho:s.heap.get? p=some {cls:= .type "list",data:= .seq its.toArray n}) (hf:f {cls:= .type "list",data:= .seq its.toArray n}={cls:= .type "list",data:= .seq its'.toArray n'}) (r:Vals ys its') (hz:ys.length<=sizeLine) (t:Nat) :
  Inv X pins σ (upd H p<|.lst ys) {s with heap:=s.heap.update p f,toks:=t}:=by
 have e:(s.heap.update p f).get? p=some {cls:= .type "list",data:= .seq its'.toArray n'}:=by
  rw[pC f ho (by rw[hf]<;>rfl),hf]
 refine I.write (x:=p) (e:=p) (by rw[h];trivial) (.inl rfl) (λb u hb q=>(aE1 _ _<|Ne.symm hb).trans q) ⟨_,e⟩ ?_
 exact⟨hz,its',n',r,e⟩
noncomputable def rSetL:V->V->V->Hp->(Hp->Prop)->Prop:=λo i v H Q=> ∃p xs k j,o= .ref p/\i= .int k/\H p=some (.lst xs)/\ixN xs.length k=some j/\Q (upd H p<|.lst<|xs.set j v)
theorem bQ3:PSet X rSetL:=by
 intro pins s σ H o i v ov iv u Q I ro ri rv h;obtain⟨p,xs,k,j,rfl,rfl,hp,hj,q⟩:=h;cases ro;obtain⟨t,rfl⟩:=ri;obtain⟨its,n,r,ho,hz⟩:=I.lst hp;obtain⟨h1,h2,h3,h4⟩:=c87 hj;have hl:=r.length;have hn:=aP8;have I':Inv X pins σ (upd H p<|.lst<|xs.set j v) {s with heap:=s.heap.update p (Obj.mapSeq (·.setIfInBounds j u))}:=
  I.lstUpd hp ho (c15 its n j u) (r.set rv j) (by rw[fG];exact hz) s.toks
 by_cases h0:0<=k
 ·have hk:k.toNat=j:=by
   rw[yR h0 h4]at h1;exact gF h1
  exact PySem.W.ki_setAt ho h0 ad (by rw[b9,<-hl];exact h4) (by rw[hk];exact⟨_,I',q⟩)
 ·have hk:(k+(its.toArray.size:Int)).toNat=j:=by
   rw[yM ad h3]at h1
   rw[b9,<-hl];exact gF h1
  exact PySem.W.ki_setBack ho ad (by rw[b9,<-hl];exact h3) ad (by rw[hk];exact⟨_,I',q⟩)
theorem bH1 (lo hi:Option Int)(n:Nat):(sliceBounds lo hi none n).1=((HT.sIx n 0 lo:Nat):Int)/\(sliceBounds lo hi none n).2.1=((HT.sIx n n hi:Nat):Int)/\(sliceBounds lo hi none n).2.2=1:=by
 refine⟨?_,?_,rfl⟩
 ·cases lo with
  | none=>simp[sliceBounds,HT.sIx]
  | some i=>
   simp only[sliceBounds,HT.sIx,getD_none,show(1:Int)>0 by decide,eU]
   by_cases h:i<0
   ·simp only[h,eU]<;>lia
   ·simp only[h,iI]<;>lia
 ·cases hi with
  | none=>simp[sliceBounds,HT.sIx]
  | some i=>
   simp only[sliceBounds,HT.sIx,getD_none,show(1:Int)>0 by decide,eU]
   by_cases h:i<0
   ·simp only[h,eU]<;>lia
   ·simp only[h,iI]<;>lia
theorem b91 (its:List Value)(lo hi:Option Int):slicePick its.toArray lo hi none=((its.drop<|HT.sIx its.length 0 lo).take<|HT.sIx its.length its.length hi-HT.sIx its.length 0 lo).toArray:=by
 obtain⟨h1,h2,h3⟩:=bH1 lo hi its.toArray.size;unfold slicePick;rw[h1,h2,h3];simp only[sliceRange_one,pick_run,b9]<;>rfl
noncomputable def rSlL (K:Frag):V->Option Int->Option Int->Hp->VK->Prop:=λx lo hi H Q=> ∃a xs,x= .ref a/\SqL K H a xs/\ ∀p,H p=none->Q (.ref p) (upd H p<|.lst<|bQ2 xs lo hi)
theorem c88:SlR X (rSlL X.K):=by
 intro pins s σ H x v vl vu lo hi sl Q I rx hs pl pu h;obtain⟨a,xs,rfl,hx,q⟩:=h;cases rx;obtain⟨its,r,ht,hz⟩:=I.list hx;have hlen:=r.length;refine⟨"list",_,slot_list_getitem.lookup,ht.isList.typeIs,?_⟩;refine wpAny_getItem_list_slice ht.isList hs pl pu .none ae ?_ (by rw[b9]<;>lia)
 rw[b91,<-hlen];refine⟨.ref s.heap.objs.size,_,I.laid (t':=s.toks) (o:= .lst (bQ2 xs lo hi)) (λb ob q=>aO _ q) (aB _) ?_,rfl,q _<|I.hok.fresh<|aB _⟩
 exact⟨aL (aU0 xs lo hi) hz,_,0,(r.drop<|HT.sIx xs.length 0 lo).take<|HT.sIx xs.length xs.length hi-HT.sIx xs.length 0 lo,bY _ rfl⟩
noncomputable def aK7:V->Bool
 | .non=>true
 | .bl _=>true
 | .int _=>true
 | .str _=>true
 | _=>false
noncomputable def eqV:V->V->Bool
 | .non,.non=>true
 | .bl a,.bl b=>a==b
 | .bl a,.int b=>(if a then 1 else 0)==b
 | .int a,.bl b=>a==(if b then 1 else 0)
 | .int a,.int b=>a==b
 | .str a,.str b=>a==b
 | _,_=>false
theorem eqAt_V {A:Around}{s:Shared}{y x:V}{u v:Value}(ry:RelV y u)(rx:RelV x v)(fy:aK7 y=true)(fx:aK7 x=true):SeqAt.EqAt A s u v (eqV y x):=by
 cases y with
 | non=>
  cases ry;cases x with
  | non=>cases rx;exact SeqAt.EqAt.same _
  | bl b=>cases rx;exact SeqAt.EqAt.none_bool b
  | int b=>obtain⟨t,rfl⟩:=rx;exact SeqAt.EqAt.none_int b t
  | str b=>obtain⟨t,rfl⟩:=rx;exact SeqAt.EqAt.none_str b t
  | _=>exact absurd (show false=true from fx) bI
 | bl a=>
  cases ry;cases x with
  | non=>cases rx;exact SeqAt.EqAt.bool_none a
  | bl b=>cases rx;exact SeqAt.EqAt.bool_bool a b
  | int b=>obtain⟨t,rfl⟩:=rx;exact SeqAt.EqAt.bool_int a b t
  | str b=>obtain⟨t,rfl⟩:=rx;exact SeqAt.EqAt.bool_str a b t
  | _=>exact absurd (show false=true from fx) bI
 | int a=>
  obtain⟨t',rfl⟩:=ry;cases x with
  | non=>cases rx;exact SeqAt.EqAt.int_none a t'
  | bl b=>cases rx;exact SeqAt.EqAt.int_bool a t' b
  | int b=>obtain⟨t,rfl⟩:=rx;exact SeqAt.EqAt.int_int a t' b t
  | str b=>obtain⟨t,rfl⟩:=rx;exact SeqAt.EqAt.int_str a t' b t
  | _=>exact absurd (show false=true from fx) bI
 | str a=>
  obtain⟨t',rfl⟩:=ry;cases x with
  | non=>cases rx;exact SeqAt.EqAt.str_none a t'
  | bl b=>cases rx;exact SeqAt.EqAt.str_bool a t' b
  | int b=>obtain⟨t,rfl⟩:=rx;exact SeqAt.EqAt.str_int a t' b t
  | str b=>obtain⟨t,rfl⟩:=rx;exact SeqAt.EqAt.str_str a t' b t
  | _=>exact absurd (show false=true from fx) bI
 | _=>exact absurd (show false=true from fy) bI
noncomputable def eqU (x:V)(u:Value):Bool:=match u with
 | .none=>eqV .non x
 | .bool b=>eqV (.bl b) x
 | .int i _=>eqV (.int i) x
 | .str z _=>eqV (.str z) x
 | _=>false
theorem cM8 {x y:V}{u:Value}(r:RelV y u)(f:aK7 y=true):eqU x u=eqV y x:=by
 cases y with
 | non=>cases r;rfl
 | bl b=>cases r;rfl
 | int i=>obtain⟨t,rfl⟩:=r;rfl
 | str z=>obtain⟨t,rfl⟩:=r;rfl
 | _=>exact absurd (show false=true from f) bI
theorem bH2 {x:V}: ∀{xs:List V} {us:List Value},Vals xs us->xs.all aK7=true->us.any (eqU x)=xs.any λy=>eqV y x
 | _,_,.nil,_=>rfl
 | y::xs,u::us,.cons r t,f=>by
  rw[all_cons,dS]at f;rw[any_cons,any_cons,cM8 r f.1,bH2 t f.2]
theorem aZ8 {A:Around}{s:Shared}{x:V}{v:Value}(rx:RelV x v)(fx:aK7 x=true): ∀{xs:List V} {us:List Value},Vals xs us->xs.all aK7=true-> ∀u∈us,SeqAt.EqAt A s u v (eqU x u)
 | _,_,.nil,_=>λu hu=>by cases hu
 | y::xs,u::us,.cons r t,f=>λu' hu=>by
  rw[all_cons,dS]at f;rcases aY.mp hu with rfl|hu
  ·rw[cM8 r f.1];exact eqAt_V r rx f.1 fx
  ·exact aZ8 rx fx t f.2 u' hu
noncomputable def inV (x:V)(xs:List V):Bool:=xs.any λy=>eqV y x
noncomputable def rIn (K:Frag)(neg:Bool):R2:=λx y H Q=> ∃p xs,y= .ref p/\(SqL K H p xs\/SqT K H p xs)/\aK7 x=true/\xs.all aK7=true/\Q (.bl<|if neg then !inV x xs else inV x xs) H
theorem bH3:OpR X (compareOp .NotIn) (rIn X.K true):=by
 intro pins s σ H x y v u Q I rx ry h;obtain⟨p,xs,rfl,hq,fx,fs,q⟩:=h;cases ry;rcases hq with hq|hq
 ·obtain⟨its,r,pl,hz⟩:=I.list hq;refine SeqAt.notIn_listAt (eqU x) pl.isList (λw hw=>aZ8 rx fx r fs w (by simpa using hw)) ⟨.bl _,H,I,rfl,?_⟩
  rw[show its.toArray.any (eqU x)=its.any (eqU x)by simp,bH2 r fs]
  exact q
 ·obtain⟨its,r,pl,hz⟩:=I.tuple hq;refine SeqAt.notIn_tupleAt (eqU x) pl (λw hw=>aZ8 rx fx r fs w (by simpa using hw)) ⟨.bl _,H,I,rfl,?_⟩
  rw[show its.toArray.any (eqU x)=its.any (eqU x)by simp,bH2 r fs]
  exact q
theorem bH4:sD X (.builtin "len") (λxs H Q=> ∃p ys,xs=[.ref p]/\(SqL X.K H p ys\/SqT X.K H p ys)/\Q (.int ys.length) H):=by
 intro pins s σ H xs us Q I r h;obtain⟨p,ys,rfl,hq,q⟩:=h;obtain⟨u,rfl,rx⟩:=vals1 r;cases rx;have hn:=aP8;rcases hq with hq|hq
 ·obtain⟨its,r',pl,hz⟩:=I.list hq;have hlen:=r'.length;exact Calls.call_len_list pl.isList (by simp only[b9]<;>lia) ⟨.int ys.length,H,I.tok _,⟨s.toks+1,by rw[b9,hlen]⟩,q⟩
 ·obtain⟨its,r',pl,hz⟩:=I.tuple hq;have hlen:=r'.length;exact len_tuple pl (by simp only[b9]<;>lia) ⟨.int ys.length,H,I.tok _,⟨s.toks+1,by rw[b9,hlen]⟩,q⟩
theorem bH5:sD X (.type "list") (λxs H Q=> ∃p ys,xs=[.ref p]/\(SqL X.K H p ys\/SqT X.K H p ys)/\ ∀l,H l=none->Q (.ref l) (upd H l<|.lst ys)):=by
 intro pins s σ H xs us Q I r h;obtain⟨p,ys,rfl,hq,q⟩:=h;obtain⟨u,rfl,rx⟩:=vals1 r;cases rx;have fin: ∀(its:List Value),Vals ys its->ys.length<=sizeLine-> ∀(h':Heap) (c':Nat),(∀b o',s.heap.get? b=some o'->h'.get? b=some o')->
   h'.get? s.heap.objs.size=some {cls:= .type "list",dict:=none,data:= .seq its.toArray c',slots:= #[]}->EP X pins σ Q (.ref s.heap.objs.size) {s with heap:=h'}:=λits r' hz h' c' kp e=>
  ⟨.ref s.heap.objs.size,_,I.laid (t':=s.toks) kp (aB _)<|show qX X.prog X.w _ h' _ (.lst ys)from⟨hz,its,c',r',e⟩,rfl,q _<|I.hok.fresh<|aB _⟩
 rcases hq with hq|hq
 ·obtain⟨its,r',pl,hz⟩:=I.list hq;have hlen:=r'.length;obtain⟨o,ho,hc,n,hd⟩:=pl.isList;exact call_list_seq p (.inl rfl) ho hc hd (λh' c' kp e=>fin its r' hz h' c' kp e) (by simp only[b9]<;>lia)
 ·obtain⟨its,r',pl,hz⟩:=I.tuple hq;have hlen:=r'.length;obtain⟨o,ho,hc,n,hd⟩:=pl;exact call_list_seq p (.inr rfl) ho hc hd (λh' c' kp e=>fin its r' hz h' c' kp e) (by simp only[b9]<;>lia)
theorem vT:sD X (.type "tuple") (λxs H Q=> ∃p ys,xs=[.ref p]/\((SqL X.K H p ys/\ ∀l,H l=none->Q (.ref l) (upd H l<|.tup ys))\/(SqT X.K H p ys/\Q (.ref p) H))):=by
 intro pins s σ H xs us Q I r h;obtain⟨p,ys,rfl,h⟩:=h;obtain⟨u,rfl,rx⟩:=vals1 r;cases rx;rcases h with⟨hq,q⟩| ⟨hq,q⟩
 ·obtain⟨its,r',pl,hz⟩:=I.list hq;have hlen:=r'.length;refine call_tuple_list pl.isList (λh' kp=> ?_) (by simp only[b9]<;>lia)
  have I1:Inv X pins σ H {s with heap:=h'}:=I.kept (t':=s.toks) kp;have I2:Inv X pins σ (upd H h'.objs.size<|.tup ys) {s with heap:=h'.push {cls:= .type "tuple",data:= .seq its.toArray}}:=
   I1.laid (t':=s.toks) (λb o e=>aO _ e) (aB _) (show qX X.prog X.w _ _ _ (.tup ys)from⟨hz,its,r',tU _ _⟩)
  exact⟨.ref h'.objs.size,_,I2,rfl,q _<|I1.hok.fresh<|aB _⟩
 ·obtain⟨its,r',pl,hz⟩:=I.tuple hq;exact call_tuple_same pl ⟨.ref p,H,I,rfl,q⟩
def tyV (K:Frag)(T:String)(x:V)(H:Hp):Prop:=match x with
 | .str _=>T="str"
 | .int _=>T="int"
 | .ref p=>(T="list"/\ ∃xs,SqL K H p xs)\/(T="tuple"/\ ∃o,K.lookup p=some o/\o.cls= .type "tuple"/\o.dict=none)\/
   (T="dict"/\((∃kvs,H p=some (.dK kvs))\/ ∃kvs,H p=some (.dT kvs)))\/(T="set"/\ ∃S n,H p=some (.set S n))
 | _=>False
theorem tyV_is {pins:List (Addr×Obj)}{σ:St}{H:Hp}{s:Shared}{T:String}{x:V}{v:Value}(I:Inv X pins σ H s)(r:RelV x v)(ty:tyV X.K T x H) :
  s.TypeIs v T/\ ∀a,v= .ref a-> ∃ob,s.heap.get? a=some ob/\ob.dict=none:=by
 cases x with
 | str z=>
  obtain⟨t,rfl⟩:=r;cases (show T="str" from ty)
  exact⟨typeIs_str s z t,λ_ e=>nomatch e⟩
 | int i=>
  obtain⟨t,rfl⟩:=r;cases (show T="int" from ty)
  exact⟨tT s i t,λ_ e=>nomatch e⟩
 | ref p=>
  cases r;rcases ty with⟨rfl,xs,hq⟩| ⟨rfl,o,hk,hc,hd⟩| ⟨rfl,hk⟩| ⟨rfl,S,n,hk⟩
  ·obtain⟨its,_,pl,_⟩:=I.list hq;refine⟨pl.isList.typeIs,λa e=> ?_⟩
   cases e;obtain⟨o,n,e,c,hd,_⟩:=pl;exact⟨o,e,hd⟩
  ·refine⟨⟨o,I.kIn p o hk,hc⟩,λa e=> ?_⟩
   cases e;exact⟨o,I.kIn _ o hk,hd⟩
  ·have z: ∃o,s.heap.get? p=some o/\o.ExactDict:=by
    rcases hk with⟨kvs,hk⟩| ⟨kvs,hk⟩
    ·obtain⟨_,_,_,_,o,_,_,e,ex,_⟩:=I.hok p _ hk;exact⟨o,e,ex⟩
    ·obtain⟨_,_,_,_,o,_,_,e,ex,_⟩:=I.hok p _ hk;exact⟨o,e,ex⟩
   obtain⟨o,e,ex⟩:=z;refine⟨⟨o,e,ex.1⟩,λa e2=> ?_⟩
   cases e2;exact⟨o,e,ex.2.1⟩
  ·obtain⟨o,_,_,_,e,ex,_⟩:=I.hok p _ hk;refine⟨⟨o,e,ex.1⟩,λa e2=> ?_⟩
   cases e2;exact⟨o,e,ex.2.1⟩
 | _=>exact False.elim ty
def tBM (K:Frag)(T:String)(r:V->List V->Hp->VK->Prop)(to:TE)(t:TA):TE:=λσ H Q=>to σ H λx H1=>tyV K T x H1/\t σ H1 λxs H2=>r x xs H2 Q
variable {o e:Expr}{es:List Expr}{to:TE}{t:TA}{name:Str}{apos cpos:Pos}{T id:String}{r:V->List V->Hp->VK->Prop}
theorem pe_bm (pa:PlainAttrs T)(slot:Slot T name id)(hty:typeOf (.builtin id)=pure (.type "method_descriptor"))(hm:MtR X id r)(ho:PE X o to)(ha:PA X (e::es) t)
  (hbase:attributeBase o name X.env (eval o X.env)=eval o X.env:=by rfl)
  (hfew:((backTo cpos<|starEach (e::es) X.env).all (λx=> !x.1)&&(backToKw cpos<|keywordEach [] X.env).all (λx=>x.1.isSome)
   &&decide ((e::es).length+([]:List Keyword).length+(if([]:List Keyword).isEmpty then 0 else 1)<30))=true:=by rfl)
  (hline:(apos.endLine==cpos.line)=true:=by rfl) (hs:starEach (e::es) X.env=(false,eval e X.env)::starEach es X.env:=by rfl) (hplain:(backTo cpos<|starEach es X.env).any (·.1)=false:=by rfl) :
  PE X (.Call (.Attribute o name apos) (e::es) [] cpos) (tBM X.K T r to t):=by
 intro pins s σ H Q I h;refine wpAny_Call_method_late hbase hfew hline rfl (thn (ho pins s σ H _ I h) λv s1 ⟨x,H1,I1,r1,ty,q1⟩=> ?_)
 obtain⟨h1,h2⟩:=tyV_is I1 r1 ty;refine⟨T,id,pa,slot,hty,h1,h2,?_⟩;have hA:=ha cpos pins s1 σ H1 _ I1 q1;rw[hs]at hA⊢;refine Calls.callWith_builtin (by show(false||(backTo cpos<|starEach es X.env).any (·.1))=false;rw[hplain]<;>rfl) (aE7 ?_)
 exact thn hA λus s2 ⟨vs,H2,I2,r2,q2⟩=>hm pins s2 σ H2 x vs v us Q I2 r1 r2 q2
end
end L2
namespace L2
open PySem PySem.Spec PyProof.Rows
def MtM (X:Cx)(id:String)(r:V->List V->Hp->VK->Prop):Prop:=
 ∀(pins:List (Addr×Obj)) (s:Shared) (σ:St) (H:Hp) (x:V) (xs:List V) (v:Value) (us:List Value) (Q:VK),Inv X pins σ H s->RelV x v->Vals xs us->r x xs H Q->
  wpAny (model X.prog X.w) X.A (call (.builtin id) (v::us)) (EP X pins σ Q) X.xe s
theorem Vals.one {x:V}{us:List Value}(h:Vals [x] us): ∃u,us=[u]/\RelV x u:=by
 cases h with
 | cons r q=>cases q;exact⟨_,rfl,r⟩
theorem Vals.two {x y:V}{us:List Value}(h:Vals [x,y] us): ∃u v,us=[u,v]/\RelV x u/\RelV y v:=by
 cases h with
 | cons r q=>obtain⟨u,rfl,s⟩:=Vals.one q;exact⟨_,_,rfl,r,s⟩
theorem Vals.rep {xs:List V}{us:List Value}(h:Vals xs us): ∀k:Nat,Vals (replicate k xs).flatten (replicate k us).flatten
 | 0=> .nil
 | k+1=>by
  rw[jP,jP,n6,n6];exact Vals.append h (Vals.rep h k)
theorem foldl_rep (its:List Value): ∀(k:Nat) (acc:List Value),
  foldl (λx1 x2=>x1++x2) acc.toArray (replicate k its.toArray)=(acc++(replicate k its).flatten).toArray
 | 0,acc=>ae
 | k+1,acc=>by
  have e:acc.toArray++its.toArray=(acc++its).toArray:=ae
  have e2:(acc++its)++(replicate k its).flatten=acc++(replicate (k+1) its).flatten:=by
   rw[jP,n6,List.append_assoc]
  rw[<-e2,<-foldl_rep its k (acc++its),<-e,jP,List.foldl_cons]
section
variable {X:Cx}{pins:List (Addr×Obj)}{σ:St}{H:Hp}{s:Shared}{l b:Addr}{xs ys zs:List V}
theorem Inv.lset {its its':List Value}{n:Nat}{f:Array Value->Array Value}{t':Nat}(I:Inv X pins σ H s)(hH:H l=some (.lst xs))
  (e:s.heap.get? l=some {cls:= .type "list",data:= .seq its.toArray n}) (hf:f its.toArray=its'.toArray) (hv:Vals ys its') (hz:ys.length<=sizeLine) :
  Inv X pins σ (upd H l<|.lst ys) {s with heap:=s.heap.update l (Obj.mapSeq f),toks:=t'}:=by
 have q:=PySem.IsL.update e f;rw[hf]at q;refine I.write (x:=l) (e:=l) (by rw[hH];exact trivial) (.inl rfl) (λb' u hb hu=>(aE1 s.heap (Obj.mapSeq f)<|Ne.symm hb).trans hu) ⟨_,q⟩ ?_
 exact⟨hz,its',_,hv,q⟩
theorem Inv.lnew {its:List Value}{t':Nat}(I:Inv X pins σ H s)(hv:Vals ys its)(hz:ys.length<=sizeLine) :
  Inv X pins σ (upd H s.heap.objs.size<|.lst ys) {s with heap:=s.heap.push {cls:= .type "list",data:= .seq its.toArray},toks:=t'}:=
 I.laid (λ_ _ q=>aO _ q) (aB _) ⟨hz,its,0,hv,bY _ rfl⟩
theorem Inv.fresh (I:Inv X pins σ H s):H s.heap.objs.size=none:=I.hok.fresh (aB _)
theorem Inv.lstM (I:Inv X pins σ H s)(hH:H l=some (.lst xs)):xs.length<=sizeLine/\ ∃(its:List Value) (n:Nat),Vals xs its/\xs.length=its.length/\s.heap.get? l=some {cls:= .type "list",data:= .seq its.toArray n}:=by
 obtain⟨z,its,n,r,e⟩:=I.hok l _ hH;exact⟨z,its,n,r,r.length,e⟩
theorem cM9 {n:Nat}(h:n<=sizeLine):Builtin.List.listTooLong n=false:=by
 unfold Builtin.List.listTooLong;exact fF ad
end
section
variable {X:Cx}
noncomputable def d25:V->List V->Hp->VK->Prop:=λx vs H Q=> ∃l xs y,x= .ref l/\vs=[y]/\H l=some (.lst xs)/\xs.length<sizeLine/\Q .non (upd H l<|.lst<|xs++[y])
theorem bC8:MtM X "list.append" d25:=by
 intro pins s σ H x vs v us Q I rx rv h;obtain⟨l,xs,y,rfl,rfl,hH,hz,q⟩:=h;cases rx;obtain⟨u,rfl,ru⟩:=rv.one;obtain⟨z,its,n,r,hl,e⟩:=I.lstM hH;refine kU F.slot_list_append ⟨_,e,rfl⟩ F.entry_list_append (F.args_list_append_2 _ _) (PySem.list_append l its.toArray n u (by rw[b9];lia)) ⟨e,?_⟩
 refine⟨.non,_,I.lset (its':=its++[u]) hH e ae (r.append<|.cons ru .nil) ?_,rfl,q⟩
 rw[cY,aE4]
 lia
noncomputable def rCat:R2:=λx y H Q=> ∃l b xs zs,x= .ref l/\y= .ref b/\H l=some (.lst xs)/\H b=some (.lst zs)/\xs.length+zs.length<=sizeLine/\ ∀p,H p=none->Q (.ref p) (upd H p<|.lst<|xs++zs)
theorem op_cat:OpR X (binaryOp .Add) rCat:=by
 intro pins s σ H x y v u Q I rx ry h;obtain⟨l,b,xs,zs,rfl,rfl,hH,hB,hz,q⟩:=h;cases rx;cases ry;obtain⟨z,its,n,r,hl,e⟩:=I.lstM hH;obtain⟨z2,its2,n2,r2,hl2,e2⟩:=I.lstM hB;refine PySem.P.add_list e e2 ?_ (by rw[b9,b9];omega)
 have ea:its.toArray++its2.toArray=(its++its2).toArray:=ae
 rw[ea];exact⟨.ref _,_,I.lnew (t':=s.toks) (r.append r2) (by rw[cY];omega),rfl,q _ I.fresh⟩
noncomputable def rRep:R2:=λx y H Q=> ∃l k xs,x= .ref l/\y= .int k/\H l=some (.lst xs)/\ -(2^63)<=k/\k<2^63/\xs.length*k.toNat<=sizeLine/\
 ∀p,H p=none->Q (.ref p) (upd H p<|.lst (replicate k.toNat xs).flatten)
theorem bH6 {α:Type}(xs:List α)(k:Nat):(replicate k xs).flatten.length=k*xs.length:=by
 induction k with
 | zero=>simp
 | succ k ih=>rw[jP,n6,cY,ih,Nat.succ_mul,tN]
theorem op_rep:OpR X (binaryOp .Mult) rRep:=by
 intro pins s σ H x y v u Q I rx ry h;obtain⟨l,k,xs,rfl,rfl,hH,h1,h2,hz,q⟩:=h;cases rx;obtain⟨t,rfl⟩:=ry;obtain⟨z,its,n,r,hl,e⟩:=I.lstM hH;have hlen:its.toArray.size*k.toNat<=sizeLine:=by rw[b9,<-hl];exact hz
 have hcap: ¬its.toArray.size*k.toNat>(2^63-1)/8:=by
  have:(sizeLine:Nat)<=(2^63-1)/8:=ac
  lia
 have hfit: ¬(!Builtin.List.listFitsIndex k)=true:=by
  rw[fitsIndex_both h1 h2];exact bI
 have hlong: ¬Builtin.List.listTooLong (its.toArray.size*k.toNat)=true:=by
  rw[cM9 hlen];exact bI
 have hnew:foldl (λx1 x2=>x1++x2) #[] (replicate (if its.toArray.isEmpty=true then 0 else k.toNat) its.toArray)=(replicate k.toNat its).flatten.toArray:=by
  have f0: ∀m:Nat,foldl (λx1 x2=>x1++x2) #[] (replicate m its.toArray)=(replicate m its).flatten.toArray:=λm=>by
   have:=foldl_rep its m [];rw[yD]at this;exact this
  rw[f0];cases its with
  | nil=>simp
  | cons a r'=>rw[a6 ae]
 refine wpAny_binaryOp_repeat_ref (T:="list") (U:="int") ac ⟨_,e,rfl⟩ (λs'=>tT s' k t) noFill_list_mul F.fills_int_mul F.slot_int_rmul repeat_list F.slot_int_index.lookup
  (kU F.slot_int_rmul (tT s k t) F.entry_int_rmul (F.args_int_rmul_2 _ _) (int___rmul___int_list k t l its.toArray n)
   ⟨e,rfl,⟨_,e,rfl⟩,kU F.slot_list_mul ⟨_,e,rfl⟩ F.entry_list_mul (F.args_list_mul_2 _ _) (AutoListH.list___mul___list_int_3 l its.toArray n k t hfit hcap hlong) ⟨e,?_⟩⟩)
 rw[hnew];exact⟨.ref _,_,I.lnew (t':=s.toks) (r.rep k.toNat) (by rw[bH6,mul_comm];exact hz),rfl,q _ I.fresh⟩
end
section
variable {prog:Program}{w:World}{A:Around}{E:Value->Shared->Prop}{s:Shared}
set_option maxRecDepth 100000 in
end
end L2
namespace Att
open PySem PySem.W PySem.Calls PyProof.Rows
theorem aV9 {P:Params}{h:Heap}: ∀(ns:List Int) (vs:List Value),WellAll P h vs (ns.map WData.int)->IntsAre vs ns:=by
 intro ns
 induction ns with
 | nil=>
  intro vs w;rw[j6]at w;cases w;exact .nil
 | cons n ns ih=>
  intro vs w;rw[d6]at w;cases w with
  | cons a b=>
   cases a;exact .cons _ _ (ih _ b)
theorem cF0 {l:OpenLaw}{n:Nat}(hn:l.most=some n){P:Params}{h:Heap}{args:List WData}{vals:List Value}
  (hpre:l.row.toRowW.claim.pre args=true) (hwl:WellAll P h vals args) :
  ∃a vs ns,vals=[Value.ref a]/\args=[WData.list<|ns.map WData.int]/\h.get? a=some {cls:= .type "list",data:= .seq vs.toArray}/\IntsAre vs ns/\ns.length<=n:=by
 have hsh:WShape.hasAll [] args [.list .int]=true:=(pre_splitW hpre).1;have hc:l.pre.holds [] {args:=args}=true:=(pre_splitW hpre).2;obtain⟨d,r,rfl,h1,h2⟩:=hasAllW_cons hsh;obtain rfl:=hasAllW_nil h2;obtain⟨xs,rfl,h3⟩:=hasW_list h1;obtain⟨ns,rfl⟩:=items_int h3;have hlen:ns.length<=n:=by
  unfold OpenLaw.pre at hc;have h4:(WTm.not<|.lt (.lit<|.int (n:Int))<|.len<|.arg 0).holds [] {args:=[.list<|ns.map .int]}=true:=by
   have h4:=(holds_andW hc).1;rw[hn]at h4;exact h4
  have h5:=condW_of h4 (w_not<|w_lt w_lit<|w_len_list<|w_arg rfl);rw[aC]at h5;refine Nat.le_of_not_lt λq=> ?_
  have q':(n:Int)< ((ns.length:Nat):Int):=aa
  first
   | (rw[gG q']at h5;exact absurd h5 ac)
   | (simp at h5;omega)
 cases hwl with
 | cons w1 w2=>
  cases w2;cases w1 with
  | list ho hall=>exact⟨_,_,ns,rfl,rfl,ho,aV9 ns _ hall,hlen⟩
theorem cF1 (l:OpenLaw)(args:List WData):l.row.toRowW.claim.post args (.bool true) args=true:=
 postW_of (r:=l.row.toRowW) (X:=(true==true))
  (show WShape.has [] (.bool true) .bool=true by first|rfl|decide|simp[WShape.has,WShape.arms,WShape.armsAll])
  (show(WTm.eq .res<|.lit<|.bool true).value [] {args:=args,res:=some (.bool true),after:=args}=some (.bool<|true==true)from w_eq_bool (w_res rfl) w_lit) rfl
theorem attach_call {l:OpenLaw}{n:Nat}{q:Program}{loose:List Str}{XP:(Str->Option Value)->Heap->Prop}{YP:World->Heap->Prop}{d:DefRec}
  (hn:l.most=some n) (hdf:d.params.defaults=[])
  (call: ∀(w:World) (s₀ s₁:Shared) (mg mb:Str->Option Value) (fa:Addr) (o:Obj) (pm cd doc:Value) (a:Addr) (vs:List Value) (ns:List Int),
   Ground q loose [] XP w s₀ mg mb s₁.heap->YP w s₁.heap->
   s₁.heap.get? fa=some o->o.data= .func (docDef d.name d.params d.body d.scope pm cd doc)->s₁.heap.CodeRec cd d.name->mg d.name=some (.ref fa)->
   s₁.heap.get? a=some {cls:= .type "list",data:= .seq vs.toArray}->IntsAre vs ns->ns.length<=n->s₁.gens= #[]->
   codeAny (model l.prog w) callerA (.call (.ref fa) ⟨[.ref a],[]⟩) (λr s'=>r= .ok (.ret<|.bool true)/\OldK s₁.heap s'.heap/\s'.os=s₁.os/\AllBare s'.gens) s₁) :
  WalkO q loose XP YP l.row.toRowW d [] (λf vs=>PySem.call f vs):=by
 intro w s₀ s₁ mg mb G Y fa o pm cd doc dV kV ho hd hcd hD hmg hg args vals as hpre hlay hrd hwl hlo;obtain rfl:dV= .none:=Dflts.none hD hdf;obtain rfl:kV= .none:=Dflts.noKw hD;obtain⟨a,vs,ns,rfl,rfl,hobj,hints,hlen⟩:=cF0 hn hpre hwl;refine enter_call (tM (call w s₀ s₁ mg mb fa o pm cd doc a vs ns G Y ho (fd_plain hd) hcd hmg hobj hints hlen hg) λr s' hq=> ?_)
 obtain⟨rfl,h2,h3,h4⟩:=hq;exact⟨.inl ⟨.bool true,.bool true,[],rfl,λ_=>rfl,.bool true,cF1 l _,λ_=>⟨List.Pairwise.nil,λ_ hm=>(nomatch hm)⟩⟩,h2,h3,h4⟩
end Att
namespace L2
open PySem PySem.Spec PyProof.Rows
theorem bC9: ∀{vs:List Value} {ns:List Int},IntsAre vs ns->Vals (ns.map V.int) vs
 | _,_,.nil=> .nil
 | _,_,.cons n t h=> .cons ⟨t,rfl⟩ (bC9 h)
def Only (H:Hp):Prop:= ∀b,H b=none\/ ∃o xs,H b=some (.frz o<|.lst xs)
theorem cN0 {P:Program}{w:World}{K:Frag}{mg mb:Str->Option Value}{CX:CXT}{k:Nat}{fa a:Addr}{fd:FuncData}{x:Str}{sp:Sp}{s₁:Shared}{vs:List Value}{ns:List Int}
  (KX:K.In s₁.heap) (hns:s₁.heap.Ns mainGlobals mg) (hb:s₁.heap.Ns builtinsNs mb) (hbb: ∀x:Str,x≠"__name__"->mb x=bootBuiltins x) (hlim:s₁.heap.NoLimit) (hg:s₁.gens= #[])
  (ha:s₁.heap.get? a=some {cls:= .type "list",data:= .seq vs.toArray}) (hi:IntsAre vs ns) (hl:ns.length<=sizeLine) (hr:hZ k callerA)
  (F: ∀base:Heap,K.In base->base.Ns mainGlobals mg->sL P w K mg base CX k fa fd [x] sp) (hbind: ∀(s:Shared) (u:Value),BindsTo s fd ⟨[u],[]⟩ [(x,u)])
  (hsp: ∀H:Hp,Only H->SqL K H a (ns.map V.int)->sp [.ref a] H (λv _=>v= .bl true) λ_ _ _=>False)
  (hCX: ∀H e s',CX [] H s₁ (λ_ _ _=>False) e s'->False) :
  codeAny (model P w) callerA (.call (.ref fa) ⟨[.ref a],[]⟩) (λr s'=>r= .ok (.ret<|.bool true)/\OldK s₁.heap s'.heap/\s'.os=s₁.os/\AllBare s'.gens) s₁:=by
 have rv:=bC9 hi;have lenV:=hi.length;have core: ∀H:Hp,Only H->SqL K H a (ns.map V.int)->HOk P w H s₁.heap->(∀b,H b≠none->b=a)->(H a≠none->K.lookup a=none)->
   codeAny (model P w) callerA (.call (.ref fa) ⟨[.ref a],[]⟩) (λr s'=>r= .ok (.ret<|.bool true)/\OldK s₁.heap s'.heap/\s'.os=s₁.os/\AllBare s'.gens) s₁:=by
  intro H hO hS hok hA hK;have base_of: ∀{b:Addr} {o:Obj},s₁.heap.get? b=some o->H b=none->(bG5 s₁.heap H).get? b=some o:=λe n=>cK5 e n
  have noA: ∀{b:Addr} {o:Obj} {es:Array DictEntry} {ep:Nat},s₁.heap.get? b=some o->o.data= .dict es ep->H b=none:=λ{b o es ep} e d=>by
   cases q:H b with
   | none=>rfl
   | some u=>
    have e':b=a:=hA b (by rw[q];simp)
    subst e';rw[ha]at e;cases e;have d':Data.seq vs.toArray _=Data.dict es ep:=d;cases d'
  have nsK: ∀{b:Addr} {m:Str->Option Value},s₁.heap.Ns b m->(bG5 s₁.heap H).Ns b m:=λ{b m} ⟨o,es,ep,e,d,r⟩=>⟨o,es,ep,base_of e<|noA e d,d,r⟩
  have hKb:K.In (bG5 s₁.heap H):=λb o e=>base_of (KX b o e) (by
   cases q:H b with
   | none=>rfl
   | some u=>
    have e':b=a:=hA b (by rw[q];simp)
    subst e';rw[hK (by rw[q];simp)]at e;cases e)
  have hM:Mod K mg (bG5 s₁.heap H):=⟨hKb,nsK hns,⟨mb,nsK hb,hbb⟩,let ⟨mc,h1,h2⟩:=hlim;⟨mc,nsK h1,h2⟩⟩;have e0:c12 P w K mg (bG5 s₁.heap H) callerA [] s₁ H:=⟨rfl,hM,λb o e=>d03 e,le_of_eq<|cD8 _ _,trivial,λb hb=>absurd (show b∈([]:List Addr)from hb) ae,hok,.of_eq hg⟩
  refine tM ((F _ hKb<|nsK hns).run callerA [] s₁ H ⟨[.ref a],[]⟩ [.ref a] [.ref a] _ _ hr e0 (hbind s₁<|.ref a) (.cons rfl .nil)<|hsp H hO hS) λr s' h=> ?_
  cases r with
  | error e=>exact(hCX H e s' h).elim
  | ok fl=>
   cases fl with
   | next=>exact False.elim h
   | brk=>exact False.elim h
   | cont=>exact False.elim h
   | ret u=>
    obtain⟨v,H',os,bare,un,hok',r',q⟩:=h;have q':v= .bl true:=q;subst q';obtain rfl:u=Value.bool true:=r';refine⟨rfl,OldK.of_keep λb o e=> ?_,os,bare⟩
    cases q:H b with
    | none=>exact un.keep b o e q (by intro z;exact absurd (show b∈([]:List Addr)from z) ae) ae
    | some u=>
     rcases hO b with z| ⟨ob,xs,z⟩
     ·rw[q]at z;cases z
     ·have z2:=un.frzs b ob _ z;obtain⟨e1,_⟩:=hok b _ z;obtain⟨e2,_⟩:=hok' b _ z2;rw[e]at e1;cases e1;exact e2
 cases hk:K.lookup a with
 | some o=>
  have e:=KX a o hk;rw[ha]at e;cases e;refine core (λ_=>none) (λ_=> .inl rfl) (.inr ⟨_,vs.toArray,_,hk,rfl,rfl,rfl,by rw[b9,lenV];exact hl,by simpa using rv⟩) (λb u z=>by have z':(none:Option HO)=some u:=z;cases z') (λb z=>absurd rfl z) λz=>absurd rfl z
 | none=>
  refine core (λb=>if b=a then some (.frz {cls:= .type "list",data:= .seq vs.toArray}<|.lst<|ns.map V.int)else none) (λb=> ?_) (.inl<|.inr ⟨{cls:= .type "list",data:= .seq vs.toArray},a7 rfl⟩) (λb u z=> ?_) (λb z=> ?_) λ_=>hk
  ·by_cases hb:b=a
   ·exact .inr ⟨_,_,a7 hb⟩
   ·exact .inl (a6 hb)
  ·by_cases hb:b=a
   ·have z':=(a7 hb).symm.trans z;cases z';subst hb;exact⟨ha,by rw[aC];exact hl,vs,_,rv,ha⟩
   ·have z':=(a6 hb).symm.trans z;cases z'
  ·by_cases hb:b=a
   ·exact hb
   ·exact absurd (a6 hb) z
end L2
namespace L2
open PySem PySem.Spec PyProof.Rows
theorem walk_of {l:PySem.W.OpenLaw}{n k:Nat}{q:Program}{loose:List Str}{XP:(Str->Option Value)->Heap->Prop}{YP:World->Heap->Prop}{d:DefRec}{K:Params->Frag}{CX:World->CXT}{sp:World->Sp}{x:Str}
  (hn:l.most=some n) (hn2:n<=sizeLine) (hdf:d.params.defaults=[]) (hr:hZ k callerA)
  (hY: ∀(w:World) (h:Heap),YP w h->(K w.params).In h)
  (F: ∀(w:World) (mg:Str->Option Value) (fa:Addr) (h:Heap),(K w.params).In h->h.Ns mainGlobals mg->mg d.name=some (.ref fa)->
   ∃fd:FuncData,(∀(s:Shared) (u:Value),BindsTo s fd ⟨[u],[]⟩ [(x,u)])/\
    ∀base:Heap,(K w.params).In base->base.Ns mainGlobals mg->sL l.prog w (K w.params) mg base (CX w) k fa fd [x] (sp w))
  (hsp: ∀(w:World) (H:Hp) (a:Addr) (ns:List Int),ns.length<=n->Only H->SqL (K w.params) H a (ns.map V.int)->sp w [.ref a] H (λv _=>v= .bl true) λ_ _ _=>False)
  (hCX: ∀(w:World) (H:Hp) (s:Shared) (e:Value) (s':Shared),CX w [] H s (λ_ _ _=>False) e s'->False) :
  PySem.W.WalkO q loose XP YP l.row.toRowW d [] (λf vs=>PySem.call f vs):=by
 refine Att.attach_call hn hdf λw s₀ s₁ mg mb fa o pm cd doc a vs ns G Y ho hd hcd hmg hobj hints hlen hg=> ?_
 have KX:=hY w _ Y;obtain⟨fd,hb,hF⟩:=F w mg fa _ KX G.T.g hmg;exact cN0 KX G.T.g G.T.b G.T.builtins G.T.nolimit hg hobj hints (aL hlen hn2) hr hF hb (λH hO hS=>hsp w H a ns hlen hO hS) λH e s'=>hCX w H s₁ e s'
end L2
namespace L2
open PySem PySem.Spec PyProof.Rows
noncomputable def k7 (s:Stmt):Arguments:=match s with
 | .FunctionDef _ a _ _ _ _ _ _ _ _=>a
 | _=>{posonlyargs:=[],args:=[],vararg:=none,kwonlyargs:=[],kw_defaults:=[],kwarg:=none,defaults:=[]}
noncomputable def dQ (s:Stmt):List Stmt:=match s with
 | .FunctionDef _ _ b _ _ _ _ _ _ _=>b
 | _=>[]
noncomputable def aE (s:Stmt):Scope:=match s with
 | .FunctionDef _ _ _ _ _ _ sc _ _ _=>sc
 | _=>{kind:= .function,names:=[],isGenerator:=false,isCoroutine:=false}
abbrev CX0:CXT:=λ_ _ _ _ _ _=>False
abbrev E0:XK:=λ_ _ _=>False
structure Fun (K:Frag)(x qual:Str)(st:Stmt)(f:Addr)(fd:FuncData):Prop where
 ex: ∃(oc:Value) (od:Option Addr) (kV doc pm:Value) (an:Option Addr) (cdv ct:Value) (osl:Array (Option Value)),
  fd=fnOf x qual (k7 st) (dQ st) (aE st) .none kV doc pm an cdv ct/\K.lookup f=some ⟨oc,od,.func fd,osl⟩/\codeIn K cdv qual=true
 kp:keepIn K (.ref f)=true
section
variable {P:Program}{w:World}{K:Frag}{mg:Str->Option Value}{base:Heap}
theorem Fun.ok {x qual:Str}{st:Stmt}{f:Addr}{fd:FuncData}{N ps:List Str}{k:Nat}{sp:Sp}(F:Fun K x qual st f fd)(S:b6 N ps (aE st))(len: ∀vs H Q E,sp vs H Q E->vs.length=ps.length)
  (hbody: ∀(cdv:Value) (A:Around) (outer:List Env) (s:Shared) (H:Hp) (vs:List V) (Q:VK) (E:XK),hZ k (A.deeper<|envOfC qual (aE st) s.heap.objs.size f cdv)->sp vs H Q E->
   ∃t,PSs (tV CX0 P w K mg base N qual (aE st) f cdv A outer s H E).nox (dQ st) t/\t {nx:=λ_ H'=>Q .non H',rt:=Q} (start N vs) H):sL P w K mg base CX0 (k+1) f fd ps sp:=by
 obtain⟨oc,od,kV,doc,pm,an,cdv,ct,osl,rfl,lk,hcd⟩:=F.ex;refine cM4 lk hcd S len λA outer s H vs Q E hr hsp=> ?_
 obtain⟨t,h,q⟩:=hbody cdv A outer s H vs Q E hr hsp;exact⟨t,h.nox,q⟩
theorem Fun.binds {x qual:Str}{st:Stmt}{f:Addr}{fd:FuncData}{ps:List Str}(F:Fun K x qual st f fd)
  (h: ∀(kV doc pm:Value) (an:Option Addr) (cdv ct:Value) (us:List Value),us.length=ps.length->bindArgs (fnOf x qual (k7 st) (dQ st) (aE st) .none kV doc pm an cdv ct) ⟨us,[]⟩=pure (ps.zip us)):Binds K fd ps []:=by
 obtain⟨oc,od,kV,doc,pm,an,cdv,ct,osl,rfl,lk,hcd⟩:=F.ex;exact .all (h kV doc pm an cdv ct)
theorem aQ0 {x qual:Str}{st:Stmt}{f:Addr}{oc:Value}{od an:Option Addr}{osl:Array (Option Value)}{kV doc pm cdv ct:Value}(l:K.lookup f=some ⟨oc,od,.func<|fnOf x qual (k7 st) (dQ st) (aE st) .none kV doc pm an cdv ct,osl⟩)
  (c:codeIn K cdv qual=true) (k:keepIn K (.ref f)=true):Fun K x qual st f (fnOf x qual (k7 st) (dQ st) (aE st) .none kV doc pm an cdv ct):=⟨⟨oc,od,kV,doc,pm,an,cdv,ct,osl,rfl,l,c⟩,k⟩
end
section
variable {X:Cx}
theorem pv (i:Nat){x:Str}{pos:Pos}(hN:X.N[i]? =some x:=by rfl)(hv:Vis X.env.scope x:=by first|exact Or.inl rfl|exact Or.inr (Or.inl rfl)|exact Or.inr (Or.inr rfl))(hd:(x==("__debug__":Str))=false:=by decide)
  (hcd:(x==("__classdict__":Str))=false:=by decide):PE X (.Name x pos) (aG9 i):=pe_var hN hv hd hcd
end
def iB (H H':Hp):Prop:= ∀b o,H b=some o->H' b=some o
theorem iB.refl (H:Hp):iB H H:=λ_ _ h=>h
theorem iB.trans {H H1 H2:Hp}(a:iB H H1)(b:iB H1 H2):iB H H2:=λc o h=>b c o (a c o h)
theorem iB.free {H H':Hp}(e:iB H H'){l:Addr}(h:H' l=Option.none):H l=Option.none:=by
 cases q:H l with
 | none=>rfl
 | some o=>
  rw[e l o q]at h;cases h
theorem iB.seq {K:Frag}{H H':Hp}{a:Addr}{xs:List V}(e:iB H H')(h:SqL K H a xs):SqL K H' a xs:=by
 rcases h with(h| ⟨o,h⟩)|h
 ·exact .inl (.inl<|e _ _ h)
 ·exact .inl (.inr ⟨o,e _ _ h⟩)
 ·exact .inr h
end L2
section
namespace M
open PySem PySem.Spec PyProof.Rows L2
inductive D where
 | non|bl (b:Bool)|int (i:Int)|str (x:Str)|ty (n:String)
 | tup (l:List D)|lst (l:List D)|rol (l:List D)
 | obj (C:Addr) (ks:List Str) (l:List D)
 | adr (a:Addr)
 | xob (a d:Addr) (ks:List Str) (l:List D)
abbrev AS:=Addr->Prop
def KT (K:Frag)(a:Addr)(vs:List V):Prop:=
 ∃(o:Obj) (its:Array Value) (n:Nat),K.lookup a=some o/\o.cls= .type "tuple"/\o.data= .seq its n/\its.size<=sizeLine/\Vals vs its.toList
def KL (K:Frag)(a:Addr)(vs:List V):Prop:=
 ∃(o:Obj) (its:Array Value) (n:Nat),K.lookup a=some o/\o.cls= .type "list"/\o.dict=none/\o.data= .seq its n/\its.size<=sizeLine/\Vals vs its.toList
def OkC (K:Frag)(C:Addr)(ks:List Str):Prop:=Cls K C/\ ∀f∈ks,a25 K C f
mutual
def Rep (K:Frag)(A:AS)(H:Hp):D->V->Prop
 | .non,v=>v= .non
 | .bl b,v=>v= .bl b
 | .int i,v=>v= .int i
 | .str x,v=>v= .str x
 | .ty n,v=>v= .ty n
 | .tup l,v=> ∃a vs,v= .ref a/\((¬A a/\Rd H a (.tup vs))\/KT K a vs)/\bS K A H l vs
 | .lst l,v=> ∃a vs,v= .ref a/\ ¬A a/\H a=some (.lst vs)/\bS K A H l vs
 | .rol l,v=> ∃a vs,v= .ref a/\((¬A a/\Rd H a (.lst vs))\/KL K a vs)/\bS K A H l vs
 | .obj C ks l,v=> ∃a dx vs,v= .ref a/\ ¬A a/\H a=some (.ins C dx<|ks.zip vs)/\ks.length=vs.length/\bS K A H l vs/\OkC K C ks
 | .adr a,v=>v= .ref a
 | .xob a d ks l,v=> ∃vs,v= .ref a/\ ¬A d/\H d=some (.xd<|ks.zip vs)/\ks.length=vs.length/\bS K A H l vs
def bS (K:Frag)(A:AS)(H:Hp):List D->List V->Prop
 | [],vs=>vs=[]
 | d::ds,vs=> ∃v vr,vs=v::vr/\Rep K A H d v/\bS K A H ds vr
end
section
variable {K:Frag}{A A':AS}{H H':Hp}
def mJ (A:AS)(H:Hp)(A':AS)(H':Hp):Prop:= ∀b o,¬A b->H b=some o-> ¬A' b/\H' b=some o
theorem Rd.pres (p:mJ A H A' H'){a:Addr}{u:HO}(n: ¬A a)(r:Rd H a u): ¬A' a/\Rd H' a u:=by
 rcases r with r| ⟨o,r⟩
 ·exact⟨(p a _ n r).1,.inl (p a _ n r).2⟩
 ·exact⟨(p a _ n r).1,.inr ⟨o,(p a _ n r).2⟩⟩
mutual
theorem Rep.mono (p:mJ A H A' H'): ∀{d:D} {v:V},Rep K A H d v->Rep K A' H' d v
 | .non,_,h=>h
 | .bl _,_,h=>h
 | .int _,_,h=>h
 | .str _,_,h=>h
 | .ty _,_,h=>h
 | .tup l,v,h=>by
  simp only[Rep]at h⊢;obtain⟨a,vs,e,c,r⟩:=h;refine⟨a,vs,e,?_,bS.mono p r⟩;rcases c with⟨n,c⟩|c
  ·exact .inl (Rd.pres p n c)
  ·exact .inr c
 | .lst l,v,h=>by
  simp only[Rep]at h⊢;obtain⟨a,vs,e,n,c,r⟩:=h;exact⟨a,vs,e,(p a _ n c).1,(p a _ n c).2,bS.mono p r⟩
 | .rol l,v,h=>by
  simp only[Rep]at h⊢;obtain⟨a,vs,e,c,r⟩:=h;refine⟨a,vs,e,?_,bS.mono p r⟩;rcases c with⟨n,c⟩|c
  ·exact .inl (Rd.pres p n c)
  ·exact .inr c
 | .obj C ks l,v,h=>by
  simp only[Rep]at h⊢;obtain⟨a,dx,vs,e,n,c,hl,r,ok⟩:=h;exact⟨a,dx,vs,e,(p a _ n c).1,(p a _ n c).2,hl,bS.mono p r,ok⟩
 | .adr _,_,h=>h
 | .xob a d ks l,v,h=>by
  simp only[Rep]at h⊢;obtain⟨vs,e,n,c,hl,r⟩:=h;exact⟨vs,e,(p d _ n c).1,(p d _ n c).2,hl,bS.mono p r⟩
theorem bS.mono (p:mJ A H A' H'): ∀{l:List D} {vs:List V},bS K A H l vs->bS K A' H' l vs
 | [],_,h=>by simp only[bS]at h ⊢; exact h
 | d::ds,vs,h=>by
  simp only[bS]at h⊢;obtain⟨v,vr,e,r,rs⟩:=h;exact⟨v,vr,e,Rep.mono p r,bS.mono p rs⟩
end
theorem bS.length: ∀{l:List D} {vs:List V},bS K A H l vs->l.length=vs.length
 | [],_,h=>by simp only[bS]at h;subst h;rfl
 | d::ds,vs,h=>by
  simp only[bS]at h;obtain⟨v,vr,rfl,_,rs⟩:=h;simp only[j1,bS.length rs]
theorem bS.nil:bS K A H [] []:=by simp only[bS]
theorem bS.cons {d:D}{v:V}{l:List D}{vs:List V}(r:Rep K A H d v)(rs:bS K A H l vs):bS K A H (d::l) (v::vs):=by
 simp only[bS];exact⟨v,vs,rfl,r,rs⟩
theorem bS.uncons {d:D}{l:List D}{vs:List V}(h:bS K A H (d::l) vs): ∃v vr,vs=v::vr/\Rep K A H d v/\bS K A H l vr:=by
 simpa only[bS]using h
theorem bS.unnil {vs:List V}(h:bS K A H [] vs):vs=[]:=by simpa only[bS]using h
theorem bS.append: ∀{l m:List D} {vs ws:List V},bS K A H l vs->bS K A H m ws->bS K A H (l++m) (vs++ws)
 | [],_,_,_,h,g=>by rw[h.unnil];exact g
 | d::l,m,vs,ws,h,g=>by
  obtain⟨v,vr,rfl,r,rs⟩:=h.uncons;exact .cons r (bS.append rs g)
theorem bS.get: ∀{l:List D} {vs:List V} {i:Nat} {d:D},bS K A H l vs->l[i]? =some d-> ∃v,vs[i]? =some v/\Rep K A H d v
 | [],_,_,_,_,e=>by simp at e
 | d::l,vs,0,d',h,e=>by
  obtain⟨v,vr,rfl,r,rs⟩:=h.uncons;simp at e;subst e;exact⟨v,ae,r⟩
 | d::l,vs,i+1,d',h,e=>by
  obtain⟨v,vr,rfl,r,rs⟩:=h.uncons;obtain⟨w,h1,h2⟩:=bS.get (i:=i) rs (by simpa using e)
  exact⟨w,by simpa using h1,h2⟩
theorem bS.set: ∀{l:List D} {vs:List V} {d:D} {v:V} (i:Nat),bS K A H l vs->Rep K A H d v->bS K A H (l.set i d) (vs.set i v)
 | [],_,_,_,_,h,_=>by rw[h.unnil];exact .nil
 | d'::l,vs,d,v,0,h,g=>by
  obtain⟨w,vr,rfl,r,rs⟩:=h.uncons;exact .cons g rs
 | d'::l,vs,d,v,i+1,h,g=>by
  obtain⟨w,vr,rfl,r,rs⟩:=h.uncons;exact .cons r (bS.set i rs g)
theorem bS.drop: ∀{l:List D} {vs:List V} (n:Nat),bS K A H l vs->bS K A H (l.drop n) (vs.drop n)
 | _,_,0,h=>h
 | [],_,n+1,h=>by rw[h.unnil];exact .nil
 | d::l,vs,n+1,h=>by
  obtain⟨v,vr,rfl,r,rs⟩:=h.uncons;exact bS.drop n rs
theorem bS.take: ∀{l:List D} {vs:List V} (n:Nat),bS K A H l vs->bS K A H (l.take n) (vs.take n)
 | _,_,0,h=>by simp only[List.take_zero];exact .nil
 | [],_,n+1,h=>by rw[h.unnil];exact .nil
 | d::l,vs,n+1,h=>by
  obtain⟨v,vr,rfl,r,rs⟩:=h.uncons;exact .cons r (bS.take n rs)
theorem bS.rep {l:List D}{vs:List V}(h:bS K A H l vs): ∀k:Nat,bS K A H (replicate k l).flatten (replicate k vs).flatten
 | 0=> .nil
 | k+1=>by
  rw[jP,jP,n6,n6];exact .append h (h.rep k)
theorem mJ.same (s:iB H H'):mJ A H A H':=λb o n e=>⟨n,s b o e⟩
theorem mJ.sub (s:iB H H')(h: ∀a,A' a->A a):mJ A H A' H':=λb o n e=>⟨λq=>n (h b q),s b o e⟩
theorem mJ.fresh {a:Addr}(s:iB H H')(n:H a=none):mJ A H (λb=>A b\/b=a) H':=λb o nb e=>
 ⟨λq=>q.elim nb λz=>(by subst z;rw[n]at e;cases e),s b o e⟩
theorem mJ.upd {a:Addr}{o:HO}(h:A a):mJ A H A (upd H a o):=λb o' nb e=>⟨nb,by rw[cE λz=>nb (by subst z;exact h)];exact e⟩
end
inductive B where
 | pu (d:D)|ow (l:List D)|bo (l:List D)
noncomputable def B.d:B->D
 | .pu d=>d
 | .ow l=> .lst l
 | .bo l=> .lst l
abbrev Ev:=List (Option B)
def Own (ρ:Ev)(σ:L2.St):AS:=λa=> ∃(i:Nat) (l:List D),ρ[i]? =some (some<|.ow l)/\σ[i]? =some (some<|.ref a)
structure C0 where
 H0:Hp
 A0:AS
def Av (C:C0)(ρ:Ev)(σ:L2.St):AS:=λa=>C.A0 a\/Own ρ σ a
structure EOk (K:Frag)(C:C0)(ρ:Ev)(σ:L2.St)(H:Hp):Prop where
 len:ρ.length=σ.length
 pu: ∀(i:Nat) (d:D),ρ[i]? =some (some<|.pu d)-> ∃v,σ[i]? =some (some v)/\Rep K (Av C ρ σ) H d v
 ow: ∀(i:Nat) (l:List D),ρ[i]? =some (some<|.ow l)-> ∃a vs,σ[i]? =some (some<|.ref a)/\H a=some (.lst vs)/\C.H0 a=none/\bS K (Av C ρ σ) H l vs
 inj: ∀(i j:Nat) (l l':List D) (a:Addr),ρ[i]? =some (some<|.ow l)->ρ[j]? =some (some<|.ow l')->σ[i]? =some (some<|.ref a)->σ[j]? =some (some<|.ref a)->i=j
 bo: ∀(i:Nat) (l:List D),ρ[i]? =some (some<|.bo l)-> ∃a vs,σ[i]? =some (some<|.ref a)/\C.A0 a/\C.H0 a=some (.lst vs)/\bS K (Av C ρ σ) H l vs
 ext:iB C.H0 H
 a0: ∀a,C.A0 a->C.H0 a≠none
section
variable {K:Frag}{C:C0}{ρ ρ':Ev}{σ σ':L2.St}{H H':Hp}
theorem EOk.avSome (I:EOk K C ρ σ H){a:Addr}(h:Av C ρ σ a):H a≠none:=by
 rcases h with h| ⟨i,l,h1,h2⟩
 ·intro z;cases e:C.H0 a with
  | none=>exact I.a0 a h e
  | some o=>rw[I.ext a o e]at z;cases z
 ·obtain⟨b,vs,h3,h4,_⟩:=I.ow i l h1;rw[h2]at h3;cases h3;rw[h4];simp
theorem EOk.same (I:EOk K C ρ σ H)(s:iB H H'):EOk K C ρ σ H' where
 len:=I.len
 pu:=λi d h=>let ⟨v,h1,h2⟩:=I.pu i d h;⟨v,h1,h2.mono<|.same s⟩
 ow:=λi l h=>let ⟨a,vs,h1,h2,h3,h4⟩:=I.ow i l h;⟨a,vs,h1,s _ _ h2,h3,h4.mono<|.same s⟩
 inj:=I.inj
 bo:=λi l h=>let ⟨a,vs,h1,h2,h3,h4⟩:=I.bo i l h;⟨a,vs,h1,h2,h3,h4.mono<|.same s⟩
 ext:=I.ext.trans s
 a0:=I.a0
theorem get_set_ne {α:Type}{l:List α}{i j:Nat}{x:α}(h:i≠j):(l.set i x)[j]? =l[j]? :=by
 rw[aF9];simp[h]
theorem j8 {α:Type}{l:List α}{i:Nat}{x:α}(h:i<l.length):(l.set i x)[i]? =some x:=by
 rw[aF9];simp[h]
theorem b7 {α:Type}{l:List α}{i j:Nat}{x y:α}(h:(l.set i x)[j]? =some y):(i=j/\y=x/\i<l.length)\/(i≠j/\l[j]? =some y):=by
 by_cases e:i=j
 ·subst e;rw[aF9]at h
  by_cases hl:i<l.length
  ·simp[hl]at h;exact .inl ⟨rfl,h.symm,hl⟩
  ·simp[hl]at h
 ·exact .inr ⟨e,by rw[get_set_ne e]at h;exact h⟩
def uZ (K:Frag)(A:AS)(H H':Hp):B->V->Prop
 | .pu d,v=>Rep K A H' d v
 | .ow l,v=> ∃a vs,v= .ref a/\H a=none/\H' a=some (.lst vs)/\bS K (λb=>A b\/b=a) H' l vs
 | .bo _,_=>False
theorem uZ.rep {A:AS}(hA: ∀a,A a->H a≠none): ∀{b:B} {v:V},uZ K A H H' b v->Rep K A H' b.d v
 | .pu d,v,h=>h
 | .ow l,v,h=>by
  obtain⟨a,vs,e,n,h1,r⟩:=h;show Rep K A H' (.lst l) v;simp only[Rep];exact⟨a,vs,e,λz=>hA a z n,h1,r.mono λb o nb q=>⟨λz=>nb (.inl z),q⟩⟩
 | .bo l,v,h=>h.elim
theorem EOk.store (I:EOk K C ρ σ H){i:Nat}{b:B}{v:V}{H1:Hp}(s:iB H H1)(r:uZ K (Av C ρ σ) H H1 b v)(hi:i<σ.length):EOk K C (ρ.set i<|some b) (σ.set i<|some v) H1:=by
 have I1:=I.same s;have hir:i<ρ.length:=by rw[I.len];exact hi
 cases b with
 | pu d=>
  have sub: ∀a,Av C (ρ.set i<|some<|.pu d) (σ.set i<|some v) a->Av C ρ σ a:=by
   rintro a (z| ⟨j,l,h1,h2⟩)
   ·exact .inl z
   ·rcases b7 h1 with⟨rfl,h3,_⟩| ⟨ne,h3⟩
    ·cases h3
    ·rw[get_set_ne ne]at h2;exact .inr ⟨j,l,h3,h2⟩
  refine⟨by rw[fG,fG];exact I.len,?_,?_,?_,?_,I1.ext,I.a0⟩
  rotate_right
  ·intro j l h;rcases b7 h with⟨rfl,h3,_⟩| ⟨ne,h3⟩
   ·cases h3
   ·obtain⟨a,vs,h4,h5,h6,h7⟩:=I1.bo j l h3;exact⟨a,vs,by rw[get_set_ne ne];exact h4,h5,h6,h7.mono<|.sub (.refl _) sub⟩
  ·intro j d' h;rcases b7 h with⟨rfl,h3,_⟩| ⟨ne,h3⟩
   ·cases h3;exact⟨v,j8 hi,Rep.mono (.sub (.refl _) sub) r⟩
   ·obtain⟨v',h4,h5⟩:=I1.pu j d' h3;exact⟨v',by rw[get_set_ne ne];exact h4,h5.mono<|.sub (.refl _) sub⟩
  ·intro j l h;rcases b7 h with⟨rfl,h3,_⟩| ⟨ne,h3⟩
   ·cases h3
   ·obtain⟨a,vs,h4,h5,h6,h7⟩:=I1.ow j l h3;exact⟨a,vs,by rw[get_set_ne ne];exact h4,h5,h6,h7.mono<|.sub (.refl _) sub⟩
  ·intro j k l l' a h1 h2 h3 h4;rcases b7 h1 with⟨rfl,z,_⟩| ⟨ne,z⟩
   ·cases z
   ·rcases b7 h2 with⟨rfl,z',_⟩| ⟨ne',z'⟩
    ·cases z'
    ·rw[get_set_ne ne]at h3;rw[get_set_ne ne']at h4;exact I.inj j k l l' a z z' h3 h4
 | ow l0=>
  obtain⟨a0,vs0,rfl,n0,e0,r0⟩:=r;have sub: ∀a,Av C (ρ.set i<|some<|.ow l0) (σ.set i<|some<|.ref a0) a->Av C ρ σ a\/a=a0:=by
   rintro a (z| ⟨j,l,h1,h2⟩)
   ·exact .inl (.inl z)
   ·rcases b7 h1 with⟨rfl,h3,_⟩| ⟨ne,h3⟩
    ·rw[j8 hi]at h2;cases h2;exact .inr rfl
    ·rw[get_set_ne ne]at h2;exact .inl (.inr ⟨j,l,h3,h2⟩)
  have P:mJ (Av C ρ σ) H (Av C (ρ.set i<|some<|.ow l0)<|σ.set i<|some<|.ref a0) H1:=λb o nb e=>
   ⟨λq=>(sub b q).elim nb λz=>(by subst z;rw[n0]at e;cases e),s b o e⟩
  refine⟨by rw[fG,fG];exact I.len,?_,?_,?_,?_,I1.ext,I.a0⟩
  rotate_right
  ·intro j l h;rcases b7 h with⟨rfl,h3,_⟩| ⟨ne,h3⟩
   ·cases h3
   ·obtain⟨a,vs,h4,h5,h6,h7⟩:=I.bo j l h3;exact⟨a,vs,by rw[get_set_ne ne];exact h4,h5,h6,h7.mono P⟩
  ·intro j d' h;rcases b7 h with⟨rfl,h3,_⟩| ⟨ne,h3⟩
   ·cases h3
   ·obtain⟨v',h4,h5⟩:=I.pu j d' h3;exact⟨v',by rw[get_set_ne ne];exact h4,h5.mono P⟩
  ·intro j l h;rcases b7 h with⟨rfl,h3,_⟩| ⟨ne,h3⟩
   ·cases h3;refine⟨a0,vs0,j8 hi,e0,?_,r0.mono λb o nb q=>⟨λz=>nb (sub b z),q⟩⟩
    cases e:C.H0 a0 with
    | none=>rfl
    | some o=>rw[I.ext _ _ e]at n0;cases n0
   ·obtain⟨a,vs,h4,h5,h6,h7⟩:=I.ow j l h3;exact⟨a,vs,by rw[get_set_ne ne];exact h4,s _ _ h5,h6,h7.mono P⟩
  ·intro j k l l' a h1 h2 h3 h4;have old: ∀{j:Nat} {l:List D},ρ[j]? =some (some<|.ow l)->σ[j]? ≠some (some<|.ref a0):=λ{j l} h z=>by
    obtain⟨b,vs,h4,h5,_⟩:=I.ow j l h;rw[z]at h4;cases h4;rw[n0]at h5;cases h5
   rcases b7 h1 with⟨rfl,z,_⟩| ⟨ne,z⟩
   ·rw[j8 hi]at h3;cases h3;rcases b7 h2 with⟨rfl,z',_⟩| ⟨ne',z'⟩
    ·rfl
    ·rw[get_set_ne ne']at h4;exact absurd h4 (old z')
   ·rw[get_set_ne ne]at h3;rcases b7 h2 with⟨rfl,z',_⟩| ⟨ne',z'⟩
    ·rw[j8 hi]at h4;cases h4;exact absurd h3 (old z)
    ·rw[get_set_ne ne']at h4;exact I.inj j k l l' a z z' h3 h4
 | bo l0=>exact r.elim
theorem EOk.freeze (I:EOk K C ρ σ H){i:Nat}{l:List D}(h:ρ[i]? =some (some<|.ow l)) :
  EOk K C (ρ.set i<|some<|.pu<|.lst l) σ H/\(∀a,Own (ρ.set i<|some<|.pu<|.lst l) σ a->Own ρ σ a)/\ ∃v,σ[i]? =some (some v)/\Rep K (Av C (ρ.set i<|some<|.pu<|.lst l) σ) H (.lst l) v:=by
 have sub: ∀a,Own (ρ.set i<|some<|.pu<|.lst l) σ a->Own ρ σ a:=by
  rintro a ⟨j,l',h1,h2⟩;rcases b7 h1 with⟨rfl,h3,_⟩| ⟨ne,h3⟩
  ·cases h3
  ·exact⟨j,l',h3,h2⟩
 have subA: ∀a,Av C (ρ.set i<|some<|.pu<|.lst l) σ a->Av C ρ σ a:=λa z=>z.imp id (sub a)
 obtain⟨a,vs,h1,h2,h3,h4⟩:=I.ow i l h;have na: ¬Av C (ρ.set i<|some<|.pu<|.lst l) σ a:=by
  rintro(z| ⟨j,l',g1,g2⟩)
  ·exact I.a0 a z h3
  ·rcases b7 g1 with⟨rfl,g3,_⟩| ⟨ne,g3⟩
   ·cases g3
   ·exact ne (I.inj i j l l' a h g3 h1 g2)
 have R:Rep K (Av C (ρ.set i<|some<|.pu<|.lst l) σ) H (.lst l) (.ref a):=by
  simp only[Rep];exact⟨a,vs,rfl,na,h2,h4.mono<|.sub (.refl _) subA⟩
 refine⟨⟨by rw[fG];exact I.len,?_,?_,?_,?_,I.ext,I.a0⟩,sub,.ref a,h1,R⟩
 rotate_right
 ·intro j l' g;rcases b7 g with⟨rfl,g3,_⟩| ⟨ne,g3⟩
  ·cases g3
  ·obtain⟨a',vs',g4,g5,g6,g7⟩:=I.bo j l' g3;exact⟨a',vs',g4,g5,g6,g7.mono<|.sub (.refl _) subA⟩
 ·intro j d' g;rcases b7 g with⟨rfl,g3,_⟩| ⟨ne,g3⟩
  ·cases g3;exact⟨_,h1,R⟩
  ·obtain⟨v',g4,g5⟩:=I.pu j d' g3;exact⟨v',g4,g5.mono<|.sub (.refl _) subA⟩
 ·intro j l' g;rcases b7 g with⟨rfl,g3,_⟩| ⟨ne,g3⟩
  ·cases g3
  ·obtain⟨a',vs',g4,g5,g6,g7⟩:=I.ow j l' g3;exact⟨a',vs',g4,g5,g6,g7.mono<|.sub (.refl _) subA⟩
 ·intro j k l1 l2 a' g1 g2 g3 g4;rcases b7 g1 with⟨rfl,z,_⟩| ⟨ne,z⟩
  ·cases z
  ·rcases b7 g2 with⟨rfl,z',_⟩| ⟨ne',z'⟩
   ·cases z'
   ·exact I.inj j k l1 l2 a' z z' g3 g4
theorem EOk.write (I:EOk K C ρ σ H){i:Nat}{l l':List D}{a:Addr}{vs':List V}(h:ρ[i]? =some (some<|.ow l))(hs:σ[i]? =some (some<|.ref a))(r:bS K (Av C ρ σ) H l' vs') :
  EOk K C (ρ.set i<|some<|.ow l') σ (upd H a<|.lst vs'):=by
 have hi:i<ρ.length:=(kN.mp h).1;have sub: ∀b,Av C (ρ.set i<|some<|.ow l') σ b->Av C ρ σ b:=by
  rintro b (z| ⟨j,l2,h1,h2⟩)
  ·exact .inl z
  ·rcases b7 h1 with⟨rfl,h3,_⟩| ⟨ne,h3⟩
   ·exact .inr ⟨i,l,h,h2⟩
   ·exact .inr ⟨j,l2,h3,h2⟩
 have own:Av C ρ σ a:= .inr ⟨i,l,h,hs⟩;have P:mJ (Av C ρ σ) H (Av C (ρ.set i<|some<|.ow l') σ) (upd H a<|.lst vs'):=λb o nb e=>⟨λz=>nb (sub b z),(mJ.upd own b o nb e).2⟩
 obtain⟨a1,vs,h1,h2,h3,h4⟩:=I.ow i l h;rw[hs]at h1;cases h1;refine⟨by rw[fG];exact I.len,?_,?_,?_,?_,?_,I.a0⟩
 rotate_left 3
 ·intro j l2 g;rcases b7 g with⟨rfl,g3,_⟩| ⟨ne,g3⟩
  ·cases g3
  ·obtain⟨a',vs',g4,g5,g6,g7⟩:=I.bo j l2 g3;exact⟨a',vs',g4,g5,g6,g7.mono P⟩
 rotate_left 1
 ·intro j d' g;rcases b7 g with⟨rfl,g3,_⟩| ⟨ne,g3⟩
  ·cases g3
  ·obtain⟨v',g4,g5⟩:=I.pu j d' g3;exact⟨v',g4,g5.mono P⟩
 ·intro j l2 g;rcases b7 g with⟨rfl,g3,_⟩| ⟨ne,g3⟩
  ·cases g3;exact⟨a,vs',hs,iT,h3,r.mono P⟩
  ·obtain⟨a',vs2,g4,g5,g6,g7⟩:=I.ow j l2 g3;refine⟨a',vs2,g4,?_,g6,g7.mono P⟩;rw[cE λz=> ?_]
   ·exact g5
   ·subst z;exact ne (I.inj i j l l2 a' h g3 hs g4)
 ·intro j k l1 l2 a' g1 g2 g3 g4;have old: ∀{j:Nat} {l1:List D},(ρ.set i<|some<|.ow l')[j]? =some (some<|.ow l1)-> ∃l3,ρ[j]? =some (some<|.ow l3):=λ{j l1} g=>by
   rcases b7 g with⟨rfl,z,_⟩| ⟨ne,z⟩
   ·exact⟨l,h⟩
   ·exact⟨l1,z⟩
  obtain⟨_,q1⟩:=old g1;obtain⟨_,q2⟩:=old g2;exact I.inj j k _ _ a' q1 q2 g3 g4
 ·intro b o e;rw[cE λz=> ?_]
  ·exact I.ext b o e
  ·subst z;rw[h3]at e;cases e
noncomputable def C0.raise (C:C0)(ρ:Ev)(σ:L2.St)(H:Hp)(D:(a:Addr)->Decidable (Own ρ σ a)):C0:=⟨λb=> @ite _ (Own ρ σ b) (D b) none (H b),C.A0⟩
open Classical in
theorem EOk.raise (I:EOk K C ρ σ H):EOk K (C.raise ρ σ H λ_=>inferInstance) ρ σ H/\iB C.H0 (C.raise ρ σ H λ_=>inferInstance).H0:=by
 have e1: ∀b,Own ρ σ b->(C.raise ρ σ H λ_=>inferInstance).H0 b=none:=λb h=>a7 h
 have e2: ∀b,¬Own ρ σ b->(C.raise ρ σ H λ_=>inferInstance).H0 b=H b:=λb h=>a6 h
 have no: ∀b o,C.H0 b=some o-> ¬Own ρ σ b:=λb o e ⟨i,l,h1,h2⟩=>by
  obtain⟨a,vs,h3,h4,h5,_⟩:=I.ow i l h1;rw[h2]at h3;cases h3;rw[h5]at e;cases e
 have s1:iB C.H0 (C.raise ρ σ H λ_=>inferInstance).H0:=λb o e=>by rw[e2 b<|no b o e];exact I.ext b o e
 refine⟨⟨I.len,I.pu,λi l h=> ?_,I.inj,λi l h=> ?_,λb o e=> ?_,λa h z=> ?_⟩,s1⟩
 ·obtain⟨a,vs,h3,h4,h5,h6⟩:=I.ow i l h;exact⟨a,vs,h3,h4,e1 a ⟨i,l,h,h3⟩,h6⟩
 ·obtain⟨a,vs,h3,h4,h5,h6⟩:=I.bo i l h;exact⟨a,vs,h3,h4,s1 _ _ h5,h6⟩
 ·by_cases q:Own ρ σ b
  ·rw[e1 b q]at e;cases e
  ·rw[e2 b q]at e;exact e
 ·cases e:C.H0 a with
  | none=>exact I.a0 a h e
  | some o=>rw[s1 a o e]at z;cases z
theorem EOk.lower {C C':C0}(I:EOk K C' ρ σ H)(s:iB C.H0 C'.H0)(e:C'.A0=C.A0)(ha: ∀a,C.A0 a->C.H0 a≠none):EOk K C ρ σ H:=by
 obtain⟨H0',A0'⟩:=C';obtain⟨H0,A0⟩:=C;have e':A0'=A0:=e;subst e';refine⟨I.len,I.pu,λi l h=> ?_,I.inj,λi l h=> ?_,s.trans I.ext,ha⟩
 ·obtain⟨a,vs,h3,h4,h5,h6⟩:=I.ow i l h;exact⟨a,vs,h3,h4,s.free h5,h6⟩
 ·obtain⟨a,vs,h3,h4,h5,h6⟩:=I.bo i l h;refine⟨a,vs,h3,h4,?_,h6⟩;cases e:H0 a with
  | none=>exact absurd e (ha a h4)
  | some o=>
   have:=s a o e;have h5':H0' a=some (.lst vs):=h5;have this':H0' a=some o:=this;rw[h5']at this';cases this';exact e
end
end M
end
section
namespace M
open PySem PySem.Spec PyProof.Rows L2
def Frz (ρ ρ':Ev):Prop:=ρ'.length=ρ.length/\ ∀i:Nat,ρ'[i]? =ρ[i]? \/ ∃l:List D,ρ[i]? =some (some<|.ow l)/\ρ'[i]? =some (some<|.pu<|.lst l)
theorem Frz.refl (ρ:Ev):Frz ρ ρ:=⟨rfl,λ_=> .inl rfl⟩
theorem Frz.trans {a b c:Ev}(h:Frz a b)(g:Frz b c):Frz a c:=by
 refine⟨g.1.trans h.1,λi=> ?_⟩
 rcases g.2 i with e| ⟨l,e1,e2⟩
 ·rcases h.2 i with e'| ⟨l,e1,e2⟩
  ·exact .inl (e.trans e')
  ·exact .inr ⟨l,e1,e.trans e2⟩
 ·rcases h.2 i with e'| ⟨l',e3,e4⟩
  ·exact .inr ⟨l,e'▸e1,e2⟩
  ·rw[e4]at e1;cases e1
theorem Frz.own {ρ ρ':Ev}{σ:L2.St}(f:Frz ρ ρ'){a:Addr}(h:Own ρ' σ a):Own ρ σ a:=by
 obtain⟨i,l,h1,h2⟩:=h;rcases f.2 i with e| ⟨l',_,e2⟩
 ·exact⟨i,l,e▸h1,h2⟩
 ·rw[e2]at h1;cases h1
theorem Frz.set {ρ:Ev}{i:Nat}{l:List D}(h:ρ[i]? =some (some<|.ow l)):Frz ρ (ρ.set i<|some<|.pu<|.lst l):=by
 refine⟨fG,λj=> ?_⟩
 by_cases e:i=j
 ·subst e;exact .inr ⟨l,h,j8 (kN.mp h).1⟩
 ·exact .inl (get_set_ne e)
section
variable {K:Frag}{C:C0}{ρ ρ':Ev}{σ:L2.St}{H H':Hp}
theorem Frz.av (f:Frz ρ ρ'){a:Addr}(h:Av C ρ' σ a):Av C ρ σ a:=h.imp id f.own
theorem EOk.frz (I:EOk K C ρ σ H)(f:Frz ρ ρ'):EOk K C ρ' σ H:=by
 have ow': ∀{j:Nat} {l:List D},ρ'[j]? =some (some<|.ow l)->ρ[j]? =some (some<|.ow l):=λ{j l} h=>by
  rcases f.2 j with e| ⟨l',_,e2⟩
  ·exact e▸h
  ·rw[e2]at h;cases h
 refine⟨by rw[f.1];exact I.len,λi d h=> ?_,λi l h=> ?_,λi j l l' a h1 h2=>I.inj i j l l' a (ow' h1) (ow' h2),λi l h=> ?_,I.ext,I.a0⟩
 ·rcases f.2 i with e| ⟨l,e1,e2⟩
  ·obtain⟨v,h1,h2⟩:=I.pu i d (e▸h);exact⟨v,h1,h2.mono<|.sub (.refl _) λa=>f.av⟩
  ·rw[e2]at h;cases h;obtain⟨a,vs,h1,h2,h3,h4⟩:=I.ow i l e1;refine⟨.ref a,h1,?_⟩;simp only[Rep];refine⟨a,vs,rfl,?_,h2,h4.mono<|.sub (.refl _) λa=>f.av⟩
   rintro(z| ⟨j,l',g1,g2⟩)
   ·exact I.a0 a z h3
   ·have:=I.inj i j l l' a e1 (ow' g1) h1 g2;subst this;rw[e2]at g1;cases g1
 ·obtain⟨a,vs,h1,h2,h3,h4⟩:=I.ow i l (ow' h);exact⟨a,vs,h1,h2,h3,h4.mono<|.sub (.refl _) λa=>f.av⟩
 ·have h':ρ[i]? =some (some<|.bo l):=by
   rcases f.2 i with e| ⟨l',_,e2⟩
   ·exact e▸h
   ·rw[e2]at h;cases h
  obtain⟨a,vs,h1,h2,h3,h4⟩:=I.bo i l h';exact⟨a,vs,h1,h2,h3,h4.mono<|.sub (.refl _) λa=>f.av⟩
end
abbrev UE:=Ev->(B->Ev->Prop)->Prop
abbrev UV:=Ev->(D->Ev->Prop)->Prop
abbrev UA:=Ev->(List D->Ev->Prop)->Prop
abbrev UT:=Ev->(Bool->Ev->Prop)->Prop
def lE (K:Frag)(t:UE):TE:=λσ H Q=> ∃C ρ Q0,EOk K C ρ σ H/\t ρ Q0/\
 ∀b ρ' v H',Q0 b ρ'->Frz ρ ρ'->iB H H'->uZ K (Av C ρ' σ) H H' b v->Q v H'
def lA (K:Frag)(t:UA):TA:=λσ H Q=> ∃C ρ Q0,EOk K C ρ σ H/\t ρ Q0/\
 ∀ds ρ' vs H',Q0 ds ρ'->Frz ρ ρ'->iB H H'->bS K (Av C ρ' σ) H' ds vs->Q vs H'
def lT (K:Frag)(t:UT):TT:=λσ H Q=> ∃C ρ Q0,EOk K C ρ σ H/\t ρ Q0/\
 ∀b ρ' H',Q0 b ρ'->Frz ρ ρ'->iB H H'->Q b H'
def c16 (K:Frag)(A:AS)(H:Hp):D->V->Prop
 | .tup l,v=> ∃a vs,v= .ref a/\SqT K H a vs/\bS K A H l vs
 | .lst l,v=> ∃a vs,v= .ref a/\H a=some (.lst vs)/\bS K A H l vs
 | .rol l,v=> ∃a vs,v= .ref a/\SqL K H a vs/\bS K A H l vs
 | d,v=>Rep K A H d v
def lV (K:Frag)(t:UV):TE:=λσ H Q=> ∃C ρ Q0,EOk K C ρ σ H/\t ρ Q0/\
 ∀d ρ' v H',Q0 d ρ'->Frz ρ ρ'->iB H H'->c16 K (Av C ρ' σ) H' d v->Q v H'
def PU (X:Cx)(e:Expr)(t:UE):Prop:=PE X e (lE X.K t)
def PUV (X:Cx)(e:Expr)(t:UV):Prop:=PE X e (lV X.K t)
def PUA (X:Cx)(es:List Expr)(t:UA):Prop:=PA X es (lA X.K t)
def PUT (X:Cx)(e:Expr)(t:UT):Prop:=PT X e (lT X.K t)
def PUW (X:Cx)(e:Expr)(t:UT):Prop:=PW X e (lT X.K t)
section
variable {K:Frag}{A:AS}{H:Hp}
theorem Rep.one: ∀{d:D} {v:V},Rep K A H d v->c16 K A H d v
 | .non,_,h=>h
 | .bl _,_,h=>h
 | .int _,_,h=>h
 | .str _,_,h=>h
 | .ty _,_,h=>h
 | .tup l,v,h=>by
  simp only[Rep]at h;obtain⟨a,vs,e,c,r⟩:=h;exact⟨a,vs,e,c.imp cU id,r⟩
 | .lst l,v,h=>by
  simp only[Rep]at h;obtain⟨a,vs,e,n,c,r⟩:=h;exact⟨a,vs,e,c,r⟩
 | .rol l,v,h=>by
  simp only[Rep]at h;obtain⟨a,vs,e,c,r⟩:=h;exact⟨a,vs,e,c.imp cU id,r⟩
 | .obj _ _ _,_,h=>h
 | .adr _,_,h=>h
 | .xob _ _ _ _,_,h=>h
end
theorem kC {X:Cx}{e:Expr}{t t':TE}(h:PE X e t)(i: ∀σ H Q,t' σ H Q->t σ H Q):PE X e t':=λpins s σ H Q I q=>h pins s σ H Q I (i σ H Q q)
theorem dD0 {X:Cx}{es:List Expr}{t t':TA}(h:PA X es t)(i: ∀σ H Q,t' σ H Q->t σ H Q):PA X es t':=λpos pins s σ H Q I q=>h pos pins s σ H Q I (i σ H Q q)
theorem bQ4 {X:Cx}{e:Expr}{t t':TT}(h:PT X e t)(i: ∀σ H Q,t' σ H Q->t σ H Q):PT X e t':=λpins s σ H Q I q=>h pins s σ H Q I (i σ H Q q)
theorem dD1 {X:Cx}{e:Expr}{t t':TT}(h:PW X e t)(i: ∀σ H Q,t' σ H Q->t σ H Q):PW X e t':=λw pins s σ H Q I q=>h w pins s σ H Q I (i σ H Q q)
section
variable {X:Cx}{a b c e o:Expr}{es a24:List Expr}{pos:Pos}{ta tb tc:UE}
def uC (d:D):UE:=λρ Q=>Q (.pu d) ρ
theorem aF {i j pos}:PU X (.Constant (.int i) j pos) (uC<|.int i):=kC pe_int λσ H Q ⟨C,ρ,Q0,I,h,k⟩=>k _ ρ _ H h (.refl _) (.refl _) (show Rep _ _ _ _ _ by simp only[Rep])
theorem bQ5 {b j pos}:PU X (.Constant (.bool b) j pos) (uC<|.bl b):=kC pe_bl λσ H Q ⟨C,ρ,Q0,I,h,k⟩=>k _ ρ _ H h (.refl _) (.refl _) (show Rep _ _ _ _ _ by simp only[Rep])
theorem aZ9 {j pos}:PU X (.Constant .none j pos) (uC .non):=kC pe_non λσ H Q ⟨C,ρ,Q0,I,h,k⟩=>k _ ρ _ H h (.refl _) (.refl _) (show Rep _ _ _ _ _ by simp only[Rep])
theorem pu_str {x j pos}:PU X (.Constant (.str x) j pos) (uC<|.str x):=kC pe_str λσ H Q ⟨C,ρ,Q0,I,h,k⟩=>k _ ρ _ H h (.refl _) (.refl _) (show Rep _ _ _ _ _ by simp only[Rep])
def aA5 (ρ:Ev)(i:Nat)(Q:B->Ev->Prop):Prop:=match ρ[i]? with
 | some (some<|.pu d)=>Q (.pu d) ρ
 | some (some<|.ow l)=>Q (.pu<|.lst l) (ρ.set i<|some<|.pu<|.lst l)
 | _=>False
def aD (i:Nat):UE:=λρ Q=>aA5 ρ i Q
theorem fA (i:Nat){x:Str}{pos:Pos}(h:PE X (.Name x pos) (aG9 i)):PU X (.Name x pos) (aD i):=kC h λσ H Q ⟨C,ρ,Q0,I,h,k⟩=>by
 unfold aD aA5 at h;split at h
 ·rename_i d e
  obtain⟨v,h1,h2⟩:=I.pu i d e;exact⟨v,h1,k _ ρ v H h (.refl _) (.refl _) h2⟩
 ·rename_i l e
  obtain⟨_,_,v,h1,h2⟩:=I.freeze e;exact⟨v,h1,k _ _ v H h (.set e) (.refl _) h2⟩
 ·exact h.elim
def bQ6 (ρ:Ev)(i:Nat)(Q:D->Ev->Prop):Prop:=match ρ[i]? with
 | some (some<|.pu d)=>Q d ρ
 | some (some<|.ow l)=>Q (.lst l) ρ
 | some (some<|.bo l)=>Q (.lst l) ρ
 | _=>False
def aV (i:Nat):UV:=λρ Q=>bQ6 ρ i Q
theorem lY (i:Nat){x:Str}{pos:Pos}(h:PE X (.Name x pos) (aG9 i)):PUV X (.Name x pos) (aV i):=kC h λσ H Q ⟨C,ρ,Q0,I,h,k⟩=>by
 unfold aV bQ6 at h;split at h
 ·rename_i d e
  obtain⟨v,h1,h2⟩:=I.pu i d e;exact⟨v,h1,k _ ρ v H h (.refl _) (.refl _) h2.one⟩
 ·rename_i l e
  obtain⟨a,vs,h1,h2,h3,h4⟩:=I.ow i l e;exact⟨_,h1,k _ ρ _ H h (.refl _) (.refl _) ⟨a,vs,rfl,h2,h4⟩⟩
 ·rename_i l e
  obtain⟨a,vs,h1,h2,h3,h4⟩:=I.bo i l e;exact⟨_,h1,k _ ρ _ H h (.refl _) (.refl _) ⟨a,vs,rfl,I.ext _ _ h3,h4⟩⟩
 ·exact h.elim
def uV (t:UE):UV:=λρ Q=>t ρ λb ρ1=>Q b.d ρ1
theorem EOk.avF {K:Frag}{C:C0}{ρ ρ':Ev}{σ:L2.St}{H:Hp}(I:EOk K C ρ σ H)(f:Frz ρ ρ'){a:Addr}(h:Av C ρ' σ a):H a≠none:=I.avSome (f.av h)
theorem aA6 (h:PU X e ta):PUV X e (uV ta):=kC h λσ H Q ⟨C,ρ,Q0,I,h,k⟩=>
 ⟨C,ρ,_,I,h,λb ρ' v H' q f s r=>k b.d ρ' v H' q f s (r.rep λa z=>I.avF f z).one⟩
theorem c89 {x:Str}{v:V}{d:D}{pos:Pos}(h:PE X (.Name x pos) (tC v))(r: ∀A H,Rep X.K A H d v):PU X (.Name x pos) (uC d):=kC h λσ H Q ⟨C,ρ,Q0,I,h,k⟩=>k _ ρ _ H h (.refl _) (.refl _) (r _ _)
def OpU (X:Cx)(f:Value->Value->Sem Value)(g:D->D->(B->Prop)->Prop):Prop:=
 ∀(A:AS) (H:Hp) (d e:D) (v w:V) (Q0:B->Prop) (Q:VK),(∀a,A a->H a≠none)->Rep X.K A H d v->Rep X.K A H e w->g d e Q0->
  (∀b v' H',Q0 b->iB H H'->uZ X.K A H H' b v'->Q v' H')-> ∃r,OpR X f r/\r v w H Q
def uOp (g:D->D->(B->Prop)->Prop)(ta tb:UE):UE:=λρ Q=>ta ρ λx ρ1=>tb ρ1 λy ρ2=>g x.d y.d λb=>Q b ρ2
theorem cN1 {f:Value->Value->Sem Value}:OpR X f (λx y H Q=> ∃r,OpR X f r/\r x y H Q):=λpins s σ H x y v u Q I rx ry ⟨r,hr,q⟩=>hr pins s σ H x y v u Q I rx ry q
theorem uZ.from {K:Frag}{A:AS}{H0 H H':Hp}(s:iB H0 H): ∀{b:B} {v:V},uZ K A H H' b v->uZ K A H0 H' b v
 | .pu _,_,h=>h
 | .ow _,_,⟨a,vs,e,n,h1,r⟩=>⟨a,vs,e,s.free n,h1,r⟩
 | .bo _,_,h=>h.elim
theorem lOp {f:Value->Value->Sem Value}{g:D->D->(B->Prop)->Prop}(ho:OpU X f g)(σ:L2.St)(H:Hp)(Q:VK)(h:lE X.K (uOp g ta tb) σ H Q) :
  tOp (λx y H Q=> ∃r,OpR X f r/\r x y H Q) (lE X.K ta) (lE X.K tb) σ H Q:=by
 obtain⟨C,ρ,Q0,I,h,k⟩:=h;refine⟨C,ρ,_,I,h,λx ρ1 v H1 q1 f1 s1 r1=> ?_⟩
 have I1:=(I.frz f1).same s1;refine⟨C,ρ1,_,I1,q1,λy ρ2 w H2 q2 f2 s2 r2=> ?_⟩
 have I2:=(I1.frz f2).same s2;have hA: ∀a,Av C ρ2 σ a->H2 a≠none:=λa z=>I2.avSome z
 refine ho (Av C ρ2 σ) H2 x.d y.d v w _ Q hA ((r1.rep λa z=>I.avF f1 z).mono<|.sub s2 λa=>f2.av) (r2.rep λa z=>I1.avF f2 z) q2 λb v' H' q s r=> ?_
 exact k b ρ2 v' H' q (f1.trans f2) (s1.trans<|s2.trans s) (r.from<|s1.trans s2)
theorem aK {op:Operator}{g:D->D->(B->Prop)->Prop}(ho:OpU X (binaryOp op) g)(ha:PU X a ta)(hb:PU X b tb):PU X (.BinOp a op b pos) (uOp g ta tb):=
 kC (pe_op cN1 ha hb) (lOp ho)
theorem pu_cmp {op:CmpOp}{g:D->D->(B->Prop)->Prop}(ho:OpU X (compareOp op) g)(ha:PU X a ta)(hb:PU X b tb)(hm:behindInMarks op b=false):PU X (.Compare a [op] [b] pos) (uOp g ta tb):=
 kC (d14 cN1 ha hb hm) (lOp ho)
def isB (Q:Bool->Ev->Prop):B->Ev->Prop:=λb ρ=>match b with
 | .pu (.bl k)=>Q k ρ
 | _=>False
def fX (t:UE):UT:=λρ Q=>t ρ (isB Q)
theorem d26 {t:UE}(σ:L2.St)(H:Hp)(Q:Bool->Hp->Prop)(h:lT X.K (fX t) σ H Q):lE X.K t σ H λx H'=> ∃k,x= .bl k/\Q k H':=by
 obtain⟨C,ρ,Q0,I,h,k⟩:=h;refine⟨C,ρ,_,I,h,λb ρ' v H' q f s r=> ?_⟩
 unfold isB at q;split at q
 ·rename_i k'
  refine⟨k',?_,k k' ρ' H' q f s⟩
  have r':Rep X.K (Av C ρ' σ) H' (.bl k') v:=r
  simpa only[Rep]using r'
 ·exact q.elim
theorem cN2 (h:PU X e ta)(he: ∀whole,isTrue e X.env whole=(do let v<-whole;standAt e.pos;holding [v] (truthy v)):=by intro _;rfl):PUT X e (fX ta):=
 bQ4 (pt_val h he) d26
theorem aK8 {op:CmpOp}{g:D->D->(B->Prop)->Prop}(ho:OpU X (compareOp op) g)(ha:PU X a ta)(hb:PU X b tb)(hm:behindInMarks op b=false):PUT X (.Compare a [op] [b] pos) (fX<|uOp g ta tb):=
 bQ4 (d15 cN1 ha hb hm) λσ H Q h=>lOp ho σ H _ (d26 σ H Q h)
def bQ7 (t u:UT):UT:=λρ Q=>t ρ λc ρ1=>if c=true then u ρ1 Q else Q false ρ1
def uOr (t u:UT):UT:=λρ Q=>t ρ λc ρ1=>if c=true then Q true ρ1 else u ρ1 Q
def uNot (t:UT):UT:=λρ Q=>t ρ λc ρ1=>Q (!c) ρ1
variable {tA tB:UT}
theorem wZ (ha:PUT X a tA):PUW X (.BoolOp .And [a] pos) tA:=d06 ha
theorem d27 (ha:PUT X a tA):PUW X (.BoolOp .Or [a] pos) tA:=pw_or1 ha
theorem a86 (ha:PUT X a tA)(hb:PUW X (.BoolOp .And (b::a24) pos) tB):PUW X (.BoolOp .And (a::b::a24) pos) (bQ7 tA tB):=
 dD1 (pw_and ha hb) λσ H Q ⟨C,ρ,Q0,I,h,k⟩=>⟨C,ρ,_,I,h,λc ρ1 H1 q f s=>by
  cases c with
  | true=>
   rw[a7 rfl]at q⊢;exact⟨C,ρ1,Q0,(I.frz f).same s,q,λb ρ2 H2 q2 f2 s2=>k b ρ2 H2 q2 (f.trans f2) (s.trans s2)⟩
  | false=>
   rw[a6 bI]at q⊢;exact k _ _ _ q f s⟩
theorem cN3 (ha:PUT X a tA)(hb:PUW X (.BoolOp .Or (b::a24) pos) tB):PUW X (.BoolOp .Or (a::b::a24) pos) (uOr tA tB):=
 dD1 (pw_or ha hb) λσ H Q ⟨C,ρ,Q0,I,h,k⟩=>⟨C,ρ,_,I,h,λc ρ1 H1 q f s=>by
  cases c with
  | true=>
   rw[a7 rfl]at q⊢;exact k _ _ _ q f s
  | false=>
   rw[a6 bI]at q⊢;exact⟨C,ρ1,Q0,(I.frz f).same s,q,λb ρ2 H2 q2 f2 s2=>k b ρ2 H2 q2 (f.trans f2) (s.trans s2)⟩⟩
theorem PUW.pt (h:PUW X e tA):PUT X e tA:=PW.pt h
theorem d28 (ha:PUT X a tA):PUT X (.UnaryOp .Not a pos) (uNot tA):=
 bQ4 (pt_not ha) λσ H Q ⟨C,ρ,Q0,I,h,k⟩=>⟨C,ρ,_,I,h,λc ρ1 H1 q f s=>k _ ρ1 H1 q f s⟩
theorem tW {K:Frag}{A:AS}{H H':Hp}{k:Bool}:uZ K A H H' (.pu<|.bl k) (.bl k):=by
 show Rep K A H' (.bl k) (.bl k)
 simp only[Rep]
def uIf (t:UT)(ta tb:UE):UE:=λρ Q=>t ρ λc ρ1=>if c=true then ta ρ1 Q else tb ρ1 Q
theorem cN4 (hc:PUT X c tA)(ha:PU X a ta)(hb:PU X b tb):PU X (.IfExp c a b pos) (uIf tA ta tb):=
 kC (cK8 hc ha hb) λσ H Q ⟨C,ρ,Q0,I,h,k⟩=>⟨C,ρ,_,I,h,λc ρ1 H1 q f s=>by
  have I1:=(I.frz f).same s;cases c with
  | true=>
   dsimp only at q⊢;rw[a7 rfl]at q⊢;exact⟨C,ρ1,Q0,I1,q,λb ρ2 v H2 q2 f2 s2 r2=>k b ρ2 v H2 q2 (f.trans f2) (s.trans s2) (r2.from s)⟩
  | false=>
   dsimp only at q⊢;rw[a6 bI]at q⊢;exact⟨C,ρ1,Q0,I1,q,λb ρ2 v H2 q2 f2 s2 r2=>k b ρ2 v H2 q2 (f.trans f2) (s.trans s2) (r2.from s)⟩⟩
def aM:UA:=λρ Q=>Q [] ρ
def a9 (t:UE)(u:UA):UA:=λρ Q=>t ρ λx ρ1=>u ρ1 λxs ρ2=>Q (x.d::xs) ρ2
theorem aA:PUA X [] aM:=dD0 c09 λσ H Q ⟨C,ρ,Q0,I,h,k⟩=>k [] ρ [] H h (.refl _) (.refl _) .nil
theorem aH {t:UA}(ha:PU X e ta)(hr:PUA X es t)(hs:starEach (e::es) X.env=(false,eval e X.env)::starEach es X.env:=by rfl):PUA X (e::es) (a9 ta t):=
 dD0 (bG9 ha hr hs) λσ H Q ⟨C,ρ,Q0,I,h,k⟩=>⟨C,ρ,_,I,h,λx ρ1 v H1 q1 f1 s1 r1=>by
  have I1:=(I.frz f1).same s1;refine⟨C,ρ1,_,I1,q1,λxs ρ2 vs H2 q2 f2 s2 r2=> ?_⟩
  exact k _ ρ2 _ H2 q2 (f1.trans f2) (s1.trans s2) (.cons ((r1.rep λa z=>I.avF f1 z).mono<|.sub s2 λa=>f2.av) r2)⟩
def k8 (t:UA):UE:=λρ Q=>t ρ λl ρ1=>l.length<=sizeLine/\Q (.pu<|.tup l) ρ1
def jD (t:UA):UE:=λρ Q=>t ρ λl ρ1=>l.length<=sizeLine/\Q (.ow l) ρ1
theorem fB {H:Hp}{p:Addr}(h:H p=none)(o:HO):iB H (upd H p o):=λb u q=>by rw[cE<|d8 q h];exact q
theorem iU {K:Frag}{A:AS}{H:Hp}{p:Addr}{l:List D}{vs:List V}(hA: ∀a,A a->H a≠none)(n:H p=none)(r:bS K A H l vs):Rep K A (upd H p<|.tup vs) (.tup l) (.ref p):=by
 simp only[Rep];exact⟨p,vs,rfl,.inl ⟨λz=>hA p z n,.inl iT⟩,r.mono<|.same<|fB n _⟩
theorem i6 {K:Frag}{A:AS}{H H0:Hp}{p:Addr}{l:List D}{vs:List V}(s:iB H0 H)(n:H p=none)(r:bS K A H l vs):uZ K A H0 (upd H p<|.lst vs) (.ow l) (.ref p):=
 ⟨p,vs,rfl,s.free n,iT,r.mono<|.fresh (fB n _) n⟩
theorem fY {t:UA}{x1}(h:PUA X es t):PU X (.Tuple es x1 pos) (k8 t):=
 kC (pe_tup h) λσ H Q ⟨C,ρ,Q0,I,h,k⟩=>⟨C,ρ,_,I,h,λl ρ1 vs H1 q f s r=>by
  obtain⟨hz,q⟩:=q;refine⟨by rw[<-r.length];exact hz,λp n=> ?_⟩
  have I1:=(I.frz f).same s;exact k _ ρ1 _ _ q f (s.trans<|fB n _) (iU (λa z=>I1.avSome z) n r)⟩
theorem dP {t:UA}(h:PUA X es t):PU X (.List es pos) (jD t):=
 kC (pe_lst h) λσ H Q ⟨C,ρ,Q0,I,h,k⟩=>⟨C,ρ,_,I,h,λl ρ1 vs H1 q f s r=>by
  obtain⟨hz,q⟩:=q;refine⟨by rw[<-r.length];exact hz,λp n=> ?_⟩
  exact k _ ρ1 _ _ q f (s.trans<|fB n _) (i6 s n r)⟩
abbrev Φ:=List D->(B->Prop)->Prop
def spP (K:Frag)(φ:Φ):Sp:=λvs H Q _=> ∃A ds Q0,(∀a,A a->H a≠none)/\bS K A H ds vs/\φ ds Q0/\ ∀b v H',Q0 b->iB H H'->uZ K A H H' b v->Q v H'
def aW (φ:Φ)(t:UA):UE:=λρ Q=>t ρ λds ρ1=>φ ds λb=>Q b ρ1
theorem lCall {φ:Φ}{t:UA}{E:XK}(σ:L2.St)(H:Hp)(Q:VK)(h:lE X.K (aW φ t) σ H Q):cM0 (spP X.K φ) [] E (lA X.K t) σ H Q:=by
 obtain⟨C,ρ,Q0,I,h,k⟩:=h;refine⟨C,ρ,_,I,h,λds ρ1 vs H1 q f s r=> ?_⟩
 have I1:=(I.frz f).same s;show spP X.K φ (vs++[]) H1 Q E;rw[iE];exact⟨Av C ρ1 σ,ds,_,λa z=>I1.avSome z,r,q,λb v H' q' s' r'=>k b ρ1 v H' q' f (s.trans s') (r'.from s)⟩
theorem d29 {CX:CXT}{k:Nat}{f:Addr}{fd:FuncData}{ps:List Str}{φ:Φ}{E:XK}{x:Str}{p:Pos}{t:UA}(F:sL X.prog X.w X.K X.mg X.base CX k f fd ps (spP X.K φ))(hr:hZ k X.A)(hg:Gl X x)(hm:X.mg x=some (.ref f))
  (hk:keepIn X.K (.ref f)=true) (hb:Binds X.K fd ps []) (hx:vS CX X E) (ha:PUA X (e::es) t) (hdb:(x==("__debug__":Str))=false:=by decide) (he:starEach (e::es) X.env=(false,eval e X.env)::starEach es X.env:=by rfl)
  (hpl:(backTo pos<|starEach es X.env).any (·.1)=false:=by rfl):PU X (.Call (.Name x p) (e::es) [] pos) (aW φ t):=
 kC (c85 F hr hg hm hk hb .nil hx ha hdb he hpl) lCall
theorem cN5 {CX:CXT}{k:Nat}{f:Addr}{fd:FuncData}{ps:List Str}{φ:Φ}{E:XK}{x:Str}{p:Pos}(F:sL X.prog X.w X.K X.mg X.base CX k f fd ps (spP X.K φ))(hr:hZ k X.A)(hg:Gl X x)(hm:X.mg x=some (.ref f))
  (hk:keepIn X.K (.ref f)=true) (hb:Binds X.K fd ps []) (hx:vS CX X E) (hdb:(x==("__debug__":Str))=false:=by decide):PU X (.Call (.Name x p) [] [] pos) (aW φ aM):=
 kC (cM2 F hr hg hm hk hb .nil hx hdb) λσ H Q ⟨C,ρ,Q0,I,h,k⟩=>⟨Av C ρ σ,[],_,λa z=>I.avSome z,.nil,h,λb v H' q' s' r'=>k b ρ v H' q' (.refl _) s' r'⟩
def a07 (X:Cx)(f:Value)(g:List D->(B->Prop)->Prop):Prop:=
 ∀(A:AS) (H:Hp) (ds:List D) (vs:List V) (Q0:B->Prop) (Q:VK),(∀a,A a->H a≠none)->bS X.K A H ds vs->g ds Q0->
  (∀b v' H',Q0 b->iB H H'->uZ X.K A H H' b v'->Q v' H')-> ∃r,sD X f r/\r vs H Q
theorem callAny {f:Value}:sD X f (λxs H Q=> ∃r,sD X f r/\r xs H Q):=λpins s σ H xs us Q I rx ⟨r,hr,q⟩=>hr pins s σ H xs us Q I rx q
theorem lCB {f:Value}{g:List D->(B->Prop)->Prop}{t:UA}(hc:a07 X f g)(σ:L2.St)(H:Hp)(Q:VK)(h:lE X.K (aW g t) σ H Q):tCB (λxs H Q=> ∃r,sD X f r/\r xs H Q) (lA X.K t) σ H Q:=by
 obtain⟨C,ρ,Q0,I,h,k⟩:=h;refine⟨C,ρ,_,I,h,λds ρ1 vs H1 q f s r=> ?_⟩
 have I1:=(I.frz f).same s;exact hc (Av C ρ1 σ) H1 ds vs _ Q (λa z=>I1.avSome z) r q λb v H' q' s' r'=>k b ρ1 v H' q' f (s.trans s') (r'.from s)
theorem kW {id:String}{g:List D->(B->Prop)->Prop}{x:Str}{p:Pos}{t:UA}(hc:a07 X (.builtin id) g)(hg:Gl X x)(hm:X.mg x=none)(hv:bootBuiltins x=some (.builtin id))(ha:PUA X (e::es) t)(hn:x≠"__name__":=by decide)(hdb:(x==("__debug__":Str))=false:=by decide)
  (he:starEach (e::es) X.env=(false,eval e X.env)::starEach es X.env:=by rfl) (hpl:(backTo pos<|starEach es X.env).any (·.1)=false:=by rfl):PU X (.Call (.Name x p) (e::es) [] pos) (aW g t):=
 kC (bQ0 callAny hg hm hv ha hn hdb he hpl) (lCB hc)
theorem fK {T:String}{g:List D->(B->Prop)->Prop}{x:Str}{p:Pos}{t:UA}(hc:a07 X (.type T) g)(hg:Gl X x)(hm:X.mg x=none)(hv:bootBuiltins x=some (.type T))(ha:PUA X (e::es) t)(hn:x≠"__name__":=by decide)(hdb:(x==("__debug__":Str))=false:=by decide)
  (he:starEach (e::es) X.env=(false,eval e X.env)::starEach es X.env:=by rfl) (hpl:(backTo pos<|starEach es X.env).any (·.1)=false:=by rfl):PU X (.Call (.Name x p) (e::es) [] pos) (aW g t):=
 kC (cE9 callAny hg hm hv ha hn hdb he hpl) (lCB hc)
end
structure UD where
 nx:Ev->Prop
 rt:B->Prop
 bk:Ev->Prop:=λ_=>False
 ct:Ev->Prop:=λ_=>False
abbrev US:=UD->Ev->Prop
structure DOk (K:Frag)(C:C0)(D0:UD)(D:b90):Prop where
 nx: ∀ρ σ H,D0.nx ρ->EOk K C ρ σ H->D.nx σ H
 rt: ∀b v H,D0.rt b->iB C.H0 H->uZ K C.A0 C.H0 H b v->D.rt v H
 bk: ∀ρ σ H,D0.bk ρ->EOk K C ρ σ H->D.bk σ H
 ct: ∀ρ σ H,D0.ct ρ->EOk K C ρ σ H->D.ct σ H
def lS (K:Frag)(t:US):TS:=λD σ H=> ∃C ρ D0,EOk K C ρ σ H/\t D0 ρ/\DOk K C D0 D
def PUS (X:Cx)(st:Stmt)(t:US):Prop:=PS X st (lS X.K t)
def rN (X:Cx)(sts:List Stmt)(t:US):Prop:=PSs X sts (lS X.K t)
theorem sE {X:Cx}{st:Stmt}{t t':TS}(h:PS X st t)(i: ∀D σ H,t' D σ H->t D σ H):PS X st t':=λpins s σ H D I q=>h pins s σ H D I (i D σ H q)
theorem b00 {X:Cx}{st:List Stmt}{t t':TS}(h:PSs X st t)(i: ∀D σ H,t' D σ H->t D σ H):PSs X st t':=λpins s σ H D I q=>h pins s σ H D I (i D σ H q)
section
variable {X:Cx}{st:Stmt}{sts:List Stmt}{e:Expr}{pos:Pos}{t u:US}{te:UE}{tc:UT}{K:Frag}
def fQ:US:=λD ρ=>D.nx ρ
def aS (t u:US):US:=λD ρ=>t {D with nx:=u D} ρ
theorem bH7:rN X [] fQ:=b00 d07 λD σ H ⟨C,ρ,D0,I,h,k⟩=>k.nx ρ σ H h I
theorem bP (h1:PUS X st t)(h2:rN X sts u):rN X (st::sts) (aS t u):=
 b00 (wX h1 h2) λD σ H ⟨C,ρ,D0,I,h,k⟩=>⟨C,ρ,{D0 with nx:=u D0},I,h,⟨λρ' σ' H' q I'=>⟨C,ρ',D0,I',q,k⟩,k.rt,k.bk,k.ct⟩⟩
theorem bH (h1:PUS X st t):rN X [st] t:=bG6 h1
def fP (t:UE):US:=λD ρ=>t ρ λb _=>D.rt b
theorem uZ.back {A A':AS}{H0 H H':Hp}(s:iB H0 H)(h: ∀a,A' a->A a): ∀{b:B} {v:V},uZ K A H H' b v->uZ K A' H0 H' b v
 | .pu _,_,r=>Rep.mono (.sub (.refl _) h) r
 | .ow _,_,⟨a,vs,e,n,h1,r⟩=>⟨a,vs,e,s.free n,h1,r.mono λb o nb q=>⟨λz=>nb (z.imp (h b) id),q⟩⟩
 | .bo _,_,r=>r.elim
theorem c17 (he:PU X e te):PUS X (.Return (some e) pos) (fP te):=
 sE (cK9 he) λD σ H ⟨C,ρ,D0,I,h,k⟩=>⟨C,ρ,_,I,h,λb ρ' v H' q f s r=>k.rt b v H' q (I.ext.trans s) (r.back I.ext λa z=> .inl z)⟩
def qY (i:Nat):US:=λD ρ=>match ρ[i]? with
 | some (some<|.pu d)=>D.rt (.pu d)
 | some (some<|.ow l)=>D.rt (.ow l)
 | _=>False
theorem lF (i:Nat){x:Str}{p:Pos}(h:PE X (.Name x p) (aG9 i)):PUS X (.Return (some<|.Name x p) pos) (qY i):=
 sE (cK9 h) λD σ H ⟨C,ρ,D0,I,h,k⟩=>by
  unfold qY at h;split at h
  ·rename_i d e
   obtain⟨v,h1,h2⟩:=I.pu i d e;exact⟨v,h1,k.rt _ v H h I.ext<|Rep.mono (.sub (.refl _) λa z=> .inl z) h2⟩
  ·rename_i l e
   obtain⟨a,vs,h1,h2,h3,h4⟩:=I.ow i l e;refine⟨_,h1,k.rt _ _ H h I.ext ⟨a,vs,rfl,h3,h2,h4.mono λb o nb q=>⟨λz=>nb (z.elim .inl λz=> .inr ?_),q⟩⟩⟩
   subst z;exact⟨i,l,e,h1⟩
  ·exact h.elim
def iO (c:UT)(t u:US):US:=λD ρ=>c ρ λb ρ1=>if b=true then t D ρ1 else u D ρ1
theorem c90 {c:Expr}{a b:List Stmt}(hc:PUT X c tc)(ha:rN X a t)(hb:rN X b u):PUS X (.If c a b pos) (iO tc t u):=
 sE (dC9 hc ha hb) λD σ H ⟨C,ρ,D0,I,h,k⟩=>⟨C,ρ,_,I,h,λc ρ1 H1 q f s=>by
  have I1:=(I.frz f).same s;cases c with
  | true=>
   dsimp only at q⊢;rw[a7 rfl]at q⊢;exact⟨C,ρ1,D0,I1,q,k⟩
  | false=>
   dsimp only at q⊢;rw[a6 bI]at q⊢;exact⟨C,ρ1,D0,I1,q,k⟩⟩
theorem bQ8:PUS X st (λ_ _=>False):=sE cL0 λD σ H ⟨C,ρ,D0,I,h,k⟩=>h
abbrev UG:=B->Ev->(Ev->Prop)->Prop
def lG (K:Frag)(T:List Nat)(g:UG):TG:=λv σ H Q=> ∃C ρ b H00 Q0,EOk K C ρ σ H00/\iB H00 H/\uZ K (Av C ρ σ) H00 H b v/\g b ρ Q0/\ ∀ρ' σ' H',Q0 ρ'->EOk K C ρ' σ' H'->(∀j:Nat,j ∉ T->σ'[j]? =σ[j]?)->Q σ' H'
def PUG (X:Cx)(e:Expr)(T:List Nat)(g:UG):Prop:=PG X e (lG X.K T g)
theorem dD2 {t t':TG}(h:PG X e t)(i: ∀v σ H Q,t' v σ H Q->t v σ H Q):PG X e t':=λpins s σ H v u Q I r q=>h pins s σ H v u Q I r (i v σ H Q q)
def cM (i:Nat):UG:=λb ρ Q=>i<ρ.length/\Q (ρ.set i<|some b)
theorem yV (i:Nat)(h:PG X e (aK6 i)):PUG X e [i] (cM i):=dD2 h λv σ H Q z=>by
 obtain⟨C,ρ,b,H00,Q0,I,s,r,⟨hi,q⟩,k⟩:=z;exact k _ _ _ q (I.store s r (by rw[<-I.len];exact hi)) λj hj=>get_set_ne λz=>hj (by simp[z])
abbrev UGs:=List D->Ev->(Ev->Prop)->Prop
def lGs (K:Frag)(T:List Nat)(g:UGs):TGs:=λvs σ H Q=> ∃C ρ ds Q0,EOk K C ρ σ H/\bS K (Av C ρ σ) H ds vs/\g ds ρ Q0/\ ∀ρ' σ' H',Q0 ρ'->EOk K C ρ' σ' H'->(∀j:Nat,j ∉ T->σ'[j]? =σ[j]?)->Q σ' H'
def d30 (X:Cx)(es:List Expr)(T:List Nat)(g:UGs):Prop:=PGs X es (lGs X.K T g)
def v9:UGs:=λds ρ Q=>ds=[]/\Q ρ
theorem Av.store_pu {C:C0}{ρ:Ev}{σ:L2.St}{i:Nat}{d:D}{v:V}{a:Addr}(h:Av C (ρ.set i<|some<|.pu d) (σ.set i<|some v) a):Av C ρ σ a:=by
 rcases h with z| ⟨j,l,h1,h2⟩
 ·exact .inl z
 ·rcases b7 h1 with⟨rfl,h3,_⟩| ⟨ne,h3⟩
  ·cases h3
  ·rw[get_set_ne ne]at h2;exact .inr ⟨j,l,h3,h2⟩
theorem cN6 {es:List Expr}{t t':TGs}(h:PGs X es t)(i: ∀v σ H Q,t' v σ H Q->t v σ H Q):PGs X es t':=λpins s σ H v u Q I r q=>h pins s σ H v u Q I r (i v σ H Q q)
theorem vA:d30 X [] [] v9:=cN6 d08 λvs σ H Q z=>by
 obtain⟨C,ρ,ds,Q0,I,r,⟨e,q⟩,k⟩:=z;subst e;exact⟨r.unnil,k ρ σ H q I λ_ _=>rfl⟩
def gQ (i:Nat)(u:UGs):UGs:=λds ρ Q=>match ds with
 | d::r=>i<ρ.length/\u r (ρ.set i<|some<|.pu d) Q
 | []=>False
theorem gR {es:List Expr}{u:UGs}{T:List Nat}(i:Nat)(h1:PG X e (aK6 i))(h2:d30 X es T u)
  (hs:(assignEach (e::es) X.env).map (·.2)=assign e X.env::(assignEach es X.env).map (·.2):=by rfl):d30 X (e::es) (i::T) (gQ i u):=
 cN6 (cL2 h1 h2 hs) λvs σ H Q z=>by
  obtain⟨C,ρ,ds,Q0,I,r,g,k⟩:=z;cases ds with
  | nil=>exact(show False from g).elim
  | cons d dr=>
   obtain⟨hi,g⟩:i<ρ.length/\u dr (ρ.set i<|some<|.pu d) Q0:=g;obtain⟨v,vr,rfl,rv,rr⟩:=r.uncons;have I1:EOk X.K C (ρ.set i<|some<|.pu d) (σ.set i<|some v) H:=I.store (b:= .pu d) (.refl _) rv (by rw[<-I.len];exact hi)
   exact⟨v,vr,rfl,C,_,dr,Q0,I1,rr.mono<|.sub (.refl _) λa z=>Av.store_pu z,g,λρ' σ' H' q I' hT=>k ρ' σ' H' q I' λj hj=>(hT j λz=>hj (bF _ z)).trans (get_set_ne λz=>hj (by simp[z]))⟩
def vB (u:UGs):UG:=λb ρ Q=>match b.d with
 | .tup ds=>u ds ρ Q
 | _=>False
theorem a26 {es:List Expr}{u:UGs}{T:List Nat}{n k:Nat}(hc:X.calm=true)(h:d30 X es T u)(hu: ∀ds ρ Q,u ds ρ Q->ds.length=n)
  (hn:(assignEach es X.env).length=n:=by rfl) (hst:(assignEach es X.env).findIdx? (·.1)=none:=by rfl):PUG X (.Tuple es k pos) T (vB u):=
 dD2 (pg_tup hc h hn hst) λv σ H Q z=>by
  obtain⟨C,ρ,b,H00,Q0,I,s,r,g,k⟩:=z;have R:=r.rep λa z=>I.avSome z
  unfold vB at g;split at g
  ·rename_i ds e
   rw[e]at R;simp only[Rep]at R;obtain⟨a,vs,rfl,c,rs⟩:=R;exact⟨a,vs,rfl,c.imp cU id,by rw[<-rs.length];exact hu _ _ _ g,C,ρ,ds,Q0,I.same s,rs,g,k⟩
  ·exact g.elim
def cN7 (t:UE)(g:UG):US:=λD ρ=>t ρ λb ρ1=>g b ρ1 D.nx
theorem c18 {tg:Expr}{g:UG}{T:List Nat}(he:PU X e te)(hg:PUG X tg T g)(hs:swapsWithSole [tg] e pos.line X.env=pure false:=by rfl)(hw:swappedStores [tg] e X.env=pure none:=by rfl)
  (h1:(assignEach [tg] X.env).map (·.2)=[assign tg X.env]:=by rfl):PUS X (.Assign [tg] e pos) (cN7 te g):=
 sE (cL3 he hg hs hw h1) λD σ H ⟨C,ρ,D0,I,h,k⟩=>⟨C,ρ,_,I,h,λb ρ1 v H1 q f s r=>⟨C,ρ1,b,H,D0.nx,I.frz f,s,r,q,λρ' σ' H' q I' _=>k.nx ρ' σ' H' q I'⟩⟩
def bX (i:Nat)(t:UE):US:=λD ρ=>t ρ λb ρ1=>D.nx (ρ1.set i<|some b)
theorem vU {x:Str}{pos':Pos}(i:Nat)(hN:X.N.Nodup)(hi:X.N[i]? =some x)(hx:Loc X.env.scope x)(he:PU X e te)(hs:swapsWith e (some<|.Name x pos') pos.line X.env=pure false:=by rfl)(hf:X.fn x=true\/X.env.scope.names.lookup x=some .local:=by walk_at "z")
  (hl: ∀pins σ H s,Inv X pins σ H s->i<σ.length:=by intro pins σ H s I;rw[I.len];decide):PUS X (.Assign [.Name x pos'] e pos) (bX i te):=by
 intro pins s σ H D I q;refine ps_set hN hi hx he hs hf pins s σ H D I ?_;obtain⟨C,ρ,D0,J,h,k⟩:=q;exact⟨C,ρ,_,J,h,λb ρ1 v H1 q f s1 r=>k.nx _ _ _ q ((J.frz f).store s1 r<|hl pins σ H s I)⟩
def IpU (X:Cx)(op:Operator)(g:D->D->(B->Prop)->Prop):Prop:=
 ∀(A:AS) (H:Hp) (d e:D) (v w:V) (Q0:B->Prop) (Q:VK),(∀a,A a->H a≠none)->Rep X.K A H d v->Rep X.K A H e w->g d e Q0->
  (∀b v' H',Q0 b->iB H H'->uZ X.K A H H' b v'->Q v' H')-> ∃r,PIp X op r/\r v w H Q
theorem ipAny {op:Operator}:PIp X op (λx y H Q=> ∃r,PIp X op r/\r x y H Q):=λpins s σ H x y v u Q I rx ry ⟨r,hr,q⟩=>hr pins s σ H x y v u Q I rx ry q
def bQ9 (i:Nat)(g:D->D->(B->Prop)->Prop)(te:UE):US:=λD ρ=>aA5 ρ i λx ρ0=>te ρ0 λy ρ1=>g x.d y.d λb=>D.nx (ρ1.set i<|some b)
theorem cN8 {x:Str}{pos':Pos}{op:Operator}{g:D->D->(B->Prop)->Prop}(i:Nat)(hN:X.N.Nodup)(hi:X.N[i]? =some x)(hx:Loc X.env.scope x)(he:PU X e te)(ho:IpU X op g)(hf:X.fn x=true\/X.env.scope.names.lookup x=some .local:=by walk_at "z")
  (hl: ∀pins σ H s,Inv X pins σ H s->i<σ.length:=by intro pins σ H s I;rw[I.len];decide):PUS X (.AugAssign (.Name x pos') op e pos) (bQ9 i g te):=by
 intro pins s σ H D I q;refine ps_aug hN hi hx he ipAny hf pins s σ H D I ?_;obtain⟨C,ρ,D0,J,h,k⟩:=q;have go: ∀(d:M.D) (ρ0:Ev) (v:V),Frz ρ ρ0->σ[i]? =some (some v)->Rep X.K (Av C ρ0 σ) H d v->(te ρ0 λy ρ1=>g d y.d λb=>D0.nx (ρ1.set i<|some b))->
   tAug i (lE X.K te) (λx y H Q=> ∃r,PIp X op r/\r x y H Q) D σ H:=λd ρ0 v f0 h1 r0 h=>by
  have J0:=J.frz f0;refine⟨v,h1,C,ρ0,_,J0,h,λy ρ1 w H1 q1 f1 s1 r1=> ?_⟩
  have J1:=(J0.frz f1).same s1;refine ho (Av C ρ1 σ) H1 d y.d v w _ _ (λa z=>J1.avSome z) (r0.mono<|.sub s1 λa=>f1.av) (r1.rep λa z=>J0.avF f1 z) q1 λb v' H' q s r=> ?_
  exact k.nx _ _ _ q (J1.store s r<|hl pins σ _ _ I)
 unfold bQ9 aA5 at h;split at h
 ·rename_i d e
  obtain⟨v,h1,h2⟩:=J.pu i d e;exact go d ρ v (.refl _) h1 h2 h
 ·rename_i l e
  obtain⟨_,_,v,h1,h2⟩:=J.freeze e;exact go (.lst l) _ v (.set e) h1 h2 h
 ·exact h.elim
def bH8 (c:UT)(tb:US):US:=λD ρ=> ∃W:Nat->Ev->Prop,(∃m,W m ρ)/\ ∀m ρ,W m ρ->
 c ρ λb ρ1=>if b=true then tb {D with nx:=λρ'=> ∃m',m'<m/\W m' ρ',ct:=λρ'=> ∃m',m'<m/\W m' ρ',bk:=D.nx} ρ1 else D.nx ρ1
theorem b01 {c:Expr}{body:List Stmt}{tb:US}(hp:PassesOwn (model X.prog X.w) X.A X.env X.xe)(hc:PUT X c tc)(hb:rN X body tb):PUS X (.While c body [] pos) (bH8 tc tb):=
 sE (cL5 hp hc hb) λD σ H ⟨C,ρ,D0,I,⟨W,⟨m0,w0⟩,turn⟩,k⟩=>by
  refine⟨λm σ H=> ∃ρ,EOk X.K C ρ σ H/\W m ρ,⟨m0,ρ,I,w0⟩,?_⟩
  rintro m σ H ⟨ρ,I,w⟩;refine⟨C,ρ,_,I,turn m ρ w,λb ρ1 H1 q f s=> ?_⟩
  have I1:=(I.frz f).same s;cases b with
  | true=>
   dsimp only at q⊢;rw[a7 rfl]at q⊢;refine⟨λσ' H'=> ∃m',m'<m/\ ∃ρ',EOk X.K C ρ' σ' H'/\W m' ρ',λσ' H' z=>z,C,ρ1,_,I1,q,⟨?_,k.rt,k.nx,?_⟩⟩
   ·rintro ρ' σ' H' ⟨m',hm,w'⟩ I';exact⟨m',hm,ρ',I',w'⟩
   ·rintro ρ' σ' H' ⟨m',hm,w'⟩ I';exact⟨m',hm,ρ',I',w'⟩
  | false=>
   dsimp only at q⊢;rw[a6 bI]at q⊢;exact k.nx _ _ _ q I1
end
abbrev UI:=Ev->(Nat->(Nat->D)->Ev->Prop)->Prop
structure bR0 (K:Frag)(A:AS)(H:Hp)(J:It)(n:Nat)(it:Nat->D):Prop where
 go: ∀A' H' i,mJ A H A' H'->i<n->J.go i H'
 yld: ∀A' H' i x H'',mJ A H A' H'->(∀a,A' a->H' a≠none)->i<n->J.yld i H' x H''->iB H' H''/\Rep K A' H'' (it i) x
 stop: ∀A' H',mJ A H A' H'->J.stop n H'
def lI (K:Frag)(t:UI):TI:=λσ H R=> ∃C ρ Q0,EOk K C ρ σ H/\t ρ Q0/\
 ∀n it ρ' J H',Q0 n it ρ'->Frz ρ ρ'->iB H H'->bR0 K (Av C ρ' σ) H' J n it->R J H'
def PUI (X:Cx)(tg iter:Expr)(t:UI):Prop:=PI X tg iter (lI X.K t)
def jL (ui:UI)(g:UG)(tb:US):US:=λD ρ=>ui ρ λn it ρ1=> ∃Pv:Nat->Ev->Prop,Pv 0 ρ1/\
 (∀i ρ,i<n->Pv i ρ->g (.pu<|it i) ρ λρ2=>tb {D with nx:=Pv (i+1),ct:=Pv (i+1),bk:=D.nx} ρ2)/\ ∀ρ,Pv n ρ->D.nx ρ
noncomputable def C0.rz (C:C0) (ρ:Ev) (σ:L2.St) (H:Hp):C0:=C.raise ρ σ H λ_=>Classical.propDecidable _
section
variable {X:Cx}{e:Expr}{pos:Pos}{te:UE}{K:Frag}{C:C0}{ρ ρ':Ev}{σ σ':L2.St}{H H':Hp}
theorem EOk.rz (I:EOk K C ρ σ H):EOk K (C.rz ρ σ H) ρ σ H/\iB C.H0 (C.rz ρ σ H).H0:=I.raise
theorem d31 (I':EOk K (C.rz ρ σ H) ρ' σ' H'):mJ (Av C ρ σ) H (Av (C.rz ρ σ H) ρ' σ') H':=λb o nb e=>by
 have e0:(C.rz ρ σ H).H0 b=some o:=by
  show @ite _ (Own ρ σ b) (Classical.propDecidable _) none (H b)=some o
  rw[a6 λz=>nb (.inr z)]
  exact e
 refine⟨?_,I'.ext b o e0⟩
 rintro(z| ⟨i,l,h1,h2⟩)
 ·exact nb (.inl z)
 ·obtain⟨a,vs,h3,h4,h5,_⟩:=I'.ow i l h1;rw[h2]at h3;cases h3;rw[e0]at h5;cases h5
theorem aQ1 {tg iter:Expr}{body:List Stmt}{ui:UI}{g:UG}{T:List Nat}{tb:US}(hp:PassesOwn (model X.prog X.w) X.A X.env X.xe)(hc:X.calm=true)(hi:PUI X tg iter ui)(hg:PUG X tg T g)(hb:rN X body tb)
  (hs: ∀x,foldedSetIterable iter X.env x=pure x:=by intro _;rfl):PUS X (.For tg iter body [] pos) (jL ui g tb):=
 sE (ps_for hp hc hi hg hb hs) λD σ H ⟨C,ρ,D0,I,h,k⟩=>⟨C,ρ,_,I,h,λn it ρ1 J H1 q f s ok=>by
  obtain⟨Pv,p0,turn,fin⟩:=q;have I1:=(I.frz f).same s;obtain⟨Ir,sub⟩:=I1.rz;refine⟨λi m σ' H'=>m=n-i/\i<=n/\ ∃ρ',EOk X.K (C.rz ρ1 σ H1) ρ' σ' H'/\Pv i ρ',⟨n,rfl,eO _,ρ1,Ir,p0⟩,?_⟩
  rintro i m σ' H' ⟨rfl,hi,ρ',I',p'⟩;have P:=d31 I';have lo: ∀ρ2 σ2 H2,EOk X.K (C.rz ρ1 σ H1) ρ2 σ2 H2->EOk X.K C ρ2 σ2 H2:=λρ2 σ2 H2 J2=>J2.lower sub rfl I.a0
  by_cases hlt:i<n
  ·refine .inr ⟨ok.go _ _ i P hlt,λσ2 H2=> ∃ρ2,EOk X.K (C.rz ρ1 σ H1) ρ2 σ2 H2/\Pv (i+1) ρ2,λσ2 H2 z=>⟨n-(i+1),aa,rfl,hlt,z⟩,λx H2 y=> ?_⟩
   obtain⟨s2,r2⟩:=ok.yld _ _ i x H2 P (λa z=>I'.avSome z) hlt y
   refine⟨C.rz ρ1 σ H1,ρ',.pu<|it i,H',_,I',s2,r2,turn i ρ' hlt p',λρ2 σ2 H3 q I3 _=>⟨C.rz ρ1 σ H1,ρ2,_,I3,q,⟨?_,?_,?_,?_⟩⟩⟩
   ·exact λρ3 σ3 H4 q I4=>⟨ρ3,I4,q⟩
   ·exact λb v H4 q s4 r4=>k.rt b v H4 q (sub.trans s4) (r4.from sub)
   ·exact λρ3 σ3 H4 q I4=>k.nx ρ3 σ3 H4 q (lo _ _ _ I4)
   ·exact λρ3 σ3 H4 q I4=>⟨ρ3,I4,q⟩
  ·have e:i=n:=aa
   subst e;exact .inl ⟨ok.stop _ _ P,k.nx _ _ _ (fin ρ' p')<|lo _ _ _ I'⟩⟩
noncomputable def oS:D->Option (List D)
 | .tup l=>some l
 | .lst l=>some l
 | .rol l=>some l
 | _=>none
def iJ (t:UE):UI:=λρ Q=>t ρ λb ρ1=>match oS b.d with
 | some l=>Q l.length (λi=>l.getD i .non) ρ1
 | none=>False
theorem pi_any {l:Expr}{tl:TE}{tg:Expr}(hl:PE X l tl):PI X tg l (λσ H R=>tl σ H λx H1=> ∃a,x= .ref a/\((∃xs,SqL X.K H1 a xs/\R (Itl X.K a) H1)\/ ∃xs,SqT X.K H1 a xs/\R (Itt X.K a) H1)):=by
 intro pins s σ H R I h;refine thn (hl pins s σ H _ I h) λv s1 ⟨x,H1,I1,r1,q1⟩=> ?_
 obtain⟨a,e,q⟩:=q1;subst e;cases r1;rcases q with⟨xs,hq,q⟩| ⟨xs,hq,q⟩
 ·obtain⟨its,rv,p,hz⟩:=I1.list hq;refine aG0 p.isList ?_;refine⟨s1.heap.objs.size,[s1.heap.objs.size],_,_,H1,rfl,I1.kept (t':=s1.toks) λb o e=>aO _ e,cE0 a _,⟨_,bY _ rfl,rfl,rfl⟩,λb hb=> ?_,q⟩
  have e:b=s1.heap.objs.size:=by simpa using hb
  subst e;exact I1.fpOk (aB _) (I1.hok.fresh<|aB _)
 ·obtain⟨its,rv,p,hz⟩:=I1.tuple hq;refine wpAny_pyIter_tuple (show s1.heap.IsTuple a its.toArray from p) ?_
  refine⟨s1.heap.objs.size,[s1.heap.objs.size],_,_,H1,rfl,I1.kept (t':=s1.toks) λb o e=>aO _ e,c01 a _,⟨_,bY _ rfl,rfl,rfl⟩,λb hb=> ?_,q⟩
  have e:b=s1.heap.objs.size:=by simpa using hb
  subst e;exact I1.fpOk (aB _) (I1.hok.fresh<|aB _)
theorem aU1 {tg iter:Expr}{t t':TI}(h:PI X tg iter t)(i: ∀σ H R,t' σ H R->t σ H R):PI X tg iter t':=λpins s σ H R I q=>h pins s σ H R I (i σ H R q)
theorem bD0 {A:AS}{a:Addr}{vs:List V}{l:List D}(c:(¬A a/\Rd H a (.lst vs))\/KL K a vs)(r:bS K A H l vs):bR0 K A H (Itl K a) l.length (λi=>l.getD i .non):=by
 have sq: ∀A' H',mJ A H A' H'->SqL K H' a vs:=λA' H' P=>by
  rcases c with⟨n,c⟩|c
  ·exact .inl (Rd.pres P n c).2
  ·exact .inr c
 have get: ∀i,i<l.length-> ∃x,vs[i]? =some x/\Rep K A H (l.getD i .non) x:=λi hi=>r.get (by rw[aG,aJ hi];rfl)
 refine⟨λA' H' i P hi=> ?_,λA' H' i x H'' P hA hi y=> ?_,λA' H' P=>⟨vs,sq _ _ P,by rw[r.length];exact aB _⟩⟩
 ·obtain⟨x,e,_⟩:=get i hi;exact⟨vs,x,sq _ _ P,e⟩
 ·obtain⟨x',e,r'⟩:=get i hi;obtain⟨rfl,y⟩:=y;have:=y vs (sq _ _ P);rw[e]at this;cases this;exact⟨.refl _,r'.mono P⟩
theorem cN9 {A:AS}{a:Addr}{vs:List V}{l:List D}(c:(¬A a/\Rd H a (.tup vs))\/KT K a vs)(r:bS K A H l vs):bR0 K A H (Itt K a) l.length (λi=>l.getD i .non):=by
 have sq: ∀A' H',mJ A H A' H'->SqT K H' a vs:=λA' H' P=>by
  rcases c with⟨n,c⟩|c
  ·exact .inl (Rd.pres P n c).2
  ·exact .inr c
 have get: ∀i,i<l.length-> ∃x,vs[i]? =some x/\Rep K A H (l.getD i .non) x:=λi hi=>r.get (by rw[aG,aJ hi];rfl)
 refine⟨λA' H' i P hi=> ?_,λA' H' i x H'' P hA hi y=> ?_,λA' H' P=>⟨vs,sq _ _ P,by rw[r.length];exact aB _⟩⟩
 ·obtain⟨x,e,_⟩:=get i hi;exact⟨vs,x,sq _ _ P,e⟩
 ·obtain⟨x',e,r'⟩:=get i hi;obtain⟨rfl,y⟩:=y;have:=y vs (sq _ _ P);rw[e]at this;cases this;exact⟨.refl _,r'.mono P⟩
theorem iQ {tg:Expr}(h:PU X e te):PUI X tg e (iJ te):=aU1 (pi_any h) λσ H R ⟨C,ρ,Q0,I,h,k⟩=>⟨C,ρ,_,I,h,λb ρ1 v H1 q f s r=>by
 have rr:=r.rep λa z=>I.avF f z
 generalize b.d=d at q rr;cases d with
 | tup l=>
  simp only[Rep]at rr;obtain⟨a,vs,rfl,c,rs⟩:=rr;exact⟨a,rfl,.inr ⟨vs,c.imp cU id,k _ _ ρ1 _ H1 q f s<|cN9 c rs⟩⟩
 | lst l=>
  simp only[Rep]at rr;obtain⟨a,vs,rfl,n,c,rs⟩:=rr;exact⟨a,rfl,.inl ⟨vs,.inl<|.inl c,k _ _ ρ1 _ H1 q f s<|bD0 (.inl ⟨n,.inl c⟩) rs⟩⟩
 | rol l=>
  simp only[Rep]at rr;obtain⟨a,vs,rfl,c,rs⟩:=rr;exact⟨a,rfl,.inl ⟨vs,c.imp cU id,k _ _ ρ1 _ H1 q f s<|bD0 c rs⟩⟩
 | _=>exact(show False from q).elim⟩
theorem b02 {A:AS}{lo:Int}{n:Nat}:bR0 K A H (Itr lo n) n (λi=> .int (lo+i)):=
 ⟨λ_ _ _ _ h=>h,λ_ _ i x H'' _ _ _ ⟨e,y⟩=>by subst e;subst y;exact⟨.refl _,by simp only[Rep]⟩,λ_ _ _=>aB n⟩
def jA (ta:UA):UI:=λρ Q=>ta ρ λds ρ1=>match ds with
 | [.int j]=>(-(2^62)<=j/\j<2^62)/\Q j.toNat (λi=> .int (0+i)) ρ1
 | _=>False
def aA7 (ta:UA):UI:=λρ Q=>ta ρ λds ρ1=>match ds with
 | [.int i,.int j]=>(-(2^62)<=i/\i<2^62/\ -(2^62)<=j/\j<2^62)/\Q (j-i).toNat (λk=> .int (i+k)) ρ1
 | _=>False
theorem bO {A:AS}{i:Int}{v:V}(h:Rep K A H (.int i) v):v= .int i:=by simpa only[Rep]using h
theorem fL {tg a:Expr}{ta:UA}{p:Pos}(hg:Gl X "range")(hm:X.mg "range"=none)(ha:PUA X [a] ta)(hs:starEach [a] X.env=[(false,eval a X.env)]:=by rfl):PUI X tg (.Call (.Name "range" p) [a] [] pos) (jA ta):=
 aU1 (cE1 hg hm ha hs) λσ H R ⟨C,ρ,Q0,I,h,k⟩=>⟨C,ρ,_,I,h,λds ρ1 vs H1 q f s r=>by
  split at q
  ·rename_i j
   obtain⟨v,vr,rfl,rv,rr⟩:=r.uncons;have:=rr.unnil;subst this;have:=bO rv;subst this;obtain⟨⟨h1,h2⟩,q⟩:=q;exact⟨j,rfl,h1,h2,k _ _ ρ1 _ H1 q f s b02⟩
  ·exact q.elim⟩
theorem sV {tg a b:Expr}{ta:UA}{p:Pos}(hg:Gl X "range")(hm:X.mg "range"=none)(ha:PUA X [a,b] ta)(hs:starEach [a,b] X.env=[(false,eval a X.env),(false,eval b X.env)]:=by rfl)(hs2:starEach [b] X.env=[(false,eval b X.env)]:=by rfl) :
  PUI X tg (.Call (.Name "range" p) [a,b] [] pos) (aA7 ta):=
 aU1 (cE2 hg hm ha hs hs2) λσ H R ⟨C,ρ,Q0,I,h,k⟩=>⟨C,ρ,_,I,h,λds ρ1 vs H1 q f s r=>by
  split at q
  ·rename_i i j
   obtain⟨v,vr,rfl,rv,rr⟩:=r.uncons;obtain⟨w,wr,rfl,rw',rr'⟩:=rr.uncons;have:=rr'.unnil;subst this;have:=bO rv;subst this;have:=bO rw';subst this;obtain⟨hb,q⟩:=q;exact⟨i,j,rfl,hb,k _ _ ρ1 _ H1 q f s b02⟩
  ·exact q.elim⟩
end
section
variable {X:Cx}{a b e o:Expr}{es:List Expr}{pos:Pos}{ta tb te ti:UE}{K:Frag}{C:C0}{ρ ρ':Ev}{σ σ':L2.St}{H H':Hp}{A:AS}
theorem Frz.ow {i:Nat}{l:List D}(f:Frz ρ ρ')(h:ρ'[i]? =some (some<|.ow l)):ρ[i]? =some (some<|.ow l):=by
 rcases f.2 i with q| ⟨l',_,q⟩
 ·exact q▸h
 ·rw[q]at h;cases h
def nX (ρ:Ev)(i:Nat)(Q:List D->Prop):Prop:=match ρ[i]? with
 | some (some<|.ow l)=>Q l
 | _=>False
theorem lH {i:Nat}{Q:List D->Prop}(h:nX ρ i Q): ∃l,ρ[i]? =some (some<|.ow l)/\Q l:=by
 unfold nX at h;split at h
 ·rename_i l e
  exact⟨l,e,h⟩
 ·exact h.elim
def aH0 (i:Nat)(t:UE):US:=λD ρ=>nX ρ i λ_=>t ρ λb ρ1=>nX ρ1 i λl=>l.length<sizeLine/\D.nx (ρ1.set i<|some<|.ow<|l++[b.d])
theorem lJ {x:Str}{p apos cpos:Pos}(i:Nat)(hx:PE X (.Name x p) (aG9 i))(he:PU X e te)
  (hbase:attributeBase (.Name x p) "append" X.env (eval (.Name x p) X.env)=eval (.Name x p) X.env:=by rfl)
  (hfew:((backTo cpos<|starEach [e] X.env).all (λx=> !x.1)&&(backToKw cpos<|keywordEach [] X.env).all (λx=>x.1.isSome)
   &&decide ([e].length+([]:List Keyword).length+(if([]:List Keyword).isEmpty then 0 else 1)<30))=true:=by rfl)
  (hline:(apos.endLine==cpos.line)=true:=by rfl) (hs:starEach [e] X.env=(false,eval e X.env)::starEach [] X.env:=by rfl) (hplain:(backTo cpos<|starEach [] X.env).any (·.1)=false:=by rfl)
  (hw:swapsWith (.Call (.Attribute (.Name x p) "append" apos) [e] [] cpos) none pos.line X.env=pure false:=by rfl) :
  PUS X (.Expr (.Call (.Attribute (.Name x p) "append" apos) [e] [] cpos) pos) (aH0 i te):=
 sE (bG7 (pe_bm PySem.F.plainAttrs_list PySem.F.slot_list_append PySem.F.type_list_append bC8 hx (bG9 he c09 hs) hbase hfew hline hs hplain) hw) λD σ H ⟨C,ρ,D0,I,h,k⟩=>by
  obtain⟨l,hl,h⟩:=lH h;obtain⟨a,vs,h1,h2,h3,h4⟩:=I.ow i l hl;refine⟨.ref a,h1,.inl ⟨rfl,vs,SqL.of h2⟩,C,ρ,_,I,h,λb ρ1 v H1 q f s r=> ?_⟩
  obtain⟨l',hl',hz,q⟩:=lH q;have e:=f.ow hl';rw[hl]at e;cases e;have I1:=(I.frz f).same s;obtain⟨a',vs',g1,g2,g3,g4⟩:=I1.ow i l hl';rw[h1]at g1;cases g1;refine⟨a,vs',v,rfl,rfl,g2,by rw[<-g4.length];exact hz,k.nx _ _ _ q ?_⟩
  exact I1.write hl' h1 (g4.append<|.cons (r.rep λa z=>I.avF f z) .nil)
def b03 (i:Nat)(t ti:UE):US:=λD ρ=>t ρ λb ρ1=>nX ρ1 i λ_=>ti ρ1 λj ρ2=>nX ρ2 i λl=>match j.d with
 | .int k=>(match ixN l.length k with
  | some n=>D.nx (ρ2.set i<|some<|.ow<|l.set n b.d)
  | none=>False)
 | _=>False
theorem tX {x:Str}{p tpos:Pos}{ix:Expr}(i:Nat)(hx:PE X (.Name x p) (aG9 i))(he:PU X e te)(hi:PU X ix ti)
  (ha: ∀v,assign (.Subscript (.Name x p) ix tpos) X.env v=(do
   let ov<-holding [v] (eval (.Name x p) X.env)
   let iv<-holding [v,ov] (eval ix X.env)
   standAt tpos
   holding [v,ov,iv] (setItem ov iv v)
   release [v,ov,iv] []):=by intro _;rfl)
  (hs:swapsWithSole [.Subscript (.Name x p) ix tpos] e pos.line X.env=pure false:=by rfl) (hw:swappedStores [.Subscript (.Name x p) ix tpos] e X.env=pure none:=by rfl)
  (h1:(assignEach [.Subscript (.Name x p) ix tpos] X.env).map (·.2)=[assign (.Subscript (.Name x p) ix tpos) X.env]:=by rfl):PUS X (.Assign [.Subscript (.Name x p) ix tpos] e pos) (b03 i te ti):=
 sE (cL3 he (pg_sub hx hi bQ3 ha) hs hw h1) λD σ H ⟨C,ρ,D0,I,h,k⟩=>⟨C,ρ,_,I,h,λb ρ1 v H1 q f s r=>by
  obtain⟨l,hl,q⟩:=lH q;have I1:=(I.frz f).same s;obtain⟨a,vs,h1,h2,h3,h4⟩:=I1.ow i l hl;refine⟨.ref a,h1,C,ρ1,_,I1,q,λj ρ2 w H2 q2 f2 s2 r2=> ?_⟩
  obtain⟨l',hl',q2⟩:=lH q2;have e:=f2.ow hl';rw[hl]at e;cases e;have I2:=(I1.frz f2).same s2;obtain⟨a',vs',g1,g2,g3,g4⟩:=I2.ow i l hl';rw[h1]at g1;cases g1;have rj:=r2.rep λa z=>I1.avF f2 z
  generalize j.d=dj at q2 rj;split at q2
  ·rename_i kk
   have:=bO rj;subst this;split at q2
   ·rename_i n hn
    refine⟨a,vs',kk,n,rfl,rfl,g2,by rw[<-g4.length];exact hn,k.nx _ _ _ q2 ?_⟩
    exact I2.write hl' h1 (g4.set n<|(r.rep λa z=>I.avF f z).mono<|.sub s2 λa=>f2.av)
   ·exact q2.elim
  ·exact q2.elim⟩
def gIx (d i:D)(Q:D->Prop):Prop:=match oS d,i with
 | some l,.int k=>(match atI l k with
  | some x=>Q x
  | none=>False)
 | _,_=>False
def uIx (t:UV)(ti:UE):UE:=λρ Q=>t ρ λd ρ1=>ti ρ1 λi ρ2=>gIx d i.d λx=>Q (.pu x) ρ2
theorem bS.atI {l:List D}{vs:List V}{k:Int}{x:D}(r:bS K A H l vs)(h:atI l k=some x): ∃v,L2.atI vs k=some v/\Rep K A H x v:=by
 unfold L2.atI at h⊢;cases e:ixN l.length k with
 | none=>rw[e]at h;cases h
 | some j=>
  rw[e]at h;rw[<-r.length,e];exact r.get h
theorem c16.mono {A':AS}(s:iB H H')(h: ∀a,A' a->A a): ∀{d:D} {v:V},c16 K A H d v->c16 K A' H' d v
 | .non,_,r=>Rep.mono (.sub s h) r
 | .bl _,_,r=>Rep.mono (.sub s h) r
 | .int _,_,r=>Rep.mono (.sub s h) r
 | .str _,_,r=>Rep.mono (.sub s h) r
 | .ty _,_,r=>Rep.mono (.sub s h) r
 | .tup _,_,⟨a,vs,e,c,r⟩=>⟨a,vs,e,c.imp (λc=>c.imp (s _ _) λ⟨o,z⟩=>⟨o,s _ _ z⟩) id,r.mono<|.sub s h⟩
 | .lst _,_,⟨a,vs,e,c,r⟩=>⟨a,vs,e,s _ _ c,r.mono<|.sub s h⟩
 | .rol _,_,⟨a,vs,e,c,r⟩=>⟨a,vs,e,s.seq c,r.mono<|.sub s h⟩
 | .obj _ _ _,_,r=>Rep.mono (.sub s h) r
 | .adr _,_,r=>Rep.mono (.sub s h) r
 | .xob _ _ _ _,_,r=>Rep.mono (.sub s h) r
theorem c16.seq {d:D}{v:V}{l:List D}(r:c16 K A H d v)(h:oS d=some l): ∃a vs,v= .ref a/\(SqL K H a vs\/SqT K H a vs)/\bS K A H l vs:=by
 cases d with
 | tup l'=>cases h;obtain⟨a,vs,e,c,r⟩:=r;exact⟨a,vs,e,.inr c,r⟩
 | lst l'=>cases h;obtain⟨a,vs,e,c,r⟩:=r;exact⟨a,vs,e,.inl<|SqL.of c,r⟩
 | rol l'=>cases h;obtain⟨a,vs,e,c,r⟩:=r;exact⟨a,vs,e,.inl c,r⟩
 | _=>cases h
theorem d32 {d i:D}{Q:D->Prop}(h:gIx d i Q): ∃l k x,oS d=some l/\i= .int k/\atI l k=some x/\Q x:=by
 unfold gIx at h;split at h
 ·rename_i l k e
  split at h
  ·rename_i x ex
   exact⟨l,k,x,e,rfl,ex,h⟩
  ·exact h.elim
 ·exact h.elim
theorem a27 {t:UV}(ha:PUV X a t)(hb:PU X b ti)(hs:bH0 b):PU X (.Subscript a b pos) (uIx t ti):=
 kC (pe_ix ix_seq ha hb hs) λσ H Q ⟨C,ρ,Q0,I,h,k⟩=>⟨C,ρ,_,I,h,λd ρ1 v H1 q f s r=>by
  have I1:=(I.frz f).same s;refine⟨C,ρ1,_,I1,q,λi ρ2 w H2 q2 f2 s2 r2=> ?_⟩
  obtain⟨l,kk,x,e1,e2,e3,q2⟩:=d32 q2;have ri:=r2.rep λa z=>I1.avF f2 z
  rw[e2]at ri;have:=bO ri;subst this;obtain⟨a,vs,rfl,c,rs⟩:=(r.mono (A':=Av C ρ2 σ) s2 λa=>f2.av).seq e1
  obtain⟨u,e4,r4⟩:=rs.atI e3;have fin:=k (.pu x) ρ2 u H2 q2 (f.trans f2) (s.trans s2) r4;rcases c with c|c
  ·exact .inl ⟨a,vs,kk,u,rfl,rfl,c,e4,fin⟩
  ·exact .inr (.inl ⟨a,vs,kk,u,rfl,rfl,c,e4,fin⟩)⟩
abbrev UO:=Ev->(Option Int->Ev->Prop)->Prop
def lO (K:Frag)(t:UO):TO:=λσ H Q=> ∃C ρ Q0,EOk K C ρ σ H/\t ρ Q0/\ ∀i ρ' H',Q0 i ρ'->Frz ρ ρ'->iB H H'->Q i H'
def PUO (X:Cx)(e:Option Expr)(t:UO):Prop:=PO X e (lO X.K t)
theorem dD3 {e:Option Expr}{t t':TO}(h:PO X e t)(i: ∀σ H Q,t' σ H Q->t σ H Q):PO X e t':=λpins s σ H Q I q=>h pins s σ H Q I (i σ H Q q)
def lK:UO:=λρ Q=>Q none ρ
def mM (t:UE):UO:=λρ Q=>t ρ λb ρ1=>match b.d with
 | .int i=>Q (some i) ρ1
 | _=>False
theorem mO:PUO X none lK:=dD3 d21 λσ H Q ⟨C,ρ,Q0,I,h,k⟩=>k _ _ _ h (.refl _) (.refl _)
theorem gZ (h:PU X e te):PUO X (some e) (mM te):=dD3 (d22 h) λσ H Q ⟨C,ρ,Q0,I,h,k⟩=>⟨C,ρ,_,I,h,λb ρ1 v H1 q f s r=>by
 have r':=r.rep λa z=>I.avF f z
 generalize b.d=d at q r';split at q
 ·exact⟨_,bO r',k _ _ _ q f s⟩
 ·exact q.elim⟩
noncomputable def cutD (l:List D)(lo hi:Option Int):List D:=(l.drop<|HT.sIx l.length 0 lo).take (HT.sIx l.length l.length hi-HT.sIx l.length 0 lo)
theorem bS.cut {l:List D}{vs:List V}(r:bS K A H l vs)(lo hi:Option Int):bS K A H (cutD l lo hi) (bQ2 vs lo hi):=by
 unfold cutD bQ2;rw[r.length];exact(r.drop _).take _
def gSl (d:D)(lo hi:Option Int)(Q:B->Prop):Prop:=match d with
 | .tup l=> ¬(HT.sIx l.length 0 lo=0/\HT.sIx l.length l.length hi=l.length)/\Q (.pu<|.tup<|cutD l lo hi)
 | .lst l=>Q (.ow<|cutD l lo hi)
 | .rol l=>Q (.ow<|cutD l lo hi)
 | _=>False
def uSl (t:UV)(tl th:UO):UE:=λρ Q=>t ρ λd ρ1=>tl ρ1 λlo ρ2=>th ρ2 λhi ρ3=>gSl d lo hi λb=>Q b ρ3
theorem kD {t:UV}{tl th:UO}{lo hi:Option Expr}{p2:Pos}(he:PUV X e t)(hl:PUO X lo tl)(hu:PUO X hi th):PU X (.Subscript e (.Slice lo hi none p2) pos) (uSl t tl th):=
 kC (bQ1 (c88.or cM6) he hl hu) λσ H Q ⟨C,ρ,Q0,I,h,k⟩=>⟨C,ρ,_,I,h,λd ρ1 v H1 q f s r=>by
  have I1:=(I.frz f).same s;refine⟨C,ρ1,_,I1,q,λl2 ρ2 H2 q2 f2 s2=> ?_⟩
  have I2:=(I1.frz f2).same s2;refine⟨C,ρ2,_,I2,q2,λh3 ρ3 H3 q3 f3 s3=> ?_⟩
  have I3:=(I2.frz f3).same s3;have s13:=s2.trans s3;have sAll:=s.trans s13;have fAll:=f.trans (f2.trans f3);have r':=r.mono (A':=Av C ρ3 σ) s13 λa z=>f2.av (f3.av z)
  cases d with
  | tup l=>
   obtain⟨hw,q3⟩:=q3;obtain⟨a,vs,rfl,c,rs⟩:=r';exact .inr ⟨a,vs,rfl,c,by rw[<-rs.length];exact hw,λp n=>k _ ρ3 _ _ q3 fAll (sAll.trans<|fB n _) (iU (λa z=>I3.avSome z) n<|rs.cut l2 h3)⟩
  | lst l=>
   obtain⟨a,vs,rfl,c,rs⟩:=r';exact .inl ⟨a,vs,rfl,SqL.of c,λp n=>k _ ρ3 _ _ q3 fAll (sAll.trans<|fB n _) (i6 sAll n<|rs.cut l2 h3)⟩
  | rol l=>
   obtain⟨a,vs,rfl,c,rs⟩:=r';exact .inl ⟨a,vs,rfl,c,λp n=>k _ ρ3 _ _ q3 fAll (sAll.trans<|fB n _) (i6 sAll n<|rs.cut l2 h3)⟩
  | _=>exact(show False from q3).elim⟩
def Sm (i:Int):Prop:=i.natAbs<2^9000
theorem Sm.log {i:Int}(h:Sm i):i.natAbs.log2<9000:=by
 by_cases z:i.natAbs=0
 ·rw[z];decide
 ·exact(Nat.log2_lt z).mpr h
def i4 (d e:D)(Q:B->Prop):Prop:=match d,e with
 | .int i,.int j=>Q (.pu<|.int<|i+j)
 | .lst l,.lst m=>l.length+m.length<=sizeLine/\Q (.ow<|l++m)
 | .tup l,.tup m=>l.length+m.length<=sizeLine/\Q (.pu<|.tup<|l++m)
 | _,_=>False
theorem cO0:OpR X (binaryOp .Add) (λx y H Q=> ∃a b ys,x= .ref a/\y= .ref b/\SqT X.K H a []/\SqT X.K H b ys/\Q (.ref b) H):=by
 intro pins s σ H x y v u Q I rx ry h;obtain⟨a,b,ys,rfl,rfl,ha,hb,q⟩:=h;cases rx;cases ry;obtain⟨its,r1,p1,_⟩:=I.tuple ha;obtain⟨its2,r2,p2,_⟩:=I.tuple hb;have e:its=[]:=by
  have:=r1.length;exact sZ.mp this.symm
 subst e;obtain⟨⟨cls,dd,data,sl⟩,ho,hc,n,hd⟩:=id p1;obtain⟨⟨cls2,dd2,data2,sl2⟩,ho2,hc2,n2,hd2⟩:=id p2;simp only at hc hd hc2 hd2;subst hc hd hc2 hd2;exact concat_meets ⟨_,ho,rfl⟩ ⟨_,ho2,rfl⟩ aG4 seq_tuple_add aE0 aD4 (aD1 _ _) (tuple_addW0 a b _ its2.toArray n n2 dd dd2 sl sl2 rfl) ⟨ho,ho2,⟨.ref b,H,I,rfl,q⟩⟩
theorem a98 {i:Int}:uZ K A H H' (.pu<|.int i) (.int i):=by
 show Rep K A H' (.int i) (.int i)
 simp only[Rep]
theorem cN:OpU X (binaryOp .Add) i4:=by
 intro A H d e v w Q0 Q hA r1 r2 g k;unfold i4 at g;split at g
 ·rename_i i j
  exact⟨_,op_add,i,j,bO r1,bO r2,k _ _ H g (.refl _) a98⟩
 ·rename_i l m
  simp only[Rep]at r1 r2;obtain⟨a,vs,rfl,n1,c1,rs1⟩:=r1;obtain⟨b,ws,rfl,n2,c2,rs2⟩:=r2;exact⟨_,op_cat,a,b,vs,ws,rfl,rfl,c1,c2,by rw[<-rs1.length,<-rs2.length];exact g.1,λp n=>k _ _ _ g.2 (fB n _) (i6 (.refl _) n<|rs1.append rs2)⟩
 ·rename_i l m
  simp only[Rep]at r1 r2;obtain⟨a,vs,rfl,c1,rs1⟩:=r1;obtain⟨b,ws,rfl,c2,rs2⟩:=r2;obtain⟨hz,g⟩:=g
  by_cases hn:l=[]
  ·subst hn;have e1:vs=[]:=rs1.unnil;subst e1;refine⟨_,cO0,a,b,ws,rfl,rfl,c1.imp cU id,c2.imp cU id,k _ _ H g (.refl _) ?_⟩;show Rep X.K A H (.tup m) (.ref b);simp only[Rep];exact⟨b,ws,rfl,c2,rs2⟩
  refine⟨_,d23,a,b,vs,ws,rfl,rfl,c1.imp cU id,c2.imp cU id,λz=>hn ?_,by rw[<-rs1.length,<-rs2.length];exact hz,λz=> ?_,λz p n=> ?_⟩
  ·have:=rs1.length;rw[z]at this;exact sZ.mp this
  ·have e2:=rs2.length;rw[z]at e2;have e3:m=[]:=sZ.mp e2;subst e3;rw[iE]at g;refine k _ _ H g (.refl _) ?_;show Rep X.K A H (.tup l) (.ref a);simp only[Rep];exact⟨a,vs,rfl,c1,rs1⟩
  ·exact k _ _ _ g (fB n _) (iU hA n<|rs1.append rs2)
 ·exact g.elim
def gI2 (f:Int->Int->(B->Prop)->Prop)(d e:D)(Q:B->Prop):Prop:=match d,e with
 | .int i,.int j=>f i j Q
 | _,_=>False
theorem sM {f:Int->Int->(B->Prop)->Prop}{d e:D}{Q:B->Prop}(h:gI2 f d e Q): ∃i j,d= .int i/\e= .int j/\f i j Q:=by
 unfold gI2 at h;split at h
 ·exact⟨_,_,rfl,rfl,h⟩
 ·exact h.elim
def gSub:D->D->(B->Prop)->Prop:=gI2 λi j Q=>Q (.pu<|.int<|i-j)
theorem bV:OpU X (binaryOp .Sub) gSub:=by
 intro A H d e v w Q0 Q hA r1 r2 g k;obtain⟨i,j,rfl,rfl,g⟩:=sM g;exact⟨_,op_sub,i,j,bO r1,bO r2,k _ _ H g (.refl _) a98⟩
theorem c91 {i:Int}(h:Sm i):Builtin.Int.intBits i<=2^20:=aL (PyProof.Rows.intBits_le h) ac
def hG (d e:D)(Q:B->Prop):Prop:=match d,e with
 | .int i,.int j=>(c03 i j\/(Sm i/\Sm j))/\Q (.pu<|.int<|i*j)
 | .lst l,.int k=>(-(2^63)<=k/\k<2^63/\l.length*k.toNat<=sizeLine)/\Q (.ow (replicate k.toNat l).flatten)
 | _,_=>False
theorem d33:OpR X (binaryOp .Mult) (rI (λi j=>c03 i j\/(Sm i/\Sm j)) λi j=> .int (i*j)):=opI λ_ _ _ _ _ _ _ hc q=>mul_int q (hc.elim c03.ok λh=> .of_bits (c91 h.1) (c91 h.2))
theorem cH:OpU X (binaryOp .Mult) hG:=by
 intro A H d e v w Q0 Q hA r1 r2 g k;unfold hG at g;split at g
 ·rename_i i j
  exact⟨_,d33,i,j,bO r1,bO r2,g.1,k _ _ H g.2 (.refl _) a98⟩
 ·rename_i l kk
  have:=bO r2;subst this;simp only[Rep]at r1;obtain⟨a,vs,rfl,n1,c1,rs1⟩:=r1;obtain⟨⟨h1,h2,h3⟩,g⟩:=g;exact⟨_,op_rep,a,kk,vs,rfl,rfl,c1,h1,h2,by rw[<-rs1.length];exact h3,λp n=>k _ _ _ g (fB n _) (i6 (.refl _) n<|rs1.rep _)⟩
 ·exact g.elim
def b92:D->D->(B->Prop)->Prop:=gI2 λi j Q=>(j≠0/\Sm j)/\Q (.pu<|.int<|i.fdiv j)
def o8:D->D->(B->Prop)->Prop:=gI2 λi j Q=>j≠0/\Q (.pu<|.int<|i.fmod j)
theorem d34:OpR X (binaryOp .FloorDiv) (rI (λ_ j=>j≠0/\Sm j) λi j=> .int (i.fdiv j)):=opI λ_ _ _ _ _ _ _ hc q=>floordiv_int hc.1 q (.inl<|PyProof.noPylong_of_log2 hc.2.log)
theorem aH1:OpU X (binaryOp .FloorDiv) b92:=by
 intro A H d e v w Q0 Q hA r1 r2 g k;obtain⟨i,j,rfl,rfl,g⟩:=sM g;exact⟨_,d34,i,j,bO r1,bO r2,g.1,k _ _ H g.2 (.refl _) a98⟩
theorem gX:OpU X (binaryOp .Mod) o8:=by
 intro A H d e v w Q0 Q hA r1 r2 g k;obtain⟨i,j,rfl,rfl,g⟩:=sM g;exact⟨_,d13,i,j,bO r1,bO r2,g.1,k _ _ H g.2 (.refl _) a98⟩
def d35:D->D->(B->Prop)->Prop:=gI2 λi j Q=>d12 i j/\Q (.pu<|.int<|i^j.toNat)
theorem cO1:OpU X (binaryOp .Pow) d35:=by
 intro A H d e v w Q0 Q hA r1 r2 g k;obtain⟨i,j,rfl,rfl,g⟩:=sM g;exact⟨_,op_pow,i,j,bO r1,bO r2,g.1,k _ _ H g.2 (.refl _) a98⟩
def sN (p:Int->Int->Bool):D->D->(B->Prop)->Prop:=gI2 λi j Q=>Q (.pu<|.bl<|p i j)
theorem bH9 {op:CmpOp}{p:Int->Int->Bool}(ho:OpR X (compareOp op) (rI0 λi j=> .bl (p i j))):OpU X (compareOp op) (sN p):=by
 intro A H d e v w Q0 Q hA r1 r2 g k;obtain⟨i,j,rfl,rfl,g⟩:=sM g;exact⟨_,ho,i,j,bO r1,bO r2,k _ _ H g (.refl _) tW⟩
theorem c92:OpU X (compareOp .Lt) (sN λi j=>decide (i<j)):=bH9 op_lt
theorem dD4:OpU X (compareOp .LtE) (sN λi j=>decide (i<=j)):=bH9 op_le
theorem aU2:OpU X (compareOp .Gt) (sN λi j=>decide (j<i)):=bH9 op_gt
theorem dD5:OpU X (compareOp .GtE) (sN λi j=>decide (j<=i)):=bH9 op_ge
def kX (neg:Bool)(d e:D)(Q:B->Prop):Prop:=match d,e with
 | .int i,.int j=>Q (.pu<|.bl<|neg ^^ decide (i=j))
 | .bl i,.bl j=>Q (.pu<|.bl<|neg ^^ decide (i=j))
 | .str i,.str j=>Q (.pu<|.bl<|neg ^^ decide (i=j))
 | _,_=>False
theorem yW {b:Bool}{v:V}(h:Rep K A H (.bl b) v):v= .bl b:=by simpa only[Rep]using h
theorem aK9 {b:Str}{v:V}(h:Rep K A H (.str b) v):v= .str b:=by simpa only[Rep]using h
theorem kL:OpU X (compareOp .Eq) (kX false):=by
 intro A H d e v w Q0 Q hA r1 r2 g k;unfold kX at g;split at g
 ·rw[bO r1,bO r2];exact⟨_,cL6,rfl,k _ _ H g (.refl _) (by rw[aX8,nJ,pE];exact tW)⟩
 ·rw[yW r1,yW r2];exact⟨_,cL6,rfl,k _ _ H g (.refl _) (by rw[bG8,nJ,pE];exact tW)⟩
 ·rw[aK9 r1,aK9 r2];exact⟨_,cL6,rfl,k _ _ H g (.refl _) (by rw[aX9,nJ,pE];exact tW)⟩
 ·exact g.elim
theorem c93:OpU X (compareOp .NotEq) (kX true):=by
 intro A H d e v w Q0 Q hA r1 r2 g k;unfold kX at g;split at g
 ·rw[bO r1,bO r2];exact⟨_,cL7,rfl,k _ _ H g (.refl _) (by rw[aX8,pU,pE];exact tW)⟩
 ·rw[yW r1,yW r2];exact⟨_,cL7,rfl,k _ _ H g (.refl _) (by rw[bG8,pU,pE];exact tW)⟩
 ·rw[aK9 r1,aK9 r2];exact⟨_,cL7,rfl,k _ _ H g (.refl _) (by rw[aX9,pU,pE];exact tW)⟩
 ·exact g.elim
end
section
variable {X:Cx}{a b e o:Expr}{es:List Expr}{pos:Pos}{ta tb te ti:UE}{K:Frag}{C:C0}{ρ ρ':Ev}{σ σ':L2.St}{H H':Hp}{A:AS}
def v4 (t:UE):UE:=λρ Q=>t ρ λb ρ1=>match b.d with
 | .int i=>Q (.pu<|.int<|-i) ρ1
 | _=>False
theorem oA (h:PU X a ta):PU X (.UnaryOp .USub a pos) (v4 ta):=
 kC (pe_un un_neg h) λσ H Q ⟨C,ρ,Q0,I,h,k⟩=>⟨C,ρ,_,I,h,λb ρ1 v H1 q f s r=>by
  have r':=r.rep λa z=>I.avF f z
  generalize b.d=d at q r';split at q
  ·exact⟨_,bO r',k _ _ _ _ q f s a98⟩
  ·exact q.elim⟩
theorem c19:IpU X .Add (gI2 λi j Q=>Q (.pu<|.int<|i+j)):=by
 intro A H d e v w Q0 Q hA r1 r2 g k;obtain⟨i,j,rfl,rfl,g⟩:=sM g;exact⟨_,ip_add,i,j,bO r1,bO r2,k _ _ H g (.refl _) a98⟩
theorem iu_sub:IpU X .Sub (gI2 λi j Q=>Q (.pu<|.int<|i-j)):=by
 intro A H d e v w Q0 Q hA r1 r2 g k;obtain⟨i,j,rfl,rfl,g⟩:=sM g;exact⟨_,cL4,i,j,bO r1,bO r2,k _ _ H g (.refl _) a98⟩
def g1 (f:D->(B->Prop)->Prop)(ds:List D)(Q:B->Prop):Prop:=match ds with
 | [d]=>f d Q
 | _=>False
def g2 (f:D->D->(B->Prop)->Prop)(ds:List D)(Q:B->Prop):Prop:=match ds with
 | [d,e]=>f d e Q
 | _=>False
theorem aH2 {f:D->(B->Prop)->Prop}{ds:List D}{Q:B->Prop}{vs:List V}(h:g1 f ds Q)(r:bS K A H ds vs): ∃d v,ds=[d]/\vs=[v]/\Rep K A H d v/\f d Q:=by
 unfold g1 at h;split at h
 ·obtain⟨v,vr,rfl,rv,rr⟩:=r.uncons;have:=rr.unnil;subst this;exact⟨_,v,rfl,rfl,rv,h⟩
 ·exact h.elim
theorem cO2 {f:D->D->(B->Prop)->Prop}{ds:List D}{Q:B->Prop}{vs:List V}(h:g2 f ds Q)(r:bS K A H ds vs): ∃d e v w,ds=[d,e]/\vs=[v,w]/\Rep K A H d v/\Rep K A H e w/\f d e Q:=by
 unfold g2 at h;split at h
 ·obtain⟨v,vr,rfl,rv,rr⟩:=r.uncons;obtain⟨w,wr,rfl,rw',rr'⟩:=rr.uncons;have:=rr'.unnil;subst this;exact⟨_,_,v,w,rfl,rfl,rv,rw',h⟩
 ·exact h.elim
def d36 (f:Int->(B->Prop)->Prop)(d:D)(Q:B->Prop):Prop:=match d with
 | .int i=>f i Q
 | _=>False
theorem cO3 {f:Int->(B->Prop)->Prop}{d:D}{Q:B->Prop}(h:d36 f d Q): ∃i,d= .int i/\f i Q:=by
 unfold d36 at h;split at h
 ·exact⟨_,rfl,h⟩
 ·exact h.elim
def cO4:List D->(B->Prop)->Prop:=g1 (d36 λi Q=>Q (.pu<|.int<|if i<0 then -i else i))
theorem c20:a07 X (.builtin "abs") cO4:=by
 intro A H ds vs Q0 Q hA r g k;obtain⟨d,v,rfl,rfl,rv,g⟩:=aH2 g r;obtain⟨i,rfl,g⟩:=cO3 g;exact⟨_,cL8,i,by rw[bO rv],k _ _ H g (.refl _) a98⟩
def gMax:List D->(B->Prop)->Prop:=g2 (gI2 λi j Q=>Q (.pu<|.int<|if j>i then j else i))
theorem cu_max (hc:X.calm=true):a07 X (.builtin "max") gMax:=by
 intro A H ds vs Q0 Q hA r g k;obtain⟨d,e,v,w,rfl,rfl,rv,rw',g⟩:=cO2 g r;obtain⟨i,j,rfl,rfl,g⟩:=sM g;exact⟨_,cE4 hc,i,j,by rw[bO rv,bO rw'],k _ _ H g (.refl _) a98⟩
def gMin:List D->(B->Prop)->Prop:=g2 (gI2 λi j Q=>Q (.pu<|.int<|if j<i then j else i))
theorem cu_min (hc:X.calm=true):a07 X (.builtin "min") gMin:=by
 intro A H ds vs Q0 Q hA r g k;obtain⟨d,e,v,w,rfl,rfl,rv,rw',g⟩:=cO2 g r;obtain⟨i,j,rfl,rfl,g⟩:=sM g;exact⟨_,cE5 hc,i,j,by rw[bO rv,bO rw'],k _ _ H g (.refl _) a98⟩
def bI0:List D->(B->Prop)->Prop:=g1 λd Q=>match d with
 | .int i=>Q (.pu<|.int i)
 | .bl k=>Q (.pu<|.int<|if k then 1 else 0)
 | _=>False
theorem cu_int:a07 X (.type "int") bI0:=by
 intro A H ds vs Q0 Q hA r g k;obtain⟨d,v,rfl,rfl,rv,g⟩:=aH2 g r;cases d with
 | int i=>exact⟨_,bC2,.inl ⟨i,by rw[bO rv],k _ _ H g (.refl _) a98⟩⟩
 | bl c=>exact⟨_,bC2,.inr ⟨c,by rw[yW rv],k _ _ H g (.refl _) a98⟩⟩
 | _=>exact(show False from g).elim
noncomputable def fM:List D->(B->Prop)->Prop:=g1 λd Q=>match oS d with
 | some l=>Q (.pu<|.tup l)
 | none=>False
theorem jE:a07 X (.type "tuple") fM:=by
 intro A H ds vs Q0 Q hA r g k;obtain⟨d,v,rfl,rfl,rv,g⟩:=aH2 g r;cases d with
 | tup l=>
  have rv':=rv;simp only[Rep]at rv;obtain⟨a,vs,rfl,c,rs⟩:=rv;exact⟨_,vT,a,vs,rfl,.inr ⟨c.imp cU id,k _ _ H g (.refl _) rv'⟩⟩
 | lst l=>
  simp only[Rep]at rv;obtain⟨a,vs,rfl,n,c,rs⟩:=rv;exact⟨_,vT,a,vs,rfl,.inl ⟨SqL.of c,λp n=>k _ _ _ g (fB n _) (iU hA n rs)⟩⟩
 | rol l=>
  simp only[Rep]at rv;obtain⟨a,vs,rfl,c,rs⟩:=rv;exact⟨_,vT,a,vs,rfl,.inl ⟨c.imp cU id,λp n=>k _ _ _ g (fB n _) (iU hA n rs)⟩⟩
 | _=>exact(show False from g).elim
noncomputable def aL0:List D->(B->Prop)->Prop:=g1 λd Q=>match oS d with
 | some l=>Q (.ow l)
 | none=>False
theorem bI1:a07 X (.type "list") aL0:=by
 intro A H ds vs Q0 Q hA r g k;obtain⟨d,v,rfl,rfl,rv,g⟩:=aH2 g r;cases e:oS d with
 | none=>simp only[e]at g
 | some l=>
  simp only[e]at g;obtain⟨a,vs,rfl,c,rs⟩:=rv.one.seq e;exact⟨_,bH5,a,vs,rfl,c,λp n=>k _ _ _ g (fB n _) (i6 (.refl _) n rs)⟩
def kA (t:UV):UE:=λρ Q=>t ρ λd ρ1=>match oS d with
 | some l=>Q (.pu<|.int l.length) ρ1
 | none=>False
theorem dZ {t:UV}{p:Pos}(ha:PUV X e t)(hg:Gl X "len")(hm:X.mg "len"=none)(hs:starEach [e] X.env=(false,eval e X.env)::starEach [] X.env:=by rfl)
  (hpl:(backTo pos<|starEach [] X.env).any (·.1)=false:=by rfl):PU X (.Call (.Name "len" p) [e] [] pos) (kA t):=
 kC (bQ0 bH4 hg hm PySem.boot_len (bG9 ha c09 hs) ac ac hs hpl) λσ H Q ⟨C,ρ,Q0,I,h,k⟩=>⟨C,ρ,_,I,h,λd ρ1 v H1 q f s r=>by
  cases e:oS d with
  | none=>simp only[e]at q
  | some l=>
   simp only[e]at q;obtain⟨a,vs,rfl,c,rs⟩:=r.seq e;exact⟨a,vs,rfl,c,k _ _ _ _ q f s (by rw[rs.length];exact a98)⟩⟩
noncomputable def init (N:List Str)(ds:List D):Ev:=ds.map (λd=>some (.pu d))++replicate (N.length-ds.length) none
theorem a28 {N:List Str}{ds:List D}{i:Nat}{z:B}(h:(init N ds)[i]? =some (some z)): ∃d,z= .pu d/\ds[i]? =some d:=by
 unfold init at h
 by_cases hi:i<ds.length
 ·rw[xO<|by simpa using hi,bJ]at h
  cases e:ds[i]? with
  | none=>rw[e]at h;cases h
  | some d=>rw[e]at h;cases h;exact⟨d,rfl,rfl⟩
 ·rw[sY<|by simpa using hi,List.getElem?_replicate]at h
  split at h<;>cases h
theorem bI2 {N:List Str}{ds:List D}{vs:List V}(hA: ∀a,A a->H a≠none)(r:bS K A H ds vs):EOk K ⟨H,A⟩ (init N ds) (L2.start N vs) H:=by
 have own: ∀a,¬Own (init N ds) (L2.start N vs) a:=λa ⟨i,l,h1,_⟩=>by
  obtain⟨d,e,_⟩:=a28 h1;cases e
 refine⟨?_,λi d h=> ?_,λi l h=> ?_,λi j l l' a h=> ?_,λi l h=> ?_,.refl _,hA⟩
 ·unfold init L2.start;simp[r.length]
 ·obtain⟨d',e,e2⟩:=a28 h;cases e;obtain⟨v,h1,h2⟩:=r.get e2;refine⟨v,?_,h2.mono<|.sub (.refl _) λa z=>z.elim id λz=>absurd z (own a)⟩
  unfold L2.start;have hv:i<vs.length:=(kN.mp h1).1;rw[xO<|by simpa using hv,bJ,h1]
  rfl
 ·obtain⟨d',e,_⟩:=a28 h;cases e
 ·obtain⟨d',e,_⟩:=a28 h;cases e
 ·obtain⟨d',e,_⟩:=a28 h;cases e
theorem bI3 {P:Program}{w:World}{K:Frag}{mg:Str->Option Value}{base:Heap}{x qual:Str}{st:Stmt}{f:Addr}{fd:FuncData}{N ps:List Str}{k:Nat}{φ:Φ}(F:Fun K x qual st f fd)(S:b6 N ps (aE st))
  (len: ∀ds Q,φ ds Q->ds.length=ps.length)
  (body: ∀(cdv:Value) (A:Around) (outer:List Env) (s:Shared) (H:Hp) (E:XK),hZ k (A.deeper<|envOfC qual (aE st) s.heap.objs.size f cdv)->
   ∃t,rN (tV CX0 P w K mg base N qual (aE st) f cdv A outer s H E).nox (dQ st) t/\ ∀ds Q,φ ds Q->t {nx:=λ_=>Q (.pu .non),rt:=Q} (init N ds)) :
  sL P w K mg base CX0 (k+1) f fd ps (spP K φ):=by
 refine F.ok S (λvs H Q E h=> ?_) (λcdv A outer s H vs Q E hr h=> ?_)
 ·obtain⟨A,ds,Q0,_,r,h,_⟩:=h;rw[<-r.length];exact len ds Q0 h
 ·obtain⟨A',ds,Q0,hA,r,h,q⟩:=h;obtain⟨t,ht,hq⟩:=body cdv A outer s H E hr;refine⟨_,ht,⟨H,A'⟩,init N ds,_,bI2 hA r,hq ds Q0 h,⟨λρ σ H' z I=> ?_,λb v H' z s r=>q b v H' z s r,λ_ _ _ z=>z.elim,λ_ _ _ z=>z.elim⟩⟩
  exact q _ _ H' z I.ext (show Rep _ _ _ _ _ by simp only[Rep])
end
structure Fn (P:Program)(w:World)(K:Frag)(mg:Str->Option Value)(base:Heap)(x:Str)(ps:List Str)(k:Nat)(φ:Φ):Prop where
 ex: ∃f fd,sL P w K mg base CX0 k f fd ps (spP K φ)/\Binds K fd ps []/\keepIn K (.ref f)=true/\mg x=some (.ref f)
section
variable {X:Cx}{e:Expr}{es:List Expr}{pos:Pos}
theorem aA8 {k k':Nat}{ps:List Str}{φ:Φ}{x:Str}{p:Pos}{t:UA}(F:Fn X.prog X.w X.K X.mg X.base x ps k φ)(hr:hZ k' X.A)(hk:k<=k')(hg:Gl X x)(ha:PUA X (e::es) t)(hdb:(x==("__debug__":Str))=false:=by decide)
  (he:starEach (e::es) X.env=(false,eval e X.env)::starEach es X.env:=by rfl) (hpl:(backTo pos<|starEach es X.env).any (·.1)=false:=by rfl):PU X (.Call (.Name x p) (e::es) [] pos) (aW φ t):=by
 obtain⟨f,fd,G,b,kp,m⟩:=F.ex;exact d29 (E:=E0) G (hr.mono hk) hg m kp b (λ_ _ _ _ _ _ _ h=>h.elim) ha hdb he hpl
theorem cO5 {k k':Nat}{ps:List Str}{φ:Φ}{x:Str}{p:Pos}(F:Fn X.prog X.w X.K X.mg X.base x ps k φ)(hr:hZ k' X.A)(hk:k<=k')(hg:Gl X x)(hdb:(x==("__debug__":Str))=false:=by decide):PU X (.Call (.Name x p) [] [] pos) (aW φ aM):=by
 obtain⟨f,fd,G,b,kp,m⟩:=F.ex;exact cN5 (E:=E0) G (hr.mono hk) hg m kp b (λ_ _ _ _ _ _ _ h=>h.elim) hdb
theorem il {n i:Nat}(hn:X.N.length=n)(h:i<n): ∀pins σ H s,Inv X pins σ H s->i<σ.length:=λ_ _ _ _ I=>by rw[I.len,hn];exact h
end
theorem Fn.mk' {P:Program}{w:World}{K:Frag}{mg:Str->Option Value}{base:Heap}{x qual:Str}{st:Stmt}{f:Addr}{fd:FuncData}{N ps:List Str}{k:Nat}{φ:Φ}(F:Fun K x qual st f fd)(m:mg x=some (.ref f))(b:Binds K fd ps [])(S:b6 N ps (aE st))
  (len: ∀ds Q,φ ds Q->ds.length=ps.length) {t:US}
  (der: ∀(cdv:Value) (A:Around) (outer:List Env) (s:Shared) (H:Hp) (E:XK),hZ k (A.deeper<|envOfC qual (aE st) s.heap.objs.size f cdv)->rN (tV CX0 P w K mg base N qual (aE st) f cdv A outer s H E).nox (dQ st) t)
  (rd: ∀ds Q,φ ds Q->t {nx:=λ_=>Q (.pu .non),rt:=Q} (init N ds)):Fn P w K mg base x ps (k+1) φ:=
 ⟨f,fd,bI3 F S len λcdv A outer s H E hr=>⟨t,der cdv A outer s H E hr,rd⟩,b,F.kp,m⟩
def bD1:Φ:=λds Q=> ∃ns:List Int,ds=[.rol<|ns.map .int]/\ns.length<=63/\Q (.pu<|.bl true)
theorem bD2 {K:Frag}{A:AS}{H:Hp}: ∀ns:List Int,bS K A H (ns.map .int) (ns.map V.int)
 | []=> .nil
 | n::ns=> .cons (by simp only[Rep]) (bD2 ns)
theorem law_sp {K:Frag}{H:Hp}{a:Addr}{ns:List Int}(hl:ns.length<=63)(hS:SqL K H a (ns.map V.int)):spP K bD1 [.ref a] H (λv _=>v= .bl true) (λ_ _ _=>False):=by
 refine⟨λ_=>False,[.rol<|ns.map .int],λb=>b= .pu (.bl true),λ_ z=>z.elim,.cons ?_ .nil,⟨ns,rfl,hl,rfl⟩,λb v H' q s r=> ?_⟩
 ·simp only[Rep];exact⟨a,_,rfl,hS.imp (λz=>⟨λz=>z,z⟩) id,bD2 ns⟩
 ·subst q;have r':Rep K (λ_=>False) H' (.bl true) v:=r
  exact yW r'
theorem walkM {l:PySem.W.OpenLaw}{k:Nat}{x:Str}{q:Program}{loose:List Str}{XP:(Str->Option Value)->Heap->Prop}{YP:World->Heap->Prop}{d:DefRec}{K:Params->Frag}(hn:l.most=some 63)(hdf:d.params.defaults=[])(hr:hZ k callerA)
  (hY: ∀(w:World) (h:Heap),YP w h->(K w.params).In h)
  (F: ∀(w:World) (mg:Str->Option Value) (fa:Addr) (h:Heap),(K w.params).In h->h.Ns mainGlobals mg->mg d.name=some (.ref fa)->
   ∃fd:FuncData,(∀(s:Shared) (u:Value),BindsTo s fd ⟨[u],[]⟩ [(x,u)])/\ ∀base:Heap,(K w.params).In base->base.Ns mainGlobals mg->sL l.prog w (K w.params) mg base CX0 k fa fd [x] (spP (K w.params) bD1)) :
  PySem.W.WalkO q loose XP YP l.row.toRowW d [] (λf vs=>PySem.call f vs):=
 L2.walk_of (n:=63) (k:=k) (x:=x) (CX:=λ_=>CX0) (sp:=λw=>spP (K w.params) bD1) hn ac hdf hr hY F (λ_ _ a ns hl _ hS=>law_sp hl hS) λ_ _ _ _ _ z=>z
end M
end
section
namespace L2
open PySem PySem.Spec PyProof.Rows
noncomputable def cB (X:Cx)(N:List Str)(scope:Scope)(cl:List (Str×Addr))(C:Addr)(s:Shared)(H:Hp)(fp:List Addr)(pins:List (Addr×Obj)):Cx where
 prog:=X.prog
 w:=X.w
 K:=X.K
 mg:=X.mg
 base:=X.base
 A:=X.A
 N:=N
 s₀:=s
 H₀:=H
 env:=compEnvC scope cl C X.env
 outer:=X.stack
 stack:=X.stack
 ex:=fp
 fn:=λx=>scope.names.lookup x==some .cell
 calm:=X.calm
 pn:=X.pn++pins
 xe:=λ_ _=>False
theorem yX {env:Env}: ∀(names:List (Str×NameKind)),(∀y∈names,y.2= .free-> ∃c,env.cells.lookup y.1=some c)-> ∀cs:List (Str×Addr),(∀x c,cs.lookup x=some c->env.cells.lookup x=some c)->
  ∃cl,(forIn names cs fun(x:Str×NameKind) r=>(do if(x.2==NameKind.free)=true then do let c<-cellOf env x.1;pure (ForInStep.yield ((x.1,c)::r))else pure (ForInStep.yield r)):Sem (List<|Str×Addr))=pure cl/\
   (∀x c,cl.lookup x=some c->env.cells.lookup x=some c)/\(∀x c,cs.lookup x=some c-> ∃c',cl.lookup x=some c')/\ ∀y∈names,y.2= .free-> ∃c,cl.lookup y.1=some c
 | [],_,cs,hcs=>⟨cs,rfl,hcs,λx c h=>⟨c,h⟩,λy hy=>by simp at hy⟩
 | (n,k)::r,h,cs,hcs=>by
  have hr: ∀y∈r,y.2= .free-> ∃c,env.cells.lookup y.1=some c:=λy hy=>h y (bF _ hy)
  by_cases hk:k= .free
  ·subst hk;obtain⟨c,hc⟩:=h (n,.free) cD rfl;have e1:cellOf env n=pure c:=by unfold cellOf;rw[hc]
   have hcs': ∀x c',List.lookup x ((n,c)::cs)=some c'->env.cells.lookup x=some c':=λx c' q=>by
    rw[d5]at q;split at q
    ·rename_i e
     have:x=n:=by simpa using e
     subst this;cases q;exact hc
    ·exact hcs x c' q
   obtain⟨cl,h1,h2,h3,h4⟩:=yX r hr ((n,c)::cs) hcs';have hn: ∃c',cl.lookup n=some c':=h3 n c (by rw[d5];simp)
   refine⟨cl,?_,h2,λx c' q=> ?_,λy hy hf=> ?_⟩
   ·rw[yE];show(do let c<-cellOf env n;pure (ForInStep.yield ((n,c)::cs))) >>= _=_;rw[e1];exact h1
   ·by_cases z:x=n
    ·subst z;exact hn
    ·refine h3 x c' ?_
     rw[d5];have:(x==n)=false:=by simpa using z
     rw[this];exact q
   ·rcases aY.mp hy with rfl|hy
    ·exact hn
    ·exact h4 y hy hf
  ·obtain⟨cl,h1,h2,h3,h4⟩:=yX r hr cs hcs;refine⟨cl,?_,h2,h3,λy hy hf=> ?_⟩
   ·rw[yE];have:(k==NameKind.free)=false:=by simpa using hk
    show(if(k==NameKind.free)=true then _ else _) >>= _=_
    rw[this];exact h1
   ·rcases aY.mp hy with rfl|hy
    ·exact absurd hf hk
    ·exact h4 y hy hf
structure gK (env:Env)(XN N:List Str)(cap:List (Option Nat))(scope:Scope):Prop where
 kind:scope.kind= .function
 owns: ∀y∈scope.names,y.2= .cell->scope.names.lookup y.1=some .cell
 freeK: ∀y∈scope.names,y.2= .free->scope.names.lookup y.1=some .free
 names: ∀y∈scope.names,y.2= .local->scope.names.lookup y.1=some .local
 frees: ∀y∈scope.names,y.2= .free->env.kindOf y.1=some .cell\/env.kindOf y.1=some .free
 caps: ∀(i j:Nat) (x:Str),N[i]? =some x->cap[i]? =some (some j)->XN[j]? =some x/\(x,NameKind.free)∈scope.names/\scope.names.lookup x=some .free
 len:cap.length=N.length
noncomputable def vC (σ:L2.St)(cap:List (Option Nat))(last:Nat)(D:Addr):L2.St:=(cap.map λc=>c.bind λj=>(σ[j]?).join).set last (some<|.ref D)
theorem a29 {env:Env}{x:Str}{k:NameKind}: ∀{names:List (Str×NameKind)},names.lookup x=some k->
  (names.map fun(n,k)=>if(k==NameKind.free&&env.scope.kind== .function&&env.kindOf n==some .cell)then(n,NameKind.cell)else(n,k)).lookup x=
   some (if(k==NameKind.free&&env.scope.kind== .function&&env.kindOf x==some .cell)then NameKind.cell else k)
 | [],h=>by simp at h
 | (n,k')::r,h=>by
  rw[d6];rw[d5]at h;dsimp only
  by_cases e:(x==n)=true
  ·have e':x=n:=by simpa using e
   subst e';rw[e]at h;cases h;split<;>simp
  ·have e2:(x==n)=false:=by simpa using e
   rw[e2]at h;have ih:=a29 (env:=env) h;split
   ·rw[d5,e2];exact ih
   ·rw[d5,e2];exact ih
theorem oB {env:Env}{x:Str}{k:NameKind}: ∀{names:List (Str×NameKind)},(names.map fun(n,k)=>if(k==NameKind.free&&env.scope.kind== .function&&env.kindOf n==some .cell)then(n,NameKind.cell)else(n,k)).lookup x=some k->
  ∃k',names.lookup x=some k'/\(x,k')∈names/\(k=k'\/k'= .free)
 | [],h=>by simp at h
 | (n,k')::r,h=>by
  rw[d6]at h;dsimp only at h
  by_cases e:(x==n)=true
  ·have e':x=n:=by simpa using e
   subst e';refine⟨k',by rw[d5,e],cD,?_⟩
   split at h
   ·rename_i c
    right
    simp only[dS,gJ]at c;exact c.1.1
   ·rw[d5,e]at h;cases h;exact .inl rfl
  ·have e2:(x==n)=false:=by simpa using e
   have h':(r.map fun(n,k)=>if(k==NameKind.free&&env.scope.kind== .function&&env.kindOf n==some .cell)then(n,NameKind.cell)else(n,k)).lookup x=some k:=by
    split at h
    ·rw[d5,e2]at h;exact h
    ·rw[d5,e2]at h;exact h
   obtain⟨k2,h1,h2,h3⟩:=oB h';exact⟨k2,by rw[d5,e2];exact h1,bF _ h2,h3⟩
theorem aQ2 {x:Str}{c:Addr}: ∀(names:List (Str×NameKind)) (h:Heap) (acc:List (Str×Addr)),(cellsFrom h.objs.size names acc).lookup x=some c->
  acc.lookup x=some c\/(h.objs.size<=c/\(x,NameKind.cell)∈names/\(pushCells h names).IsCell c none)
 | [],_,_,e=> .inl e
 | (y,k)::r,h,acc,e=>by
  unfold cellsFrom at e;unfold pushCells
  by_cases hk:(k==NameKind.cell)=true
  ·rw[a7 hk]at e⊢;have hk':k= .cell:=by simpa using hk
   have sz:(h.push {cls:= .type "cell",data:= .cell none}).objs.size=h.objs.size+1:=j3 ..;rw[<-sz]at e;rcases aQ2 r _ _ e with q| ⟨q1,q2,q3⟩
   ·rw[d5]at q;split at q
    ·rename_i e1
     have:x=y:=by simpa using e1
     subst this;cases q;exact .inr ⟨aB _,by rw[hk'];exact cD,⟨_,aG7 _ _ _ _<|bY _ rfl,rfl⟩⟩
    ·exact .inl q
   ·exact .inr ⟨ad,bF _ q2,q3⟩
  ·rw[a6 hk]at e⊢;rcases aQ2 r h acc e with q| ⟨q1,q2,q3⟩
   ·exact .inl q
   ·exact .inr ⟨q1,bF _ q2,q3⟩
theorem aQ3: ∀(names:List (Str×NameKind)) (n:Nat) (acc:List (Str×Addr)),(∀x c,acc.lookup x=some c->c<n)->(∀x y c,acc.lookup x=some c->acc.lookup y=some c->x=y)->
  ∀x y c,(cellsFrom n names acc).lookup x=some c->(cellsFrom n names acc).lookup y=some c->x=y
 | [],_,_,_,hi=>hi
 | (z,k)::r,n,acc,hl,hi=>by
  unfold cellsFrom
  by_cases hk:(k==NameKind.cell)=true
  ·rw[a7 hk];refine aQ3 r (n+1) _ (λx c e=> ?_) (λx y c e1 e2=> ?_)
   ·rw[d5]at e;split at e
    ·cases e;exact pQ n
    ·exact kQ (hl x c e)
   ·rw[d5]at e1 e2;split at e1
    ·rename_i q1
     cases e1;split at e2
     ·rename_i q2
      exact(by simpa using q1:x=z).trans (by simpa using q2:y=z).symm
     ·exact absurd (hl y _ e2) (dI _)
    ·split at e2
     ·cases e2;exact absurd (hl x _ e1) (dI _)
     ·exact hi x y c e1 e2
  ·rw[a6 hk];exact aQ3 r n acc hl hi
theorem sW {x:Str}{c:Addr}: ∀(names:List (Str×NameKind)) (n:Nat) (acc:List (Str×Addr)),((x,NameKind.cell)∈names\/ ∀c,acc.lookup x=some c->n<=c)->(cellsFrom n names acc).lookup x=some c->n<=c
 | [],_,_,h,e=>by
  rcases h with h|h
  ·simp at h
  ·exact h c e
 | (z,k)::r,n,acc,h,e=>by
  unfold cellsFrom at e
  by_cases hk:(k==NameKind.cell)=true
  ·rw[a7 hk]at e;have hk':k= .cell:=by simpa using hk
   rcases h with h|h
   ·rcases aY.mp h with h|h
    ·cases h;have:n<=c:=by
      by_cases q: ∃c',(cellsFrom (n+1) r ((x,n)::acc)).lookup x=some c'/\(x,NameKind.cell)∈r
      ·obtain⟨c',e',m⟩:=q;have:=sW (c:=c) r (n+1) _ (.inl m) e
       lia
      ·have nm:(x,NameKind.cell) ∉ r:=λm=>q ⟨c,e,m⟩
       have:=cells_keep r (n+1) ((x,n)::acc) nm;rw[this,d5]at e;simp at e;exact le_of_eq e
     exact this
    ·have:=sW (c:=c) r (n+1) _ (.inl h) e
     lia
   ·by_cases q:(x,NameKind.cell)∈r
    ·have:=sW (c:=c) r (n+1) _ (.inl q) e
     lia
    ·have:=cells_keep r (n+1) ((z,n)::acc) q;rw[this,d5]at e;split at e
     ·cases e;exact aB _
     ·exact h c e
  ·rw[a6 hk]at e;refine sW (c:=c) r n acc (h.imp (λm=> ?_) id) e
   rcases aY.mp m with m|m
   ·cases m;exact absurd ac hk
   ·exact m
where
 cells_keep {x:Str}: ∀(names:List (Str×NameKind)) (n:Nat) (acc:List (Str×Addr)),(x,NameKind.cell) ∉ names->(cellsFrom n names acc).lookup x=acc.lookup x
 | [],_,_,_=>rfl
 | (z,k)::r,n,acc,h=>by
  unfold cellsFrom
  by_cases hk:(k==NameKind.cell)=true
  ·rw[a7 hk];have hk':k= .cell:=by simpa using hk
   rw[cells_keep r (n+1) _ λm=>h (bF _ m),d5]
   split
   ·rename_i e
    have:x=z:=by simpa using e
    subst this;exact absurd (by rw[hk'];exact cD) h
   ·rfl
  ·rw[a6 hk];exact cells_keep r n acc λm=>h (bF _ m)
theorem cells_keep {x:Str}(names:List (Str×NameKind))(n:Nat)(acc:List (Str×Addr))(h:(x,NameKind.cell) ∉ names):(cellsFrom n names acc).lookup x=acc.lookup x:=sW.cells_keep names n acc h
theorem bI4 {M:Model}{A:Around}{E:Value->Shared->Prop}{s:Shared}{scope:Scope}{globals:Addr}{cl:List (Str×Addr)}{qual:Str}{env0:Env}{Q:Env->Shared->Prop}
  (hQ:Q {scope:=scope,locals:=s.heap.objs.size,globals:=globals,cells:=cellsFrom (s.heap.objs.size+1) scope.names cl,qual:=qual,func:=none,code:=env0.code,frame:=env0.frame,builtins:=env0.builtins} {s with heap:=pushCells (s.heap.push {cls:= .type "dict",data:= .dict #[]}) scope.names}) :
  wpAny M A (newFunctionEnv scope globals cl [] qual none .none<|some env0) Q E s:=by
 simp only[newFunctionEnv,Option.isSome_some,eU];refine a8 (wpAny_alloc ?_);refine a8 (wpAny_layCells _ (λname kind cells=>by cases hkc:kind==NameKind.cell<;>simp[hkc]) _ _ _ _ ?_)
 rw[show({s with heap:=s.heap.push {cls:= .type "dict",data:= .dict #[]}}:Shared).heap.objs.size=s.heap.objs.size+1 from j3 ..]
 rw[forIn_nil];exact a8 (aI<|aI hQ)
section
variable {X:Cx}{pins:List (Addr×Obj)}{σ:L2.St}{H:Hp}{s:Shared}{N:List Str}{cap:List (Option Nat)}{scope:Scope}
theorem bR1 {fp:List Addr}{last:Nat}{D:Addr}{cl0 cl:List (Str×Addr)}{h1:Heap}{m0:Str->Option Value}{tk:Nat}(S:gK X.env X.N N cap scope)(I:Inv X pins σ H s)(hf: ∀b∈fp,aP7 X pins H b)(hfs: ∀b∈fp,b<s.heap.objs.size)
  (hcl: ∀x c,cl0.lookup x=some c->X.env.cells.lookup x=some c) (hcl2: ∀y∈scope.names,y.2= .free-> ∃c,cl0.lookup y.1=some c) (hN: ∀x,N[last]? =some x->scope.names.lookup x=none)
  (hns:h1.Ns s.heap.objs.size m0) (hk: ∀b o,s.heap.get? b=some o->h1.get? b=some o)
  (c1: ∀x c,cl.lookup x=some c->cl0.lookup x=some c\/(s.heap.objs.size<c/\h1.IsCell c none)) (c2: ∀x y c,cl.lookup x=some c->cl.lookup y=some c->x=y)
  (c3: ∀x,(x,NameKind.free)∈scope.names->cl.lookup x=cl0.lookup x) (c4: ∀x,scope.names.lookup x=some .cell-> ∃c,cl.lookup x=some c) (c5: ∀x c,scope.names.lookup x=some .cell->cl.lookup x=some c->s.heap.objs.size<=c) :
  Inv (cB X N scope cl s.heap.objs.size s H fp pins) [] (vC σ cap last D) H {s with heap:=h1,toks:=tk}:=by
 have sz:X.base.objs.size<=s.heap.objs.size:=aL I.ok.bsz I.sz;have kindF: ∀x,(cB X N scope cl s.heap.objs.size s H fp pins).env.kindOf x=some .cell\/(cB X N scope cl s.heap.objs.size s H fp pins).env.kindOf x=some .free->(x,NameKind.free)∈scope.names\/scope.names.lookup x=some .cell:=λx h=>by
  have: ∃k,(k= .cell\/k= .free)/\(relabel scope X.env).names.lookup x=some k:=by
   rcases h with h|h
   ·exact⟨_,.inl rfl,h⟩
   ·exact⟨_,.inr rfl,h⟩
  obtain⟨k,hk,h⟩:=this;obtain⟨k',h1,h2,h3⟩:=oB h;rcases h3 with rfl|rfl
  ·rcases hk with rfl|rfl
   ·exact .inr (S.owns _ h2 rfl)
   ·exact .inl h2
  ·exact .inl h2
 have cne: ∀x c,cl.lookup x=some c-> ∀b∈fp,c≠b:=λx c h b hb=>by
  rcases c1 x c h with q| ⟨q,_⟩
  ·exact(hf b hb).2.2.2.2.1 x c (hcl x c q)
  ·exact λz=>by subst z;exact absurd (Nat.lt_trans q<|hfs c hb) (dI _)
 refine⟨⟨I.ok.mod,S.kind,I.ok.glob,I.ok.blt,aB _,c2,λx h=> ?_,λx c h e=> ?_,I.ok.hd,I.ok.frames,.inl rfl,λb hb=> ?_,I.bs,sz,λb o e hb=> ?_,λb hb=> ?_,I.stack,I.stkFree⟩,
  rfl,I.bare,Un.kept hk,⟨m0,hns,λi x v e1 e2 e3=> ?_⟩,λx c h=> ?_,I.hok.fresh<|aB _,λx c h=> ?_,λp hp=> ?_,I.hok.kept hk,?_⟩
 ·rcases kindF x h with q|q
  ·obtain⟨c,e⟩:=hcl2 _ q rfl;exact⟨c,(c3 x q).trans e⟩
  ·exact c4 x q
 ·exact c5 x c (by simpa using(show(scope.names.lookup x==some NameKind.cell)=true from h)) e
 ·exact⟨bK<|hfs b hb,λx c h=>cne x c h b hb⟩
 ·rcases(hf b hb).2.2.2.1 with z|z
  ·exact I.ok.noex b o e z
  ·have:=aQ e;exact absurd (aX this<|aL I.ok.bsz z) (dI _)
 ·intro z;rcases aY.mp (I.stkSub b z)with z|z
  ·exact(hf b hb).2.1 z
  ·exact(hf b hb).2.2.1 z
 ·have e1':N[i]? =some x:=e1;unfold vC at e2
  by_cases hl:last=i
  ·subst hl;have z:=hN x e1';rcases e3 with e3|e3|e3
   ·obtain⟨k',h1,_⟩:=oB (show(relabel scope X.env).names.lookup x=_ from e3)
    rw[z]at h1;cases h1
   ·obtain⟨k',h1,_⟩:=oB (show(relabel scope X.env).names.lookup x=_ from e3)
    rw[z]at h1;cases h1
   ·obtain⟨k',h1,_⟩:=oB (show(relabel scope X.env).names.lookup x=_ from e3)
    rw[z]at h1;cases h1
  ·rw[M.get_set_ne hl,bJ]at e2;cases e4:cap[i]? with
   | none=>rw[e4]at e2;cases e2
   | some c=>
    rw[e4]at e2;cases c with
    | none=>cases e2
    | some j=>
     have e2':(σ[j]?).join=some v:=by simpa using e2
     have e5:σ[j]? =some (some v):=by
      cases q:σ[j]? with
      | none=>rw[q]at e2';cases e2'
      | some w=>rw[q]at e2';cases w with
       | none=>cases e2'
       | some w'=>cases e2';rfl
     obtain⟨a1,a2,a3⟩:=S.caps i j x e1' e4;have kx:=S.frees _ a2 rfl;obtain⟨m,hn,hl'⟩:=I.loc;have vis:Vis X.env.scope x:=by
      rcases kx with kx|kx
      ·exact .inr (.inl kx)
      ·exact .inr (.inr kx)
     obtain⟨u,r,l⟩:=hl' j x v a1 e5 vis;refine⟨u,r,.inr ⟨?_,?_⟩⟩
     ·have q:=a29 (env:=X.env) a3;show(relabel scope X.env).names.lookup x=_\/(relabel scope X.env).names.lookup x=_;unfold relabel;dsimp only;rw[q];split
      ·exact .inl rfl
      ·exact .inr rfl
     ·rcases l with⟨l,_⟩| ⟨_,c,hc,hcell⟩
      ·rcases kx with kx|kx<;>·rw[kx]at l;cases l
      ·obtain⟨c',hc'⟩:=hcl2 _ a2 rfl;have:=hcl x c' hc';rw[hc]at this;cases this;obtain⟨o,ho,hd⟩:=hcell;exact⟨c,(c3 x a2).trans hc',o,hk _ _ ho,hd⟩
 ·rcases c1 x c h with q| ⟨_,q⟩
  ·obtain⟨v,o,ho,hd⟩:=I.cell x c (hcl x c q);exact⟨v,o,hk _ _ ho,hd⟩
  ·exact⟨_,q⟩
 ·rcases c1 x c h with q| ⟨q,_⟩
  ·exact I.freeC x c (hcl x c q)
  ·exact I.hok.fresh (nM q)
 ·have hp':p∈X.pn++pins:=by
   have:p∈(X.pn++pins)++[]:=hp
   simpa using this
  obtain⟨a1,a2,a3,a4,a5⟩:=I.pin p hp';refine⟨hk _ _ a1,a2,bK<|aQ a1,λz=> ?_,a5⟩
  rcases aY.mp (I.stkSub p.1 z)with z|z
  ·exact a3 z
  ·exact a4 z
 ·unfold vC;rw[fG,aC];exact S.len
theorem bD3 {fp:List Addr}{cl:List (Str×Addr)}{C:Addr}{σ':L2.St}{H':Hp}{s':Shared}{h2:Heap}{pins':List (Addr×Obj)}(I:Inv X pins σ H s)(hf: ∀b∈fp,aP7 X pins H b)(hC:s.heap.objs.size<=C)
  (I':Inv (cB X N scope cl C s H fp pins) pins' σ' H' s') (hs:SameBut C s'.heap h2):Inv X pins σ H' {s' with heap:=h2}:=by
 have nC: ∀b o,s.heap.get? b=some o->b≠C:=λb o e z=>by
  subst z;exact absurd (aX (aQ e) hC) (dI _)
 have get: ∀b,b≠C->h2.get? b=s'.heap.get? b:=λb hb=>hs.2 b hb
 have U:=I'.base;have u:Un (frs X.stack) fp H H' s.heap h2:=by
  refine⟨λb o e n h1 hx=> ?_,λb o e n h1 hx=> ?_,U.free,λb o e hx=> ?_,U.tups,U.frzs,U.tbls⟩
  ·rw[get b<|nC b o e];exact U.keep b o e n h1 hx
  ·rw[get b<|nC b o e];exact U.slot b o e n h1 hx
  ·rw[get b<|nC b o e];exact U.there b o e hx
 have fC:H' C=none:=I'.free;have hok:HOk X.prog X.w H' h2:=λa o e=>by
  have na:a≠C:=λz=>by subst z;rw[fC]at e;cases e
  refine(I'.hok a o e).stay (λb u hb q=> ?_) (λ_ q=>q) λ_ _ q=>q
  have nb:b≠C:=by
   rcases hb with rfl|hb
   ·exact na
   ·exact λz=>by subst z;rw[fC]at hb;cases hb
  rw[get b nb];exact q
 obtain⟨hh,gg,dd,tt,oo⟩:=s';have eo:oo=s.os:=I'.os;subst eo;have fin:=I.call (h':=h2) (g':=gg) (d':=dd) (t':=tt) (ch:=fp) u hok I'.bare λb hb=>⟨(hf b hb).2.2.2.1,(hf b hb).2.1,(hf b hb).2.2.2.2.1,(hf b hb).2.2.2.2.2⟩
 exact fin
end
theorem a30 {prog:Program}{w:World}{A:Around}{R:Result->Shared->Prop}{s:Shared}{elt target iter:Expr}{ifs:List Expr}{scope:Scope}{pos:Pos}{it acc:Value}{env:Env}(I:Nat->Shared->Prop)
  (turn: ∀n s,I n s->wpAny (model prog w) A (pyNext it) (λr s₁=>match r with
   | none=>R (.ok .next) s₁
   | some v=>wpAny (model prog w) A (letOwnedTupleGo target it v) (λ_ s₂=>wpAny (model prog w) A (assign target env v) (λ_ s₂=>
     wpAny (model prog w) A (forIn ifs true λc r=>if r=true then do let ok<-isTrue c env (eval c env);pure (ForInStep.yield ok)else pure (ForInStep.yield r)) (λok s₃=>
      if ok=true then wpAny (model prog w) A (eval elt env) (λx s₄=>
       wpAny (model prog w) A (call (.builtin "list.append") [acc,x]) (λ_ s₅=> ∃m,m<n/\I m s₅) (notedBy (model prog w) A env λe s'=>R (.error e) s') s₄) (notedBy (model prog w) A env λe s'=>R (.error e) s') s₃
      else ∃m,m<n/\I m s₃) (notedBy (model prog w) A env λe s'=>R (.error e) s') s₂) (notedBy (model prog w) A env λe s'=>R (.error e) s') s₂) (notedBy (model prog w) A env λe s'=>R (.error e) s') s₁) (notedBy (model prog w) A env λe s'=>R (.error e) s') s)
  (n:Nat) (h:I n s):codeAny (model prog w) A (.compLoop (.ListComp elt [⟨target,iter,ifs,0⟩] scope pos) 0 it acc env) R s:=by
 refine codeAny_loop rfl I (λn s hI=> ?_) n h
 show wpAny _ A ((compTurn (.ListComp elt [⟨target,iter,ifs,0⟩] scope pos) 0 it acc env).onRaise (λx=>do noteFrame x env;theTreesLotGoes x)) _ _ s
 refine wpAny_noted ?_
 rw[compTurn_list];refine a8 (pT<|a8<|bL (turn n s hI) (λr s₁ h₁=> ?_) λ_ _ h'=>h')
 cases r with
 | none=>exact aI h₁
 | some v=>
  refine a8 (bL h₁ (λ_ s₂ h₂=>a8 (bL h₂ (λ_ s₂ h₂=>a8 (bL h₂ (λok s₃ h₃=> ?_) λ_ _ h'=>h')) λ_ _ h'=>h')) λ_ _ h'=>h')
  cases ok with
  | false=>exact aI ⟨rfl,h₃⟩
  | true=>
   exact a8 (a8<|bL h₃ (λx s₄ h₄=>a8 (bL h₄ (λ_ s₅ h₅=>aI (aI ⟨rfl,h₅⟩)) λ_ _ h'=>h')) λ_ _ h'=>h')
def PTs (X:Cx)(ifs:List Expr)(t:TT):Prop:=
 ∀(pins:List (Addr×Obj)) (s:Shared) (σ:L2.St) (H:Hp) (Q:Bool->Hp->Prop),Inv X pins σ H s->t σ H Q->
  wpAny (model X.prog X.w) X.A (forIn ifs true λc r=>if r=true then do let ok<-isTrue c X.env (eval c X.env);pure (ForInStep.yield ok)else pure (ForInStep.yield r)) (TP X pins σ Q) X.xe s
theorem d37 {X:Cx}:PTs X [] (λ_ H Q=>Q true H):=λpins s σ H Q I h=>wpAny_tests_nil ⟨H,I,h⟩
theorem d38 {X:Cx}{c:Expr}{t:TT}(h:PT X c t):PTs X [c] t:=λpins s σ H Q I q=>wpAny_tests_one (h pins s σ H Q I q)
def c94 (cap:List (Option Nat))(last:Nat)(wi:TI)(g:TG)(tt:TT)(te:TE):TE:=λσ H Q=>wi σ H λJ H1=> ∀D,H1 D=none-> ∃W:Nat->Nat->L2.St->Hp->Prop,(∃m,W 0 m (vC σ cap last D)<|upd H1 D<|.lst [])/\ ∀i m σ' H',W i m σ' H'->
 (J.stop i H'/\Q (.ref D) H')\/(J.go i H'/\ ∃Nx:L2.St->Hp->Prop,(∀σ2 H2,Nx σ2 H2-> ∃m',m'<m/\W (i+1) m' σ2 H2)/\ ∀x H2,J.yld i H' x H2->g x σ' H2 λσ3 H3=>tt σ3 H3 λc H4=>
  if c=true then te σ3 H4 λy H5=> ∃ys,H5 D=some (.lst ys)/\ys.length<sizeLine/\Nx σ3 (upd H5 D<|.lst<|ys++[y])else Nx σ3 H4)
theorem bD4 {X:Cx}{RR:Value->Addr->Result->Shared->Prop}{elt iter tg:Expr}{ifs:List Expr}{scope:Scope}{pos:Pos}{N:List Str}{cap:List (Option Nat)}{last:Nat}{wi:TI}{g:TG}{tt:TT}{te:TE}(hc:X.calm=true)(hi:PI X tg iter wi)(S:gK X.env X.N N cap scope)
  (hN: ∀x,N[last]? =some x->scope.names.lookup x=none)
  (hg: ∀cl C s H fp pins,PG (cB X N scope cl C s H fp pins) tg g) (ht: ∀cl C s H fp pins,PTs (cB X N scope cl C s H fp pins) ifs tt) (he: ∀cl C s H fp pins,PE (cB X N scope cl C s H fp pins) elt te)
  {pins:List (Addr×Obj)} {s:Shared} {σ:L2.St} {H:Hp} {Q:VK} {cl:List (Str×Addr)} (I:Inv X pins σ H s) (h:c94 cap last wi g tt te σ H Q) (hcl: ∀x c,cl.lookup x=some c->X.env.cells.lookup x=some c) (hcl2: ∀y∈scope.names,y.2= .free-> ∃c,cl.lookup y.1=some c)
  (fin: ∀(D:Addr) (fp:List Addr) (H3:Hp) (s3:Shared) (σ':L2.St) (H':Hp) (s':Shared),Inv X pins σ H3 s3->(∀b∈fp,aP7 X pins H3 b)->Inv (cB X N scope (cellsFrom (s3.heap.objs.size+1) scope.names cl) s3.heap.objs.size s3 H3 fp pins) [] σ' H' s'->Q (.ref D) H'->RR (.ref D) s3.heap.objs.size (.ok .next) s') :
  wpAny (model X.prog X.w) X.A (eval iter X.env) (λx s₁=>wpAny (model X.prog X.w) X.A (pyIter x) (λit s₂=>wpAny (model X.prog X.w) X.A (newList []) (λacc s₃=>
   wpAny (model X.prog X.w) X.A (newFunctionEnv scope X.env.globals cl [] X.env.qual none .none<|some X.env) (λcenv s₄=>
    codeAny (model X.prog X.w) X.A (.compStart (.ListComp elt [⟨tg,iter,ifs,0⟩] scope pos) 0 it acc {cenv with scope:=relabel scope X.env}) (RR acc cenv.locals) s₄) X.xe s₃) X.xe s₂) X.xe s₁) X.xe s:=by
 refine thn (hi pins s σ H _ I h) λxv s1 h1=>thn h1 λit s2 h2=> ?_
 obtain⟨ita,fp,tn,J,H2,rfl,I2,T,st2,f2,q⟩:=h2;refine jR ?_ (by show 0<=sizeLine;decide)
 have fD:H2 s2.heap.objs.size=none:=I2.hok.fresh (aB _);obtain⟨W,⟨m0,w0⟩,turn⟩:=q s2.heap.objs.size fD;have I3:Inv X pins σ (upd H2 s2.heap.objs.size<|.lst []) {s2 with heap:=s2.heap.push {cls:= .type "list",data:= .seq ([]:List Value).toArray}}:=I2.lnew (t':=s2.toks) .nil (eO _);have fpne: ∀b∈fp,b≠s2.heap.objs.size:=λb hb=>by
  obtain⟨o,ho,_⟩:=T.obj 0 _ st2 b hb;exact bK (aQ ho)
 have f3: ∀b∈fp,aP7 X pins (upd H2 s2.heap.objs.size<|.lst []) b:=λb hb=>⟨by rw[cE<|fpne b hb];exact(f2 b hb).1,(f2 b hb).2⟩
 have k23: ∀b o,s2.heap.get? b=some o->(s2.heap.push {cls:= .type "list",data:= .seq ([]:List Value).toArray}).get? b=some o:=λb o e=>aO _ e
 have st3:tn 0 (s2.heap.push {cls:= .type "list",data:= .seq ([]:List Value).toArray}):=T.keep 0 _ _ st2 λb hb o e=>k23 b o e
 have fps: ∀b∈fp,b< (s2.heap.push {cls:= .type "list",data:= .seq ([]:List Value).toArray}).objs.size:=λb hb=>by
  obtain⟨o,ho,_⟩:=T.obj 0 _ st3 b hb;exact aQ ho
 generalize hS3:({s2 with heap:=s2.heap.push {cls:= .type "list",data:= .seq ([]:List Value).toArray}}:Shared)=s3 at I3;have hh3:s3.heap=s2.heap.push {cls:= .type "list",data:= .seq ([]:List Value).toArray}:=by rw[<-hS3]
 rw[<-hh3]at st3 fps;refine bI4 ?_;have sz3:(s3.heap.push {cls:= .type "dict",data:= .dict #[]}).objs.size=s3.heap.objs.size+1:=j3 ..;have hns₁:(pushCells (s3.heap.push {cls:= .type "dict",data:= .dict #[]}) scope.names).Ns s3.heap.objs.size (λ_=>none):=(Heap.Ns.new s3.heap<|.type "dict").keeps (aG7 _ _)
 have k34: ∀b o,s3.heap.get? b=some o->(pushCells (s3.heap.push {cls:= .type "dict",data:= .dict #[]}) scope.names).get? b=some o:=λb o e=>aG7 _ _ _ _ (aO _ e)
 have I4:=bR1 (tk:=s3.toks) (last:=last) (D:=s2.heap.objs.size) (cl:=cellsFrom (s3.heap.objs.size+1) scope.names cl) S I3 f3 fps hcl hcl2 hN hns₁ k34
  (λx c e=>by
   rw[<-sz3]at e;rcases aQ2 _ _ _ e with q| ⟨q1,_,q3⟩
   ·exact .inl q
   ·exact .inr ⟨ad,q3⟩)
  (aQ3 _ _ _ (λx c e=>by
   obtain⟨v,q⟩:=I3.cell x c (hcl x c e);exact kQ q.lt) λx y c e1 e2=>I3.ok.inj x y c (hcl x c e1) (hcl y c e2))
  (λx m=>cells_keep _ _ _ λm'=>by
   have h1:=S.owns _ m' rfl;have h2:=S.freeK _ m rfl;rw[h1]at h2;cases h2)
  (λx e=>Option.isSome_iff_exists.mp (aD9 _ _ _<|.inl e))
  (λx c e1 e2=>by
   have:=sW scope.names (s3.heap.objs.size+1) cl (.inl<|pI e1) e2
   lia)
 have st4:tn 0 (pushCells (s3.heap.push {cls:= .type "dict",data:= .dict #[]}) scope.names):=T.keep 0 _ _ st3 λb hb o e=>k34 b o e
 generalize hcl':cellsFrom (s3.heap.objs.size+1) scope.names cl=cl' at I4;have loop:codeAny (model X.prog X.w) X.A (.compLoop (.ListComp elt [⟨tg,iter,ifs,0⟩] scope pos) 0 (.ref ita) (.ref s2.heap.objs.size)<|compEnvC scope cl' s3.heap.objs.size X.env)
   (RR (.ref s2.heap.objs.size) s3.heap.objs.size) {s3 with heap:=pushCells (s3.heap.push {cls:= .type "dict",data:= .dict #[]}) scope.names,toks:=s3.toks}:=by
  have stat: ∀{H':Hp},(∀b∈fp,H' b=none)-> ∀b∈fp,aP7 (cB X N scope cl' s3.heap.objs.size s3 (upd H2 s2.heap.objs.size<|.lst []) fp pins) [] H' b:=λ{H'} hn b hb=>by
   refine⟨hn b hb,bK<|fps b hb,λz=> ?_,.inl hb,λx c e=>(I4.ok.exf b hb).2 x c e,λp hp=> ?_⟩
   ·rcases aY.mp (I3.stkSub b z)with z|z
    ·exact(f3 b hb).2.1 z
    ·exact(f3 b hb).2.2.1 z
   ·have:p∈(X.pn++pins)++[]:=hp;exact(f3 b hb).2.2.2.2.2 p (by simpa using this)
  have hcb:(cB X N scope cl' s3.heap.objs.size s3 (upd H2 s2.heap.objs.size<|.lst []) fp pins).calm=true:=hc;refine a30 (λn s'=> ∃i σ' H',Inv (cB X N scope cl' s3.heap.objs.size s3 (upd H2 s2.heap.objs.size<|.lst []) fp pins) [] σ' H' s'/\tn i s'.heap/\(∀b∈fp,H' b=none)/\W i n σ' H') ?_ m0 ⟨0,_,_,I4,st4,λb hb=>(f3 b hb).1,w0⟩
  rintro n s5 ⟨i,σ5,H5,I5,st5,fr5,w5⟩;rcases turn i n σ5 H5 w5 with⟨stop,qn⟩| ⟨go,Nx,hNx,step⟩
  ·refine bL (T.done (cB X N scope cl' s3.heap.objs.size s3 (upd H2 s2.heap.objs.size<|.lst []) fp pins) rfl rfl rfl hcb i [] s5 σ5 H5 (λ_ _=>False) I5 (stat fr5) st5 stop) (λr s6 hr=> ?_) (λ_ _ z=>z.elim)
   obtain⟨rfl,I6⟩:=hr;exact fin _ fp _ s3 σ5 H5 s6 I3 f3 (hcl'▸I6) qn
  ·refine bL (T.item (cB X N scope cl' s3.heap.objs.size s3 (upd H2 s2.heap.objs.size<|.lst []) fp pins) rfl rfl rfl hcb i [] s5 σ5 H5 (λ_ _=>False) I5 (stat fr5) st5 go) (λr s6 hr=> ?_) (λ_ _ z=>z.elim)
   obtain⟨u,rfl,h6⟩:=hr;refine bL h6 (λ_ s7 h7=> ?_) (λ_ _ z=>z.elim)
   obtain⟨x,H7,I7,r7,y7,st7,fr7⟩:=h7;have I7':=I7.pinned (stat fr7) (T.obj _ _ st7);refine bL (hg _ _ _ _ _ _ _ s7 σ5 H7 x u _ I7' r7<|step x H7 y7) (λ_ s8 h8=> ?_) (λ_ _ z=>False.elim z)
   obtain⟨σ8,H8,I8,q8⟩:=h8;have again: ∀{σ9:L2.St} {H9:Hp} {s9:Shared},Inv (cB X N scope cl' s3.heap.objs.size s3 (upd H2 s2.heap.objs.size<|.lst []) fp pins) ([]++aZ5 fp s7.heap) σ9 H9 s9->Nx σ9 H9-> ∃m,m<n/\ ∃i σ' H',Inv (cB X N scope cl' s3.heap.objs.size s3 (upd H2 s2.heap.objs.size<|.lst []) fp pins) [] σ' H' s9/\tn i s9.heap/\(∀b∈fp,H' b=none)/\W i m σ' H':=λ{σ9 H9 s9} I9 n9=>by
    obtain⟨m',hm,w9⟩:=hNx σ9 H9 n9;refine⟨m',hm,i+1,σ9,H9,I9.unpinned,T.keep _ _ _ st7 λb hb o e=>(I9.pin (b,o)<|fT _<|fT _<|yU hb e).1,λb hb=> ?_,w9⟩
    obtain⟨o,e,d⟩:=T.obj _ _ st7 b hb;exact(I9.pin (b,o)<|fT _<|fT _<|yU hb e).2.1
   refine bL (ht _ _ _ _ _ _ _ s8 σ8 H8 _ I8 q8) (λc s9 h9=> ?_) (λ_ _ z=>False.elim z)
   obtain⟨H9,I9,q9⟩:=h9;cases c with
   | false=>exact again I9 q9
   | true=>
    rw[a7 rfl]at q9⊢;refine bL (he _ _ _ _ _ _ _ s9 σ8 H9 _ I9 q9) (λv s10 h10=> ?_) (λ_ _ z=>False.elim z)
    obtain⟨y,H10,I10,r10,ys,e10,z10,q10⟩:=h10;refine bL (bC8 (X:=(cB X N scope cl' s3.heap.objs.size s3 (upd H2 s2.heap.objs.size<|.lst []) fp pins)) _ s10 σ8 H10 (.ref s2.heap.objs.size) [y] (.ref s2.heap.objs.size) [v] (λv H=>v= .non/\Nx σ8 H) I10 rfl (.cons r10 .nil) ⟨_,ys,y,rfl,rfl,e10,z10,rfl,q10⟩) (λ_ s11 h11=> ?_) (λ_ _ z=>False.elim z)
    obtain⟨_,H11,I11,_,_,q11⟩:=h11;exact again I11 q11
 exact codeAny_compStart_list loop (T.self _ 0 _ _ _ st4 loop)
theorem aA9 {X:Cx}{N:List Str}{cap:List (Option Nat)}{scope:Scope}{pins:List (Addr×Obj)}{s:Shared}{σ:L2.St}{H:Hp}(S:gK X.env X.N N cap scope)(I:Inv X pins σ H s) :
  ∃cl,closureFor scope X.env=pure cl/\(∀x c,cl.lookup x=some c->X.env.cells.lookup x=some c)/\ ∀y∈scope.names,y.2= .free-> ∃c,cl.lookup y.1=some c:=by
 obtain⟨cl,h1,h2,_,h4⟩:=yX (env:=X.env) scope.names (λy hy hf=>I.ok.has y.1 (S.frees y hy hf)) [] (λx c q=>by simp at q)
 refine⟨cl,?_,h2,h4⟩
 have e:closureFor scope X.env=(forIn scope.names [] fun(x:Str×NameKind) r=>(do if(x.2==NameKind.free)=true then do let c<-cellOf X.env x.1;pure (ForInStep.yield ((x.1,c)::r))else pure (ForInStep.yield r)):Sem (List<|Str×Addr)) >>= λr=>pure r:=by
  rfl
 rw[e,h1];rfl
theorem d39 {X:Cx}{elt iter tg:Expr}{ifs:List Expr}{scope:Scope}{pos:Pos}{N:List Str}{cap:List (Option Nat)}{last:Nat}{wi:TI}{g:TG}{tt:TT}{te:TE}(hc:X.calm=true)(hi:PI X tg iter wi)(S:gK X.env X.N N cap scope)
  (hN: ∀x,N[last]? =some x->scope.names.lookup x=none)
  (hg: ∀cl C s H fp pins,PG (cB X N scope cl C s H fp pins) tg g) (ht: ∀cl C s H fp pins,PTs (cB X N scope cl C s H fp pins) ifs tt) (he: ∀cl C s H fp pins,PE (cB X N scope cl C s H fp pins) elt te)
  (hs: ∀x,foldedSetIterable iter X.env x=pure x:=by intro _;rfl):PE X (.ListComp elt [⟨tg,iter,ifs,0⟩] scope pos) (c94 cap last wi g tt te):=by
 intro pins s σ H Q I h;rw[eval_ListComp];obtain⟨cl,hcl0,hcl,hcl2⟩:=aA9 S I;refine wpAny_comprehension_free (use:=none) rfl hs hcl0 S.kind S.names ?_;refine bD4 (RR:=λacc C=>compPost (model X.prog X.w) X.A X.xe none (EP X pins σ Q) acc C) hc hi S hN hg ht he I h hcl hcl2 λD fp H3 s3 σ' H' s' I3 f3 I' q=> ?_
 obtain⟨m6,hn6,_⟩:=I'.loc;exact⟨m6,hn6,λh' hs'=>⟨.ref D,H',bD3 I3 f3 (aB _) I' hs',rfl,q⟩⟩
theorem c21 {X:Cx}{elt iter tg:Expr}{ifs:List Expr}{scope:Scope}{pos spos py:Pos}{y:Str}{i:Nat}{N:List Str}{cap:List (Option Nat)}{last:Nat}{wi:TI}{g:TG}{tt:TT}{te:TE}(hc:X.calm=true)(hi:PI X tg iter wi)(S:gK X.env X.N N cap scope)
  (hN: ∀x,N[last]? =some x->scope.names.lookup x=none)
  (hg: ∀cl C s H fp pins,PG (cB X N scope cl C s H fp pins) tg g) (ht: ∀cl C s H fp pins,PTs (cB X N scope cl C s H fp pins) ifs tt) (he: ∀cl C s H fp pins,PE (cB X N scope cl C s H fp pins) elt te)
  (hy:PG X (.Name y py) (aK6 i)) (hsw:swapsWith (.ListComp elt [⟨tg,iter,ifs,0⟩] scope pos) (some<|.Name y py) spos.line X.env=pure true:=by rfl)
  (hs: ∀x,foldedSetIterable iter X.env x=pure x:=by intro _;rfl):PS X (.Assign [.Name y py] (.ListComp elt [⟨tg,iter,ifs,0⟩] scope pos) spos) (d09 (c94 cap last wi g tt te)<|aK6 i):=by
 intro pins s σ H D I h;rw[exec_Assign_Name_used _ _ _ _ hsw];refine a8 (pT<|a8 ?_);obtain⟨cl,hcl0,hcl,hcl2⟩:=aA9 S I;show wpAny _ X.A (do let _<-comprehension (.ListComp elt [⟨tg,iter,ifs,0⟩] scope pos) scope X.env _ (newList []) false (eval iter X.env) (some<|assign (.Name y py) X.env)) _ _ s
 refine a8 (bL (wpAny_comprehension_free (use:=some (assign (.Name y py) X.env)) (Q:=λ_ s'=>SP X pins D .next s') rfl hs hcl0 S.kind S.names ?_) (λ_ s' hq=>aI (aI hq)) λ_ _ e=>e)
 refine bD4 (RR:=λacc C=>compPost (model X.prog X.w) X.A X.xe (some<|assign (.Name y py) X.env) (λ_ s'=>SP X pins D .next s') acc C) hc hi S hN hg ht he I h hcl hcl2 λD' fp H3 s3 σ' H' s' I3 f3 I' q=> ?_
 obtain⟨m6,hn6,_⟩:=I'.loc;obtain⟨o6,es6,ep6,ho6,rest6⟩:=id hn6;have J:Inv X pins σ H' s':=bD3 (h2:=s'.heap) I3 f3 (aB _) I' (.refl ..);have fC:H' s3.heap.objs.size=none:=I'.free;have neL:s3.heap.objs.size≠X.env.locals:=pY I3.lt;have neF:s3.heap.objs.size ∉ X.fs:=I3.nofs (aB _);have neC: ∀x c,X.env.cells.lookup x=some c->c≠s3.heap.objs.size:=λx c e z=>by
  obtain⟨v,qq⟩:=I3.cell x c e;exact absurd (aX qq.lt (by rw[z];exact aB _)) (dI _)
 have neP: ∀p∈X.pn++pins,p.1≠s3.heap.objs.size:=λp hp z=>by
  have:=aQ (I3.pin p hp).1;rw[z]at this;exact dI _ this
 have nd: ∀v,o6.data≠ .cell v:=λv z=>by
  have:o6.data= .dict es6 ep6:=rest6.1;rw[this]at z;cases z
 have J':Inv X (pins++[(s3.heap.objs.size,o6)]) σ H' s':=J.pins_of λp hp=>(bC.mp hp).elim (λz=>J.pin p (fT _ z)) λz=>by
  have e:p=(s3.heap.objs.size,o6):=by simpa using z
  subst e;exact⟨ho6,fC,neL,neF,nd⟩
 show wpAny _ X.A (assign (.Name y py) X.env<|.ref D') _ _ _
 refine thn (hy _ s' σ H' (.ref D') (.ref D') D.nx J' rfl q) λ_ s7 ⟨σ7,H7,I7,q7⟩=> ?_
 obtain⟨e7,n7,_⟩:=I7.pin (s3.heap.objs.size,o6) (fT _<|fT _ ae)
 refine⟨m6,⟨o6,es6,ep6,e7,rest6⟩,λh' hs'=> ?_⟩
 have I8:=I7.unpinned;exact⟨σ7,H7,I8.turned (t':=s7.toks) (λb o hb e=>(hs'.2 b hb).trans e) n7 neL (.inr<|aL I3.sz<|aB _) neC neP,q7⟩
end L2
namespace M
open PySem PySem.Spec PyProof.Rows L2
noncomputable def d40:B->B
 | .pu d=> .pu d
 | .ow l=> .bo l
 | .bo l=> .bo l
noncomputable def sF (ρ:Ev)(cap:List (Option Nat))(last:Nat):Ev:=(cap.map λc=>c.bind λj=>((ρ[j]?).join).map d40).set last (some<|.ow [])
noncomputable def d41 (ρ:Ev)(j:Nat):Ev:=match ρ[j]? with
 | some (some<|.ow l)=>ρ.set j (some<|.pu<|.lst l)
 | _=>ρ
noncomputable def a31:Ev->List Nat->Ev
 | ρ,[]=>ρ
 | ρ,j::js=>a31 (d41 ρ j) js
theorem cO6 (ρ:Ev)(j:Nat):Frz ρ (d41 ρ j):=by
 unfold d41;split
 ·rename_i l e
  exact .set e
 ·exact .refl _
theorem bR2: ∀(js:List Nat) (ρ:Ev),Frz ρ (a31 ρ js)
 | [],ρ=> .refl _
 | j::js,ρ=>(cO6 ρ j).trans (bR2 js _)
def gD (js:List Nat)(cap:List (Option Nat))(last:Nat)(ui:UI)(g:UG)(tt:UT)(te:UE):UE:=λρ Q=>ui ρ λn it ρ1=> ∃Pv:Nat->Ev->Prop,Pv 0 (sF (a31 ρ1 js) cap last)/\
 (∀i ρ',i<n->Pv i ρ'->g (.pu<|it i) ρ' λρ2=>tt ρ2 λc ρ3=>if c=true then te ρ3 λb ρ4=>nX ρ4 last λl=>l.length<sizeLine/\Pv (i+1) (ρ4.set last<|some<|.ow<|l++[b.d])else Pv (i+1) ρ3)/\
 ∀ρ',Pv n ρ'->nX ρ' last λl=>Q (.ow l) (a31 ρ1 js)
section
variable {X:Cx}{K:Frag}{C:C0}{ρ ρ':Ev}{σ σ':L2.St}{H H':Hp}
theorem cap_ok {cap:List (Option Nat)}{last:Nat}{Dn:Addr}(I:EOk K C ρ σ H)(hl:last<cap.length)(n:H Dn=none) :
  EOk K ⟨H,Av C ρ σ⟩ (sF ρ cap last) (vC σ cap last Dn) (upd H Dn<|.lst []):=by
 have pu: ∀(i:Nat) (z:B),last≠i->(sF ρ cap last)[i]? =some (some z)-> ∃(j:Nat) (z':B),cap[i]? =some (some j)/\z=d40 z'/\ρ[j]? =some (some z'):=λi z ne h=>by
  unfold sF at h;rw[get_set_ne ne,bJ]at h;cases e4:cap[i]? with
  | none=>rw[e4]at h;cases h
  | some c=>
   rw[e4]at h;cases c with
   | none=>cases h
   | some j=>
    have h':((ρ[j]?).join).map d40=some z:=by simpa using h
    cases q:ρ[j]? with
    | none=>rw[q]at h';cases h'
    | some w=>
     rw[q]at h';cases w with
     | none=>cases h'
     | some w'=>cases h';exact⟨j,w',rfl,rfl,q⟩
 have sgm: ∀(i j:Nat) (v:V),last≠i->cap[i]? =some (some j)->σ[j]? =some (some v)->(vC σ cap last Dn)[i]? =some (some v):=λi j v e e1 h1=>by
  unfold vC;rw[get_set_ne e,bJ,e1];show some ((σ[j]?).join)=_;rw[h1];rfl
 have atl:(sF ρ cap last)[last]? =some (some<|.ow []):=by
  unfold sF;exact j8 (by rw[aC];exact hl)
 have sal:(vC σ cap last Dn)[last]? =some (some<|.ref Dn):=by
  unfold vC;exact j8 (by rw[aC];exact hl)
 have noOw: ∀(i:Nat) (l:List D),last≠i->(sF ρ cap last)[i]? ≠some (some<|.ow l):=λi l e h=>by
  obtain⟨j,z',_,z,_⟩:=pu i _ e h;cases z'<;>cases z
 have own: ∀a,Own (sF ρ cap last) (vC σ cap last Dn) a->a=Dn:=λa ⟨i,l,h1,h2⟩=>by
  by_cases e:last=i
  ·subst e;rw[sal]at h2;cases h2;rfl
  ·exact absurd h1 (noOw i l e)
 have P:mJ (Av C ρ σ) H (Av ⟨H,Av C ρ σ⟩ (sF ρ cap last)<|vC σ cap last Dn) (upd H Dn<|.lst []):=λb o nb e=>by
  have ne:b≠Dn:=λz=>by subst z;rw[n]at e;cases e
  refine⟨?_,by rw[cE ne];exact e⟩
  rintro(z|z)
  ·exact nb z
  ·exact ne (own b z)
 refine⟨by unfold sF vC;rw[fG,fG,aC,aC],λi d h=> ?_,λi l h=> ?_,λi j l l' a h1 h2 h3 h4=> ?_,λi l h=> ?_,fB n _,λa z=>I.avSome z⟩
 ·by_cases e:last=i
  ·subst e;rw[atl]at h;cases h
  ·obtain⟨j,z',e1,z,e2⟩:=pu i _ e h;cases z' with
   | pu d'=>
    cases z;obtain⟨v,h1,h2⟩:=I.pu j d e2;exact⟨v,sgm i j v e e1 h1,h2.mono P⟩
   | ow l=>cases z
   | bo l=>cases z
 ·by_cases e:last=i
  ·subst e;rw[atl]at h;cases h;exact⟨Dn,[],sal,iT,n,.nil⟩
  ·exact absurd h (noOw i l e)
 ·have e1:last=i:=xP λe=>absurd h1 (noOw i l e)
  have e2:last=j:=xP λe=>absurd h2 (noOw j l' e)
  exact e1.symm.trans e2
 ·by_cases e:last=i
  ·subst e;rw[atl]at h;cases h
  ·obtain⟨j,z',e1,z,e2⟩:=pu i _ e h;cases z' with
   | pu d'=>cases z
   | ow l'=>
    cases z;obtain⟨a,vs,h1,h2,h3,h4⟩:=I.ow j l e2;exact⟨a,vs,sgm i j _ e e1 h1,.inr ⟨j,l,e2,h1⟩,h2,h4.mono P⟩
   | bo l'=>
    cases z;obtain⟨a,vs,h1,h2,h3,h4⟩:=I.bo j l e2;exact⟨a,vs,sgm i j _ e e1 h1,.inl h2,I.ext _ _ h3,h4.mono P⟩
theorem dD6 {js:List Nat}{cap:List (Option Nat)}{last:Nat}{ui:UI}{g:UG}{T:List Nat}{tt:UT}{te:UE}(hl:last<cap.length)(hT:last ∉ T)(σ:L2.St)(H:Hp)(Q:VK)(h:lE K (gD js cap last ui g tt te) σ H Q) :
  c94 cap last (lI K ui) (lG K T g) (lT K tt) (lE K te) σ H Q:=by
 obtain⟨C,ρ,Q0,I,h,k⟩:=h;refine⟨C,ρ,_,I,h,λn it ρ1 J H1 q f s ok Dn nD=> ?_⟩
 obtain⟨Pv,p0,turn,fin⟩:=q;have fz:=bR2 js ρ1;have I1:EOk K C (a31 ρ1 js) σ H1:=((I.frz f).same s).frz fz;generalize a31 ρ1 js=ρ2 at fz I1 p0 fin;have P12: ∀{A':AS} {H':Hp},mJ (Av C ρ2 σ) H1 A' H'->mJ (Av C ρ1 σ) H1 A' H':=λp b o nb e=>p b o (λz=>nb (fz.av z)) e
 have I2:=cap_ok I1 hl nD;have own0: ∀{ρ':Ev} {σ':L2.St} {H':Hp},EOk K ⟨H1,Av C ρ2 σ⟩ ρ' σ' H'->mJ (Av C ρ2 σ) H1 (Av ⟨H1,Av C ρ2 σ⟩ ρ' σ') H':=λ{ρ' σ' H'} J' b o nb e=>by
  refine⟨?_,J'.ext b o e⟩
  rintro(z| ⟨i,l,h1,h2⟩)
  ·exact nb z
  ·obtain⟨a,vs,h3,h4,h5,_⟩:=J'.ow i l h1;rw[h2]at h3;cases h3;have e':(⟨H1,Av C ρ2 σ⟩:C0).H0 b=some o:=e;rw[h5]at e';cases e'
 have sal:(vC σ cap last Dn)[last]? =some (some<|.ref Dn):=by
  unfold vC;exact j8 (by rw[aC];exact hl)
 refine⟨λi m σ' H'=>m=n-i/\i<=n/\σ'[last]? =some (some<|.ref Dn)/\ ∃ρ',EOk K ⟨H1,Av C ρ2 σ⟩ ρ' σ' H'/\Pv i ρ',⟨n,rfl,eO _,sal,_,I2,p0⟩,?_⟩
 rintro i m σ' H' ⟨rfl,hi,hlast,ρ',J',p'⟩;have P:=P12 (own0 J')
 by_cases hlt:i<n
 ·refine .inr ⟨ok.go _ _ i P hlt,λσ2 H2=>σ2[last]? =some (some<|.ref Dn)/\ ∃ρ3,EOk K ⟨H1,Av C ρ2 σ⟩ ρ3 σ2 H2/\Pv (i+1) ρ3,λσ2 H2 z=>⟨n-(i+1),aa,rfl,hlt,z⟩,λx H2 y=> ?_⟩
  obtain⟨s2,r2⟩:=ok.yld _ _ i x H2 P (λa z=>J'.avSome z) hlt y
  refine⟨_,ρ',.pu<|it i,H',_,J',s2,r2,turn i ρ' hlt p',λρ3 σ3 H3 q3 J3 same3=> ?_⟩
  have l3:σ3[last]? =some (some<|.ref Dn):=(same3 last hT).trans hlast;refine⟨_,ρ3,_,J3,q3,λc ρ4 H4 q4 f4 s4=> ?_⟩
  have J4:=(J3.frz f4).same s4;cases c with
  | false=>
   dsimp only at q4⊢;rw[a6 bI]at q4⊢;exact⟨l3,ρ4,J4,q4⟩
  | true=>
   dsimp only at q4⊢;rw[a7 rfl]at q4⊢;refine⟨_,ρ4,_,J4,q4,λb ρ5 v H5 q5 f5 s5 r5=> ?_⟩
   have J5:=(J4.frz f5).same s5;obtain⟨l,hl5,hz,q5⟩:=lH q5;obtain⟨a,vs,g1,g2,g3,g4⟩:=J5.ow last l hl5;rw[l3]at g1;cases g1;refine⟨vs,g2,by rw[<-g4.length];exact hz,l3,_,J5.write hl5 l3<|g4.append<|.cons (r5.rep λa z=>J4.avF f5 z) .nil,q5⟩
 ·have e:i=n:=aa
  subst e;obtain⟨l,hl5,q5⟩:=lH (fin ρ' p');obtain⟨a,vs,g1,g2,g3,g4⟩:=J'.ow last l hl5;rw[hlast]at g1;cases g1;refine .inl ⟨ok.stop _ _ P,k _ _ _ _ q5 (f.trans fz) (s.trans J'.ext) ⟨Dn,vs,rfl,s.free nD,g2,?_⟩⟩;refine g4.mono λb o nb e=>⟨?_,e⟩
  rintro(z|z)
  ·exact nb (.inl z)
  ·subst z;exact nb (.inr ⟨last,l,hl5,hlast⟩)
theorem i5: ∀{X:Cx},PTs X [] (lT X.K λρ Q=>Q true ρ):=λ{X} pins s σ H Q I ⟨C,ρ,Q0,J,h,k⟩=>d37 pins s σ H Q I (k _ ρ H h (.refl _)<|.refl _)
theorem d42 {c:Expr}{t:UT}(h:PUT X c t):PTs X [c] (lT X.K t):=d38 h
theorem d43 {elt iter tg:Expr}{ifs:List Expr}{scope:Scope}{pos:Pos}{N:List Str}{js:List Nat}{cap:List (Option Nat)}{last:Nat}{ui:UI}{g:UG}{T:List Nat}{tt:UT}{te:UE}(hc:X.calm=true)(hi:PUI X tg iter ui)(S:gK X.env X.N N cap scope)
  (hN: ∀x,N[last]? =some x->scope.names.lookup x=none) (hl:last<cap.length) (hT:last ∉ T)
  (hg: ∀cl C s H fp pins,PUG (cB X N scope cl C s H fp pins) tg T g) (ht: ∀cl C s H fp pins,PTs (cB X N scope cl C s H fp pins) ifs<|lT X.K tt) (he: ∀cl C s H fp pins,PU (cB X N scope cl C s H fp pins) elt te)
  (hs: ∀x,foldedSetIterable iter X.env x=pure x:=by intro _;rfl):PU X (.ListComp elt [⟨tg,iter,ifs,0⟩] scope pos) (gD js cap last ui g tt te):=
 kC (d39 (g:=lG X.K T g) (tt:=lT X.K tt) (te:=lE X.K te) hc hi S hN hg ht he hs) (dD6 hl hT)
theorem c22 {elt iter tg:Expr}{ifs:List Expr}{scope:Scope}{pos spos py:Pos}{y:Str}{N:List Str}{js:List Nat}{cap:List (Option Nat)}{last:Nat}{ui:UI}{g:UG}{T:List Nat}{tt:UT}{te:UE}(i:Nat)(hc:X.calm=true)(hi:PUI X tg iter ui)(S:gK X.env X.N N cap scope)
  (hN: ∀x,N[last]? =some x->scope.names.lookup x=none) (hl:last<cap.length) (hT:last ∉ T)
  (hg: ∀cl C s H fp pins,PUG (cB X N scope cl C s H fp pins) tg T g) (ht: ∀cl C s H fp pins,PTs (cB X N scope cl C s H fp pins) ifs<|lT X.K tt) (he: ∀cl C s H fp pins,PU (cB X N scope cl C s H fp pins) elt te)
  (hy:PG X (.Name y py) (aK6 i)) (hi': ∀pins σ H s,Inv X pins σ H s->i<σ.length) (hsw:swapsWith (.ListComp elt [⟨tg,iter,ifs,0⟩] scope pos) (some<|.Name y py) spos.line X.env=pure true:=by rfl)
  (hs: ∀x,foldedSetIterable iter X.env x=pure x:=by intro _;rfl):PUS X (.Assign [.Name y py] (.ListComp elt [⟨tg,iter,ifs,0⟩] scope pos) spos) (bX i<|gD js cap last ui g tt te):=by
 intro pins s σ H D I q;refine c21 (g:=lG X.K T g) (tt:=lT X.K tt) (te:=lE X.K te) hc hi S hN hg ht he hy hsw hs pins s σ H D I ?_;obtain⟨C,ρ,D0,J,h,k⟩:=q;exact dD6 hl hT σ H _ ⟨C,ρ,_,J,h,λb ρ1 v H1 q f s1 r=>k.nx _ _ _ q ((J.frz f).store s1 r<|hi' pins σ H s I)⟩
end
end M
end
section
namespace L2
open PySem PySem.Spec PyProof.Rows
section
variable {X:Cx}
theorem d44 {bs:List Bool}: ∀{its:List Value},Vals (bs.map V.bl) its->LSm.BoolsAre its bs:=by
 induction bs with
 | nil=>intro its r;cases r;exact .nil
 | cons b bs ih=>
  intro its r;cases r with
  | cons r1 r2=>
   cases r1;exact .cons b (ih r2)
theorem c23 (hc:X.calm=true):sD X (.builtin "all") (λxs H Q=> ∃(p:Addr) (bs:List Bool),xs=[.ref p]/\SqL X.K H p (bs.map V.bl)/\Q (.bl<|bs.all id) H):=by
 intro pins s σ H xs us Q I r h;obtain⟨p,bs,rfl,hq,q⟩:=h;obtain⟨u,rfl,rx⟩:=vals1 r;cases rx;obtain⟨its,rv,pl,hz⟩:=I.list hq;have ba:=d44 rv;refine call_all_walk (aG0 pl.isList ?_);have hne:p≠s.heap.objs.size:=by
  obtain⟨o,n,e,_⟩:=pl;exact bK (aQ e)
 refine⟨s.heap.objs.size,_,_,_,_,_,λi=>(bs[i]?).getD true,rfl,Walks.list (A:=X.A.in1) (I.ok.hd hc) s.heap.objs.size p (λz=>hne z) its.toArray,⟨⟨_,bY _ rfl,rfl,rfl⟩,pl.isList.push _⟩,?_,λh' tk hk=> ?_⟩
 ·intro i v s' Q' E' hP hQ;obtain⟨b,hb,rfl⟩:=ba.get i v (by simpa using hP)
  refine y9 ?_
  have e:(λi=>(bs[i]?).getD true) i=b:=by simp[hb]
  dsimp only at hQ;rw[hb]at hQ;exact hQ
 ·have e:=LSm.range_all bs;have hl:=ba.length;have e2:its.toArray.size=bs.length:=by rw[b9,hl]
  rw[e2,e];exact⟨.bl<|bs.all id,H,I.kept λb o e=>hk b o (by simpa using bK (aQ e)) (aO _ e),rfl,q⟩
theorem c24 (hc:X.calm=true):sD X (.builtin "sum") (λxs H Q=> ∃(p:Addr) (ns:List Int),xs=[.ref p]/\SqL X.K H p (ns.map V.int)/\Q (.int ns.sum) H):=by
 intro pins s σ H xs us Q I r h;obtain⟨p,ns,rfl,hq,q⟩:=h;obtain⟨u,rfl,rx⟩:=vals1 r;cases rx;obtain⟨its,rv,pl,hz⟩:=I.list hq;have hi:IntsAre its ns:=by simpa using intsAre_of rv
 obtain⟨xs,hx⟩:=hi.allInts.items;have hl':s.heap.IsList p (intItems xs):=hx▸pl.isList;refine sum_intListG (I.ok.hd hc) hl' λh' tk t' hk=> ?_
 have e1:ns=xs.toList.map (·.1):=by
  rw[<-nums_intItems,<-hx];exact(show numsOf its.toArray.toList=ns from hi.numsOf).symm
 have e2:preSum (numAt xs) xs.size=ns.sum:=by
  rw[preSum_eq,xS ae,e1]
 rw[e2];exact⟨.int ns.sum,H,I.kept hk,⟨_,rfl⟩,q⟩
noncomputable def x8 (esc:List (Str×NameKind))(XN N:List Str)(cap:List (Option Nat))(scope:Scope)(last:Nat):Bool:=
 (scope.kind== .function)&&scope.names.all (λy=>y.2 != .cell||scope.names.lookup y.1==some .cell)&&scope.names.all (λy=>y.2 != .free||scope.names.lookup y.1==some .free)&&scope.names.all (λy=>y.2 != .local||scope.names.lookup y.1==some .local)&&
 scope.names.all (λy=>y.2 != .free||esc.lookup y.1==some .cell||esc.lookup y.1==some .free)&&
 (N.zip cap).all (λz=>match z.2 with|none=>true|some j=>XN[j]? ==some z.1&&scope.names.contains (z.1,.free)&&scope.names.lookup z.1==some .free)&&
 (cap.length==N.length)&&(match N[last]? with|some x=>(scope.names.lookup x).isNone|none=>true)
theorem gK.of {env:Env}{esc:List (Str×NameKind)}{XN N:List Str}{cap:List (Option Nat)}{scope:Scope}{last:Nat}(he:env.scope.names=esc)(h:x8 esc XN N cap scope last=true) :
  gK env XN N cap scope/\ ∀x,N[last]? =some x->scope.names.lookup x=none:=by
 unfold x8 at h;simp only[dS,dD,gJ]at h;obtain⟨⟨⟨⟨⟨⟨⟨h1,h2⟩,h2'⟩,h3⟩,h4⟩,h5⟩,h6⟩,h7⟩:=h;have hk: ∀x,env.kindOf x=esc.lookup x:=λx=>by unfold Env.kindOf;rw[he]
 refine⟨⟨h1,λy hy hl=>by have:=h2 y hy;rw[hl]at this;simpa using this,λy hy hl=>by have:=h2' y hy;rw[hl]at this;simpa using this,λy hy hl=> ?_,λy hy hf=> ?_,λi j x e1 e2=> ?_,h6⟩,λx e=> ?_⟩
 ·have:=h3 y hy;rw[hl]at this
  simpa using this
 ·have:=h4 y hy;rw[hf]at this;rw[hk]
  simpa using this
 ·have hm:(x,some j)∈N.zip cap:=by
   refine aE6 (i:=i) ?_
   rw[List.getElem?_zip_eq_some];exact⟨e1,e2⟩
  have:=h5 _ hm;simp only[dS,gJ]at this;obtain⟨⟨a,b⟩,c⟩:=this;exact⟨a,by simpa using b,c⟩
 ·rw[e]at h7
  simpa using h7
end
end L2
namespace M
open PySem PySem.Spec PyProof.Rows L2
section
variable {X:Cx}{K:Frag}{A:AS}{H:Hp}
noncomputable def vV:List D->Option (List Bool)
 | []=>some []
 | .bl b::r=>(vV r).map (b::·)
 | _=>none
noncomputable def aU3:List D->Option (List Int)
 | []=>some []
 | .int b::r=>(aU3 r).map (b::·)
 | _=>none
theorem aH3 (bs:List Bool):vV (bs.map .bl)=some bs:=by
 induction bs with
 | nil=>rfl
 | cons b bs ih=>rw[d6];show(vV<|bs.map .bl).map _=_;rw[ih];rfl
theorem cF2 (bs:List Int):aU3 (bs.map .int)=some bs:=by
 induction bs with
 | nil=>rfl
 | cons b bs ih=>rw[d6];show(aU3<|bs.map .int).map _=_;rw[ih];rfl
theorem b04: ∀{l:List D} {bs:List Bool} {vs:List V},vV l=some bs->bS K A H l vs->vs=bs.map V.bl
 | [],bs,vs,h,r=>by cases h;exact r.unnil
 | d::r,bs,vs,h,q=>by
  obtain⟨v,vr,rfl,rv,rr⟩:=q.uncons;cases d with
  | bl b=>
   have h':(vV r).map (b::·)=some bs:=h;cases e:vV r with
   | none=>rw[e]at h';cases h'
   | some bs'=>
    rw[e]at h';cases h';rw[yW rv,b04 e rr];rfl
  | _=>cases h
theorem bD5: ∀{l:List D} {bs:List Int} {vs:List V},aU3 l=some bs->bS K A H l vs->vs=bs.map V.int
 | [],bs,vs,h,r=>by cases h;exact r.unnil
 | d::r,bs,vs,h,q=>by
  obtain⟨v,vr,rfl,rv,rr⟩:=q.uncons;cases d with
  | int b=>
   have h':(aU3 r).map (b::·)=some bs:=h;cases e:aU3 r with
   | none=>rw[e]at h';cases h'
   | some bs'=>
    rw[e]at h';cases h';rw[bO rv,bD5 e rr];rfl
  | _=>cases h
noncomputable def cF3:List D->(B->Prop)->Prop:=g1 λd Q=>match d with
 | .lst l=>(match vV l with
  | some bs=>Q (.pu<|.bl<|bs.all id)
  | none=>False)
 | _=>False
theorem bI5 (hc:X.calm=true):a07 X (.builtin "all") cF3:=by
 intro A H ds vs Q0 Q hA r g k;obtain⟨d,v,rfl,rfl,rv,g⟩:=aH2 g r;cases d with
 | lst l=>
  dsimp only at g;cases e:vV l with
  | none=>rw[e]at g;exact g.elim
  | some bs=>
   rw[e]at g;simp only[Rep]at rv;obtain⟨a,vs,rfl,n,c,rs⟩:=rv;rw[b04 e rs]at c;exact⟨_,c23 hc,a,bs,rfl,SqL.of c,k _ _ H g (.refl _) tW⟩
 | _=>exact(show False from g).elim
noncomputable def gSum:List D->(B->Prop)->Prop:=g1 λd Q=>match d with
 | .lst l=>(match aU3 l with
  | some ns=>Q (.pu<|.int ns.sum)
  | none=>False)
 | _=>False
theorem cu_sum (hc:X.calm=true):a07 X (.builtin "sum") gSum:=by
 intro A H ds vs Q0 Q hA r g k;obtain⟨d,v,rfl,rfl,rv,g⟩:=aH2 g r;cases d with
 | lst l=>
  dsimp only at g;cases e:aU3 l with
  | none=>rw[e]at g;exact g.elim
  | some bs=>
   rw[e]at g;simp only[Rep]at rv;obtain⟨a,vs,rfl,n,c,rs⟩:=rv;rw[bD5 e rs]at c;exact⟨_,c24 hc,a,bs,rfl,SqL.of c,k _ _ H g (.refl _) a98⟩
 | _=>exact(show False from g).elim
theorem c95 {x:Str}{i:Int}{t:Tok}{p:Pos}(hg:Gl X x)(hm:X.mg x=some (.int i t))(hd:(x==("__debug__":Str))=false:=by decide):PU X (.Name x p) (uC<|.int i):=
 c89 (c81 (v:= .int i) hg hm ⟨t,rfl⟩ hd) λA H=>by simp only[Rep]
theorem bI6:bootBuiltins "all"=some (.builtin "all"):=af
theorem bt_sum:bootBuiltins "sum"=some (.builtin "sum"):=af
theorem b05 {elt iter tg:Expr}{ifs:List Expr}{scope:Scope}{pos:Pos}{esc:List (Str×NameKind)}{N:List Str}{js:List Nat}{cap:List (Option Nat)}{last:Nat}{ui:UI}{g:UG}{T:List Nat}{tt:UT}{te:UE}{XN:List Str}(he0:X.env.scope.names=esc)(hx0:X.N=XN)(lk:x8 esc XN N cap scope last=true)(hl:last<cap.length)(hT:last ∉ T)(hc:X.calm=true)(hi:PUI X tg iter ui)
  (hg: ∀cl C s H fp pins,PUG (cB X N scope cl C s H fp pins) tg T g) (ht: ∀cl C s H fp pins,PTs (cB X N scope cl C s H fp pins) ifs<|lT X.K tt) (he: ∀cl C s H fp pins,PU (cB X N scope cl C s H fp pins) elt te)
  (hs: ∀x,foldedSetIterable iter X.env x=pure x:=by intro _;rfl):PU X (.ListComp elt [⟨tg,iter,ifs,0⟩] scope pos) (gD js cap last ui g tt te):=
 d43 hc hi (gK.of he0<|hx0▸lk).1 (gK.of he0<|hx0▸lk).2 hl hT hg ht he hs
theorem a32 {elt iter tg:Expr}{ifs:List Expr}{scope:Scope}{pos spos py:Pos}{y:Str}{esc:List (Str×NameKind)}{N:List Str}{js:List Nat}{cap:List (Option Nat)}{last:Nat}{ui:UI}{g:UG}{T:List Nat}{tt:UT}{te:UE}(i:Nat){XN:List Str}(he0:X.env.scope.names=esc)(hx0:X.N=XN)(lk:x8 esc XN N cap scope last=true)(hl:last<cap.length)(hT:last ∉ T)(hc:X.calm=true)(hi:PUI X tg iter ui)
  (hg: ∀cl C s H fp pins,PUG (cB X N scope cl C s H fp pins) tg T g) (ht: ∀cl C s H fp pins,PTs (cB X N scope cl C s H fp pins) ifs<|lT X.K tt) (he: ∀cl C s H fp pins,PU (cB X N scope cl C s H fp pins) elt te)
  (hy:PG X (.Name y py) (aK6 i)) (hi': ∀pins σ H s,Inv X pins σ H s->i<σ.length) (hsw:swapsWith (.ListComp elt [⟨tg,iter,ifs,0⟩] scope pos) (some<|.Name y py) spos.line X.env=pure true:=by rfl)
  (hs: ∀x,foldedSetIterable iter X.env x=pure x:=by intro _;rfl):PUS X (.Assign [.Name y py] (.ListComp elt [⟨tg,iter,ifs,0⟩] scope pos) spos) (bX i<|gD js cap last ui g tt te):=
 c22 i hc hi (gK.of he0<|hx0▸lk).1 (gK.of he0<|hx0▸lk).2 hl hT hg ht he hy hi' hsw hs
def aL1 (te:UE):US:=λD ρ=>te ρ λ_ ρ1=>D.nx ρ1
theorem bI7 {e:Expr}{pos:Pos}{te:UE}(he:PU X e te)(hs:swapsWith e none pos.line X.env=pure false:=by rfl):PUS X (.Expr e pos) (aL1 te):=
 sE (bG7 he hs) λD σ H ⟨C,ρ,D0,I,h,k⟩=>⟨C,ρ,_,I,h,λb ρ1 v H1 q f s r=>k.nx _ _ _ q ((I.frz f).same s)⟩
theorem qZ: ∀ds ρ Q,v9 ds ρ Q->ds.length=0:=λds ρ Q h=>by rw[h.1];rfl
theorem fN {i n:Nat}{u:UGs}(h: ∀ds ρ Q,u ds ρ Q->ds.length=n): ∀ds ρ Q,gQ i u ds ρ Q->ds.length=n+1:=λds ρ Q q=>by
 cases ds with
 | nil=>exact(show False from q).elim
 | cons d r=>rw[j1,h r _ Q q.2]
end
theorem Fn.void {P:Program}{w:World}{K:Frag}{mg:Str->Option Value}{base:Heap}{x qual:Str}{st:Stmt}{f:Addr}{fd:FuncData}{ps:List Str}{φ:Φ}(F:Fun K x qual st f fd)(m:mg x=some (.ref f))(b:Binds K fd ps [])(h: ∀ds Q,¬φ ds Q):Fn P w K mg base x ps 1 φ:=
 ⟨f,fd,⟨λvs H Q E ⟨_,ds,Q0,_,_,z,_⟩=>absurd z (h ds Q0),λA outer s H args us vs Q E _ _ _ _ ⟨_,ds,Q0,_,_,z,_⟩=>absurd z (h ds Q0)⟩,b,F.kp,m⟩
end M
end
section
namespace HT
open PySem PyProof.Rows
end HT
namespace L2
open PySem PySem.Spec PyProof.Rows
end L2
namespace M
open PySem PySem.Spec PyProof.Rows L2
section
variable {X:Cx}{K:Frag}{A:AS}{H:Hp}{e e3:Expr}{t3:UE}{pos p2:Pos}
def gIn (neg:Bool)(d e:D)(Q:B->Prop):Prop:= ∃(i:Int) (js:List Int),d= .int i/\(e= .tup (js.map D.int)\/e= .lst (js.map D.int)\/e= .rol (js.map D.int))/\Q (.pu<|.bl<|neg ^^ decide (i∈js))
theorem bS.unints: ∀{js:List Int} {vs:List V},bS K A H (js.map D.int) vs->vs=js.map V.int
 | [],_,h=>by simp only[j6,bS]at h;exact h
 | j::js,vs,h=>by
  simp only[d6,bS]at h;obtain⟨v,vr,rfl,r,rs⟩:=h;rw[bO r,bS.unints rs];rfl
theorem cO7 (i:Int)(js:List Int):inV (.int i) (js.map V.int)=decide (i∈js):=by
 unfold inV
 induction js with
 | nil=>rfl
 | cons j js ih=>
  rw[d6,any_cons,ih];show((j==i)||decide (i∈js))=decide (i∈j::js)
  by_cases h:j=i
  ·subst h;simp
  ·have h': ¬i=j:=λz=>h z.symm
   simp[h,h']
theorem aQ4 (js:List Int):(js.map V.int).all aK7=true:=by
 induction js with
 | nil=>rfl
 | cons j js ih=>rw[d6,all_cons,ih];rfl
theorem ou_inG {neg:Bool}{op:Value->Value->Sem Value}(ho:OpR X op (rIn X.K neg)):OpU X op (gIn neg):=by
 intro A H d e v w Q0 Q hA r1 r2 g k;obtain⟨i,js,rfl,he,g⟩:=g;have e1:=bO r1;subst e1;have fin:Q (.bl<|if neg=true then !inV (.int i) (js.map V.int)else inV (.int i) (js.map V.int)) H:=by
  rw[cO7];refine k _ _ H g (.refl _) ?_;cases neg
  ·rw[a6 ac,nJ];exact tW
  ·rw[a7 rfl,pU];exact tW
 rcases he with rfl|rfl|rfl
 ·simp only[Rep]at r2;obtain⟨a,vs,rfl,c,rs⟩:=r2;have:=rs.unints;subst this;exact⟨_,ho,a,_,rfl,.inr<|c.imp cU id,rfl,aQ4 js,fin⟩
 ·simp only[Rep]at r2;obtain⟨a,vs,rfl,n,c,rs⟩:=r2;have:=rs.unints;subst this;exact⟨_,ho,a,_,rfl,.inl<|SqL.of c,rfl,aQ4 js,fin⟩
 ·simp only[Rep]at r2;obtain⟨a,vs,rfl,c,rs⟩:=r2;have:=rs.unints;subst this;exact⟨_,ho,a,_,rfl,.inl<|c.imp cU id,rfl,aQ4 js,fin⟩
theorem cO8:OpU X (compareOp .NotIn) (gIn true):=ou_inG bH3
end
end M
end
section
namespace L2
open PySem PySem.Spec PyProof.Rows
noncomputable def Itd (lo:Int)(n:Nat):It:={go:=λi _=>i<n,yld:=λi H x H'=>H'=H/\x=V.int (lo-(i:Int)),stop:=λi _=>n<=i}
theorem bD6 {P:Program}{w:World}{K:Frag}{tg:Expr}(it:Addr)(lo:Int)(n:Nat):bP5 P w K tg (Itd lo n) [it] it (λi h=>IsRangeIter h it (lo+(i:Nat)*(-1)) ((n:Int)-(i:Nat)) (-1)) where
 mem:=ae
 obj:=λi h st b hb=>by
  have e:b=it:=by simpa using hb
  subst e;exact⟨_,st,λv z=>by
   have z':Data.fields _=Data.cell v:=z;cases z'⟩
 keep:=λi h h' st k=>k it ae _ st
 item:=by
  intro X hP hw hK hc i pins s σ H E I hf st hg;subst hP hw hK;obtain⟨f0,f1,f2,f3,f4,f5⟩:=hf it ae
  have W:=Walks.range (prog:=X.prog) (w:=X.w) (I.ok.hd hc) it lo (-1) n;refine W.item i s _ _ hg st λv h' tk hv st' kk=> ?_
  obtain⟨t,rfl⟩:=hv;have I1:Inv X pins σ H {s with heap:=h',toks:=tk}:=I.turned (λb o hb e=>kk b o (by simpa using hb) e) f0 f1 f3 f4 f5
  refine⟨_,rfl,bP6 (s:={s with heap:=h',toks:=tk}) (n:="range_iterator") st' rfl rfl ac ⟨.int<|lo-i,H,I1,⟨t,?_⟩,⟨rfl,rfl⟩,st',λb hb=>(hf b hb).1⟩⟩
  rw[show lo+((i:Nat):Int)*(-1)=lo-(i:Int)by lia]
 done:=by
  intro X hP hw hK hc i pins s σ H E I hf st hg;subst hP hw hK;obtain⟨f0,f1,f2,f3,f4,f5⟩:=hf it ae
  exact wpAny_pyNext_range_end (I.ok.hd hc) st (by have:n<=i:=hg;lia) λh' eb=>⟨rfl,I.turned (t':=s.toks) (λb o hb e=>eb b o hb e) f0 f1 f3 f4 f5⟩
 self:=λ_ _ _ _ _ st h=>aD8 st h
section
variable {X:Cx}{tg:Expr}
theorem bD7 (a b:Int):Builtin.Range.rangeSize a b (-1)=(((a-b).toNat:Nat):Int):=by
 unfold Builtin.Range.rangeSize;rw[a6 ac]
 split<;>simp<;>lia
theorem small_down {a b:Int}(h1: -(2^31)<=a)(h2:a<2^31)(h3: -(2^31)<=b)(h4:b<2^31):Builtin.Range.small a b (-1)=true:=by
 unfold Builtin.Range.small;rw[bD7];simp[Builtin.Range.rangeFitsLong];omega
theorem c25 {pins:List (Addr×Obj)}{σ:St}{H:Hp}{s:Shared}{R:It->Hp->Prop}{E:Value->Shared->Prop}{lo hi:Int}{t u v:Tok}{tk:Nat}(I:Inv X pins σ H s)(h1: -(2^31)<=lo)(h2:lo<2^31)(h3: -(2^31)<=hi)(h4:hi<2^31)
  (q:R (Itd lo (lo-hi).toNat) H):wpAny (model X.prog X.w) X.A (pyIter<|.ref s.heap.objs.size) (PIE X pins σ tg R) E {s with heap:=s.heap.push {cls:= .type "range",data:= .fields #[.int lo t,.int hi u,.int (-1) v]},toks:=tk}:=by
 refine wpAny_pyIter_range (IsRange.new ..) (small_down h1 h2 h3 h4) ?_
 have I1:Inv X pins σ H {s with heap:=s.heap.push {cls:= .type "range",data:= .fields #[.int lo t,.int hi u,.int (-1) v]},toks:=tk}:=I.kept λb o e=>aO _ e
 refine⟨(s.heap.push {cls:= .type "range",data:= .fields #[.int lo t,.int hi u,.int (-1) v]}).objs.size,[(s.heap.push {cls:= .type "range",data:= .fields #[.int lo t,.int hi u,.int (-1) v]}).objs.size],_,_,H,rfl,
  I1.kept (t':=tk) λb o e=>aO _ e,bD6 _ lo (lo-hi).toNat,?_,λb hb=> ?_,q⟩
 ·have e1:lo+((0:Nat):Int)*(-1)=lo:=ae
  have e2:(((lo-hi).toNat:Nat):Int)-((0:Nat):Int)=Builtin.Range.rangeSize lo hi (-1):=by rw[bD7];simp
  show IsRangeIter _ _ (lo+((0:Nat):Int)*(-1)) ((((lo-hi).toNat:Nat):Int)-((0:Nat):Int)) (-1)
  rw[e1,e2];exact bY _ rfl
 ·have e:b=(s.heap.push {cls:= .type "range",data:= .fields #[.int lo t,.int hi u,.int (-1) v]}).objs.size:=by simpa using hb
  subst e;exact I1.fpOk (aB _) (I1.hok.fresh<|aB _)
def iRngD (ta:TA):TI:=λσ H R=>ta σ H λvs H1=> ∃i j:Int,vs=[.int i,.int j,.int<|-1]/\(-(2^31)<=i/\i<2^31/\ -(2^31)<=j/\j<2^31)/\R (Itd i (i-j).toNat) H1
theorem cF4 {a b c:Expr}{ta:TA}{p pos:Pos}(hg:Gl X "range")(hm:X.mg "range"=none)(ha:PA X [a,b,c] ta)(hs:starEach [a,b,c] X.env=[(false,eval a X.env),(false,eval b X.env),(false,eval c X.env)]:=by rfl)(hs2:starEach [b,c] X.env=[(false,eval b X.env),(false,eval c X.env)]:=by rfl) :
  PI X tg (.Call (.Name "range" p) [a,b,c] [] pos) (iRngD ta):=by
 intro pins s σ H R I h;refine Call_ (vR I hg hm boot_range<|jN (thn (ha pos pins s σ H _ I h) λus s1 ⟨vs,H1,I1,r1,q1⟩=> ?_) (by rw[hs,hs2]) (by rw[hs2];rfl))
 obtain⟨i,j,e,⟨q1,q2,q3,q4⟩,q⟩:=q1;subst e;cases r1 with
 | cons r rr=>
  cases rr with
  | cons r' rr=>
   cases rr with
   | cons r'' rr=>
    cases rr;obtain⟨t,rfl⟩:=r;obtain⟨t',rfl⟩:=r';obtain⟨t'',rfl⟩:=r'';exact call_range_3 ac (c25 I1 q1 q2 q3 q4 q) (.inl (by
     unfold Builtin.divisionGoesByPylong;simp;intro hz;have:Nat.log2 1=0:=ac
     lia))
end
end L2
namespace M
open PySem PySem.Spec PyProof.Rows L2
section
variable {X:Cx}{K:Frag}{H:Hp}{pos:Pos}
theorem bD8 {A:AS}{lo:Int}{n:Nat}:bR0 K A H (Itd lo n) n (λi=> .int (lo-i)):=
 ⟨λ_ _ _ _ h=>h,λ_ _ i x H'' _ _ _ ⟨e,y⟩=>by subst e;subst y;exact⟨.refl _,by simp only[Rep]⟩,λ_ _ _=>aB n⟩
def bR3 (ta:UA):UI:=λρ Q=>ta ρ λds ρ1=>match ds with
 | [.int i,.int j,.int m]=>m= -1/\(-(2^31)<=i/\i<2^31/\ -(2^31)<=j/\j<2^31)/\Q (i-j).toNat (λk=> .int (i-k)) ρ1
 | _=>False
theorem bD9 {tg a b c:Expr}{ta:UA}{p:Pos}(hg:Gl X "range")(hm:X.mg "range"=none)(ha:PUA X [a,b,c] ta)(hs:starEach [a,b,c] X.env=[(false,eval a X.env),(false,eval b X.env),(false,eval c X.env)]:=by rfl)(hs2:starEach [b,c] X.env=[(false,eval b X.env),(false,eval c X.env)]:=by rfl) :
  PUI X tg (.Call (.Name "range" p) [a,b,c] [] pos) (bR3 ta):=
 aU1 (cF4 hg hm ha hs hs2) λσ H R ⟨C,ρ,Q0,I,h,k⟩=>⟨C,ρ,_,I,h,λds ρ1 vs H1 q f s r=>by
  split at q
  ·rename_i i j m
   obtain⟨v,vr,rfl,rv,rr⟩:=r.uncons;obtain⟨w,wr,rfl,rw',rr'⟩:=rr.uncons;obtain⟨z,zr,rfl,rz,rr''⟩:=rr'.uncons;have:=rr''.unnil;subst this;have:=bO rv;subst this;have:=bO rw';subst this;have:=bO rz;subst this;obtain⟨hm,hb,q⟩:=q;subst hm;exact⟨i,j,rfl,hb,k _ _ ρ1 _ H1 q f s bD8⟩
  ·exact q.elim⟩
end
end M
end
section
namespace L2
open PySem PySem.Spec PyProof.Rows
section
variable {X:Cx}{pins:List (Addr×Obj)}{σ:St}{H:Hp}{s:Shared}{h':Heap}
theorem Inv.turnedNew {t':Nat}{ch:List Addr}{a:Addr}{o:HO}(I:Inv X pins σ H s)(k: ∀b u,b ∉ ch->s.heap.get? b=some u->h'.get? b=some u)(hf: ∀b∈ch,aP7 X pins H b)
  (hp:s.heap.objs.size<=a) (new:qX X.prog X.w (upd H a o) h' a o):Inv X pins σ (upd H a o) {s with heap:=h',toks:=t'}:=by
 have hn:H a=none:=I.hok.fresh hp;have nch: ∀b u,H b=some u->b ∉ ch:=λb u e z=>by have:=(hf b z).1;rw[e]at this;cases this
 refine I.step (g':=s.gens) (d':=s.drawn) (ch:=ch) (λb hb=>⟨(hf b hb).2.2.2.1,(hf b hb).2.1,(hf b hb).2.2.2.2.1,(hf b hb).2.2.2.2.2⟩) (λb u _ _ hc e _=>k b u hc e) (λb u _ _ hc e _=>⟨u.slots,k b u hc e⟩)
  (λb u _ e n=>by rw[cE<|bK<|aX (aQ e) hp];exact n) (λb u hc e=>⟨u,k b u hc e⟩)
  (λb xs e=>by rw[cE<|d8 e hn];exact e) (λb ob u e=>by rw[cE<|d8 e hn];exact e) (λb ps e=>⟨#[],by rw[cE<|d8 e hn,e];simp⟩) (λm hm=> ?_) (λb u e=> ?_) I.bare
 ·obtain⟨ob,es,ep,ho,r⟩:=hm;exact⟨ob,es,ep,k _ ob (λz=>(hf _ z).2.1 rfl) ho,r⟩
 ·by_cases hb:b=a
  ·subst hb;rw[iT]at e;cases e;exact new
  ·rw[cE hb]at e;refine(I.hok b u e).stay (λc v hc q=>k c v ?_ q) (λc q=>by rw[cE<|d8 q hn];exact q) λc xs q=>by rw[cE<|d8 q hn];exact q
   rcases hc with z|z
   ·rw[z];exact nch b u e
   ·exact nch c _ z
theorem Inv.turnedL {t':Nat}{ch:List Addr}(I:Inv X pins σ H s)(k: ∀b u,b ∉ ch->s.heap.get? b=some u->h'.get? b=some u)(hf: ∀b∈ch,aP7 X pins H b):Inv X pins σ H {s with heap:=h',toks:=t'}:=by
 have nch: ∀b u,H b=some u->b ∉ ch:=λb u e z=>by have:=(hf b z).1;rw[e]at this;cases this
 refine I.step (g':=s.gens) (d':=s.drawn) (ch:=ch) (λb hb=>⟨(hf b hb).2.2.2.1,(hf b hb).2.1,(hf b hb).2.2.2.2.1,(hf b hb).2.2.2.2.2⟩) (λb u _ _ hc e _=>k b u hc e) (λb u _ _ hc e _=>⟨u.slots,k b u hc e⟩)
  (λb u _ e n=>n) (λb u hc e=>⟨u,k b u hc e⟩) (λb xs e=>e) (λb ob u e=>e) (λb ps e=>⟨#[],by rw[e];simp⟩) (λm hm=> ?_) (λb u e=> ?_) I.bare
 ·obtain⟨ob,es,ep,ho,r⟩:=hm;exact⟨ob,es,ep,k _ ob (λz=>(hf _ z).2.1 rfl) ho,r⟩
 ·refine(I.hok b u e).stay (λc v hc q=>k c v ?_ q) (λc q=>q) λc xs q=>q
  rcases hc with z|z
  ·rw[z];exact nch b u e
  ·exact nch c _ z
end
def v5 (T:Bool)(h:Heap)(a:Addr)(xs:Array Value):Prop:=match T with
 | false=>h.IsList a xs
 | true=>h.IsTuple a xs
def v6 (T:Bool)(h:Heap)(it a:Addr)(i:Nat):Prop:=match T with
 | false=>h.IsListIter it a i
 | true=>h.IsTupleIter it a i
noncomputable def a33 (T:Bool)(a:Addr):Obj:=match T with
 | false=>{cls:= .type "list_iterator",data:= .fields #[.ref a,.int 0 0]}
 | true=>{cls:= .type "tuple_iterator",data:= .fields #[.ref a,.int 0 0]}
def SqV (K:Frag)(T:Bool)(H:Hp)(a:Addr)(xs:List V):Prop:=match T with
 | false=>SqL K H a xs
 | true=>SqT K H a xs
theorem v5.at {T:Bool}{h h':Heap}{a:Addr}{xs:Array Value}(x:v5 T h a xs)(e: ∀o,h.get? a=some o->h'.get? a=some o):v5 T h' a xs:=by
 cases T<;>(obtain⟨o,ho,r⟩:=x;exact⟨o,e o ho,r⟩)
theorem v6.at {T:Bool}{h h':Heap}{it a:Addr}{i:Nat}(x:v6 T h it a i)(e: ∀o,h.get? it=some o->h'.get? it=some o):v6 T h' it a i:=by
 cases T<;>(obtain⟨o,ho,r⟩:=x;exact⟨o,e o ho,r⟩)
theorem v5.lt {T:Bool}{h:Heap}{a:Addr}{xs:Array Value}(x:v5 T h a xs):a<h.objs.size:=by
 cases T<;>(obtain⟨o,ho,r⟩:=x;exact aQ ho)
theorem v6.rec' {T:Bool}{h:Heap}{it a:Addr}{i:Nat}(x:v6 T h it a i): ∃o,h.get? it=some o/\ ∀v,o.data≠ .cell v:=by
 cases T<;>(obtain⟨o,ho,hc,hd⟩:=x;exact⟨o,ho,λv z=>by rw[hd]at z;cases z⟩)
theorem v6.new {T:Bool}(h:Heap)(a:Addr):v6 T (h.push<|a33 T a) h.objs.size a 0:=by
 cases T<;>exact⟨_,bY _ rfl,rfl,rfl⟩
section
variable {X:Cx}{pins:List (Addr×Obj)}{σ:St}{H:Hp}{s:Shared}
theorem Inv.sq {T:Bool}{a:Addr}{xs:List V}(I:Inv X pins σ H s)(h:SqV X.K T H a xs): ∃its:List Value,Vals xs its/\v5 T s.heap a its.toArray/\xs.length<=sizeLine:=by
 cases T with
 | false=>obtain⟨its,rv,p,hz⟩:=I.list h;exact⟨its,rv,p.isList,hz⟩
 | true=>obtain⟨its,rv,p,hz⟩:=I.tuple h;exact⟨its,rv,p,hz⟩
theorem Inv.sq_inj {T:Bool}{a:Addr}{xs ys:List V}(I:Inv X pins σ H s)(h:SqV X.K T H a xs)(h':SqV X.K T H a ys):xs=ys:=by
 cases T with
 | false=>exact I.list_inj h h'
 | true=>exact I.tuple_inj h h'
end
section
variable {prog:Program}{w:World}{A:Around}{E:Value->Shared->Prop}{s:Shared}
theorem a87 {T:Bool}{a:Addr}{xs:Array Value}{Q:Value->Shared->Prop}(hl:v5 T s.heap a xs)(hQ:Q (.ref s.heap.objs.size) {s with heap:=s.heap.push (a33 T a)}) :
  wpAny (model prog w) A (pyIter<|.ref a) Q E s:=by
 cases T with
 | false=>exact aG0 hl hQ
 | true=>exact wpAny_pyIter_tuple hl hQ
theorem cO9 {it t:Addr}{i:Nat}{items:Array Value}{x:Value}{Q:Value->Shared->Prop}(hit:s.heap.IsTupleIter it t i)(ht:s.heap.IsTuple t items)(hx:items[i]? =some x)
  (hQ: ∀h',h'.IsTupleIter it t (i+1)->SameBut it s.heap h'->Q x {s with heap:=h'}):wpAny (model prog w) A (Builtin.SmallTypes.nextOf<|.ref it) Q E s:=by
 obtain⟨oi,hoi,hci,hdi⟩:=id hit;obtain⟨ot,hot,_,nt,hdt⟩:=ht;unfold Builtin.SmallTypes.nextOf;refine a8 (kO (name:=Str.ofString "__next__") hit.typeIs xK<|j2 xK hit.typeIs PySem.F.entry_tuple_iterator_next ?_<|PySem.F.args_tuple_iterator_next_1 _);show wpAny _ _ (field (.ref it) 0 >>= _) _ _ s;refine a8 (d7 hoi hdi (x:= .ref t) rfl ?_)
 show wpAny _ _ (if(Value.ref t==Value.none)=true then _ else _) _ _ s;rw[a6<|show ¬((Value.ref t==Value.none)=true)from bI]
 show wpAny _ _ (field (.ref it) 1 >>= _) _ _ s;refine a8 (d7 hoi hdi (x:= .int i 0) rfl ?_)
 show wpAny _ _ (seqItems? (.ref t) >>= _) _ _ s;refine a8 (kR hot hdt ?_)
 simp only[cZ,hx];refine a8 (tJ hoi hdi ae<|aI ⟨x,rfl,aI<|hQ _ ⟨_,pC _ hoi<|aE5<|pM hdi _,(Obj.cls_mapFields ..).trans hci,?_⟩<|t7 ..⟩)
 rw[pM hdi];simp[rawInt]
theorem cF5 {it t:Addr}{i:Nat}{items:Array Value}{Q:Value->Shared->Prop}(hh:A.handled=none)(hit:s.heap.IsTupleIter it t i)(ht:s.heap.IsTuple t items)(hx:items[i]? =none)
  (hE: ∀h' e,ExtBut it s.heap h'->(∃o,h'.get? e=some o/\o.cls= .type "StopIteration")->E (.ref e) {s with heap:=h'}):wpAny (model prog w) A (Builtin.SmallTypes.nextOf<|.ref it) Q E s:=by
 obtain⟨oi,hoi,hci,hdi⟩:=id hit;obtain⟨ot,hot,_,nt,hdt⟩:=ht;unfold Builtin.SmallTypes.nextOf;refine a8 (kO (name:=Str.ofString "__next__") hit.typeIs xK<|j2 xK hit.typeIs PySem.F.entry_tuple_iterator_next ?_<|PySem.F.args_tuple_iterator_next_1 _);show wpAny _ _ (field (.ref it) 0 >>= _) _ _ s;refine a8 (d7 hoi hdi (x:= .ref t) rfl ?_)
 show wpAny _ _ (if(Value.ref t==Value.none)=true then _ else _) _ _ s;rw[a6<|show ¬((Value.ref t==Value.none)=true)from bI]
 show wpAny _ _ (field (.ref it) 1 >>= _) _ _ s;refine a8 (d7 hoi hdi (x:= .int i 0) rfl ?_)
 show wpAny _ _ (seqItems? (.ref t) >>= _) _ _ s;refine a8 (kR hot hdt ?_)
 simp only[cZ,hx];refine a8 (qB<|a8<|tJ hoi hdi ae ?_)
 show wpAny _ _ (newExc (.type "StopIteration") [] >>= _) _ _ _;refine a8 ?_;simp only[newExc,newTuple];refine a8 (jR ?_<|by size_fits)
 refine a8 (m:=firstArgMember _ _) (jZ (a:=Value.none) (by first|rfl| (simp only[firstArgMember];rfl)) ?_);refine jR ?_ (by size_fits)
 simp only[raiseNew];refine a8 (wpAny_handled ?_);first|rw[show A.in1.handled=none from hh]|rw[hh]
 exact a8 (aI<|wpAny_throw<|hE _ _ (((t7 ..).extBut.push _).push _) ⟨_,bY _ rfl,rfl⟩)
theorem aY1 {T:Bool}{it a:Addr}{i:Nat}{xs:Array Value}{x:Value}{Q:Value->Shared->Prop}(hit:v6 T s.heap it a i)(hl:v5 T s.heap a xs)(hx:xs[i]? =some x)
  (hQ: ∀h',v6 T h' it a (i+1)->SameBut it s.heap h'->Q x {s with heap:=h'}):wpAny (model prog w) A (Builtin.SmallTypes.nextOf<|.ref it) Q E s:=by
 cases T with
 | false=>exact wpAny_nextOf_list_item hit hl hx hQ
 | true=>exact cO9 hit hl hx hQ
theorem b06 {T:Bool}{it a:Addr}{i:Nat}{xs:Array Value}{Q:Value->Shared->Prop}(hh:A.handled=none)(hit:v6 T s.heap it a i)(hl:v5 T s.heap a xs)(hx:xs[i]? =none)
  (hE: ∀h' e,ExtBut it s.heap h'->(∃o,h'.get? e=some o/\o.cls= .type "StopIteration")->E (.ref e) {s with heap:=h'}):wpAny (model prog w) A (Builtin.SmallTypes.nextOf<|.ref it) Q E s:=by
 cases T with
 | false=>exact wpAny_nextOf_list_end hh hit hl hx hE
 | true=>exact cF5 hh hit hl hx hE
end
structure ZSt (T1 T2:Bool)(z TI TO i1 i2 l1 l2:Addr)(f0:Value)(i:Nat)(h:Heap):Prop where
 hz:IsZip h z TI TO f0
 hI:IsPair h TI (.ref i1) (.ref i2)
 hO: ∃a b,IsPair h TO a b
 h1:v6 T1 h i1 l1 i
 h2:v6 T2 h i2 l2 i
structure ZAp (z TI TO i1 i2:Addr):Prop where
 a:TI≠z
 b:TO≠z
 c:i1≠z
 d:i2≠z
 e:TI≠TO
 f:TI≠i1
 g:TI≠i2
 h:TO≠i1
 i:TO≠i2
 j:i1≠i2
section
variable {prog:Program}{w:World}{A:Around}{E:Value->Shared->Prop}{s:Shared}{T1 T2:Bool}{z TI TO i1 i2 l1 l2:Addr}{k:Nat}{xs ys:Array Value}
theorem cP0 {x y:Value}{Q:Value->Shared->Prop}(D:ZAp z TI TO i1 i2)(n1:l1 ∉ [z,TI,TO,i1,i2])(n2:l2 ∉ [z,TI,TO,i1,i2])(st:ZSt T1 T2 z TI TO i1 i2 l1 l2 .none k s.heap)
  (hl1:v5 T1 s.heap l1 xs) (hl2:v5 T2 s.heap l2 ys) (hx:xs[k]? =some x) (hy:ys[k]? =some y)
  (hQ: ∀h',ZSt T1 T2 z TI TO i1 i2 l1 l2 (rawInt s.heap.objs.size) (k+1) h'->IsPair h' s.heap.objs.size x y->(∀c o,c ∉ [z,TI,TO,i1,i2]->s.heap.get? c=some o->h'.get? c=some o)->Q (.ref s.heap.objs.size) {s with heap:=h'}) :
  wpAny (model prog w) A (Builtin.«zip.__next__» ⟨[.ref z],[]⟩) (λfin s'=> ∃v,fin= .done (.ret v)/\Q v s') E s:=by
 obtain⟨hz,hI,⟨a0,b0,hO⟩,h1,h2⟩:=st;simp only[aY,eN,eS,not_or]at n1 n2;show wpAny _ _ (field (.ref z) 2 >>= _) _ _ _;refine a8 (d7 hz rfl (x:= .bool false) rfl ?_);show wpAny _ _ (field (.ref z) 3 >>= _) _ _ _;refine a8 (d7 hz rfl (x:= .ref TI) rfl ?_);refine a8 (kR hI rfl ?_);show wpAny _ _ (Builtin.SmallTypes.ownedTupleIsFree (.ref z) >>= _) _ _ _
 refine a8 ?_;unfold Builtin.SmallTypes.ownedTupleIsFree;refine a8 (d7 hz rfl (x:= .none) rfl (aI ?_))
 simp only[eU];refine a8 (qB ?_);refine a8 (d7 hz rfl (x:= .ref TO) rfl ?_);refine a8 (pN hz ae λg1 z1 m1=> ?_);replace z1:IsZip g1 z TI TO .ellipsis:=z1
 refine a8 ?_;simp only[List.zipIdx_cons,List.zipIdx_nil,yE,forIn_nil]
 refine a8 (a8<|yJ ?_);show wpAny _ _ (Builtin.SmallTypes.nextOf (.ref i1) >>= _) _ _ _
 refine a8 (aY1 (s:={s with heap:=g1}) (h1.at λo e=>m1.extBut _ _ D.c e) (hl1.at λo e=>m1.extBut _ _ n1.1 e) hx λg2 p2 m2=>aI ?_)
 have o2:IsPair g2 TO a0 b0:=m2.extBut _ _ D.h (m1.extBut _ _ D.b hO);refine a8 (kR o2 rfl ?_);refine a8 (aE8 o2 λg3 o3 m3=> ?_);replace o3:IsPair g3 TO x b0:=o3
 refine a8 (wpAny_letGo<|aI ?_)
 refine a8 (a8<|yJ ?_);show wpAny _ _ (Builtin.SmallTypes.nextOf (.ref i2) >>= _) _ _ _
 refine a8 (aY1 (s:={s with heap:=g3}) (h2.at λo e=>m3.extBut _ _ D.i.symm (m2.extBut _ _ D.j.symm<|m1.extBut _ _ D.d e)) (hl2.at λo e=>m3.extBut _ _ n2.2.2.1 (m2.extBut _ _ n2.2.2.2.1<|m1.extBut _ _ n2.1 e)) hy λg4 p4 m4=>aI ?_)
 have o4:IsPair g4 TO x b0:=m4.extBut _ _ D.i o3;refine a8 (kR o4 rfl ?_);refine a8 (aE8 o4 λg5 o5 m5=> ?_);replace o5:IsPair g5 TO x y:=o5
 refine a8 (wpAny_letGo<|aI<|aI ?_)
 refine a8 (kR o5 rfl ?_);refine a8 (wpAny_newTuple ?_)
 have sz:g5.objs.size=s.heap.objs.size:=by rw[m5.1,m4.1,m3.1,m2.1,m1.1]
 have z5:IsZip g5 z TI TO .ellipsis:=m5.extBut _ _ D.b.symm (m4.extBut _ _ D.d.symm<|m3.extBut _ _ D.b.symm<|m2.extBut _ _ D.c.symm z1);have keep5: ∀c o,c≠z->c≠TO->c≠i1->c≠i2->s.heap.get? c=some o->g5.get? c=some o:=λc o c1 c2 c3 c4 e=>m5.extBut _ _ c2 (m4.extBut _ _ c4<|m3.extBut _ _ c2<|m2.extBut _ _ c3<|m1.extBut _ _ c1 e)
 have q1:v6 T1 g5 i1 l1 (k+1):=p2.at λo e=>m5.extBut _ _ D.h.symm (m4.extBut _ _ D.j<|m3.extBut _ _ D.h.symm e)
 have q2:v6 T2 g5 i2 l2 (k+1):=p4.at λo e=>m5.extBut _ _ D.i.symm e
 have zl:z<g5.objs.size:=aQ z5;show wpAny _ _ (Builtin.SmallTypes.ownedTupleHandOut (.ref z) (.ref g5.objs.size) >>= _) _ _ _;refine a8 ?_;unfold Builtin.SmallTypes.ownedTupleHandOut;have z6:IsZip (g5.push {cls:= .type "tuple",data:= .seq #[x,y]}) z TI TO .ellipsis:=aO _ z5;refine a8 (pN z6 ae λg7 z7 m7=> ?_);replace z7:IsZip g7 z TI TO (rawInt g5.objs.size):=z7
 refine pN z7 ae λg8 z8 m8=> ?_;replace z8:IsZip g8 z TI TO (rawInt g5.objs.size):=z8
 have up: ∀c o,c≠z->g5.get? c=some o->g8.get? c=some o:=λc o c1 e=>m8.extBut _ _ c1 (m7.extBut _ _ c1<|aO _ e)
 have t8:IsPair g8 g5.objs.size x y:=m8.extBut _ _ (pY zl) (m7.extBut _ _ (pY zl)<|bY _ rfl);rw[sz]at z8 t8;refine aI ⟨_,rfl,?_⟩;show Q (.ref g5.objs.size) _;rw[sz];refine hQ g8 ⟨z8,up _ _ D.a<|keep5 _ _ D.a D.e D.f D.g hI,⟨x,y,up _ _ D.b o5⟩,q1.at λo e=>up _ _ D.c e,q2.at λo e=>up _ _ D.d e⟩ t8 λc o nc e=> ?_
 simp only[aY,eN,eS,not_or]at nc;exact up c o nc.1 (keep5 c o nc.1 nc.2.2.1 nc.2.2.2.1 nc.2.2.2.2 e)
theorem cF6 {Q:Fin->Shared->Prop}(hh:A.handled=none)(D:ZAp z TI TO i1 i2)(n1:l1 ∉ [z,TI,TO,i1,i2])(n2:l2 ∉ [z,TI,TO,i1,i2])(st:ZSt T1 T2 z TI TO i1 i2 l1 l2 .none k s.heap)
  (hl1:v5 T1 s.heap l1 xs) (hl2:v5 T2 s.heap l2 ys) (hend:xs[k]? =none\/ys[k]? =none)
  (hE: ∀h' e,(∀c o,c ∉ [z,TI,TO,i1,i2]->s.heap.get? c=some o->h'.get? c=some o)->(∃o,h'.get? e=some o/\o.cls= .type "StopIteration")->E (.ref e) {s with heap:=h'}) :
  wpAny (model prog w) A (Builtin.«zip.__next__» ⟨[.ref z],[]⟩) Q E s:=by
 obtain⟨hz,hI,⟨a0,b0,hO⟩,h1,h2⟩:=st;simp only[aY,eN,eS,not_or]at n1 n2;have nin: ∀c,c ∉ [z,TI,TO,i1,i2]->c≠z/\c≠TI/\c≠TO/\c≠i1/\c≠i2:=λc h=>by simpa only[aY,eN,eS,not_or]using h
 show wpAny _ _ (field (.ref z) 2 >>= _) _ _ _;refine a8 (d7 hz rfl (x:= .bool false) rfl ?_)
 show wpAny _ _ (field (.ref z) 3 >>= _) _ _ _;refine a8 (d7 hz rfl (x:= .ref TI) rfl ?_)
 refine a8 (kR hI rfl ?_);show wpAny _ _ (Builtin.SmallTypes.ownedTupleIsFree (.ref z) >>= _) _ _ _
 refine a8 ?_;unfold Builtin.SmallTypes.ownedTupleIsFree;refine a8 (d7 hz rfl (x:= .none) rfl (aI ?_))
 simp only[eU];refine a8 (qB ?_);refine a8 (d7 hz rfl (x:= .ref TO) rfl ?_);refine a8 (pN hz ae λg1 z1 m1=> ?_);replace z1:IsZip g1 z TI TO .ellipsis:=z1
 refine a8 ?_;simp only[List.zipIdx_cons,List.zipIdx_nil,yE,forIn_nil]
 refine a8 (a8<|yJ ?_);show wpAny _ _ (Builtin.SmallTypes.nextOf (.ref i1) >>= _) _ _ _
 cases hx:xs[k]? with
 | none=>
  refine a8 (b06 (s:={s with heap:=g1}) hh (h1.at λo e=>m1.extBut _ _ D.c e) (hl1.at λo e=>m1.extBut _ _ n1.1 e) hx λg2 e m2 he=> ?_)
  obtain⟨oe,hoe,hce⟩:=he;have z2:IsZip g2 z TI TO .ellipsis:=m2 _ _ D.c.symm z1;have ez:e≠z:=λq=>by subst q;rw[z2]at hoe;cases hoe;simp at hce
  refine pN z2 ae λg3 _ m3=>hE g3 e (λc o nc q=> ?_) ⟨oe,m3.extBut _ _ ez hoe,hce⟩
  obtain⟨c1,c2,c3,c4,c5⟩:=nin c nc;exact m3.extBut _ _ c1 (m2 _ _ c4<|m1.extBut _ _ c1 q)
 | some x=>
  have hy:ys[k]? =none:=by rcases hend with q|q;(rw[hx]at q;cases q);exact q
  refine a8 (aY1 (s:={s with heap:=g1}) (h1.at λo e=>m1.extBut _ _ D.c e) (hl1.at λo e=>m1.extBut _ _ n1.1 e) hx λg2 p2 m2=>aI ?_)
  have o2:IsPair g2 TO a0 b0:=m2.extBut _ _ D.h (m1.extBut _ _ D.b hO);refine a8 (kR o2 rfl ?_);refine a8 (aE8 o2 λg3 o3 m3=> ?_)
  refine a8 (wpAny_letGo<|aI ?_);refine a8 (a8<|yJ ?_);show wpAny _ _ (Builtin.SmallTypes.nextOf (.ref i2) >>= _) _ _ _
  refine a8 (b06 (s:={s with heap:=g3}) hh (h2.at λo e=>m3.extBut _ _ D.i.symm (m2.extBut _ _ D.j.symm<|m1.extBut _ _ D.d e)) (hl2.at λo e=>m3.extBut _ _ n2.2.2.1 (m2.extBut _ _ n2.2.2.2.1<|m1.extBut _ _ n2.1 e)) hy λg4 e m4 he=> ?_)
  obtain⟨oe,hoe,hce⟩:=he;have z4:IsZip g4 z TI TO .ellipsis:=m4 _ _ D.d.symm (m3.extBut _ _ D.b.symm<|m2.extBut _ _ D.c.symm z1);have ez:e≠z:=λq=>by subst q;rw[z4]at hoe;cases hoe;simp at hce
  refine pN z4 ae λg5 _ m5=>hE g5 e (λc o nc q=> ?_) ⟨oe,m5.extBut _ _ ez hoe,hce⟩
  obtain⟨c1,c2,c3,c4,c5⟩:=nin c nc;exact m5.extBut _ _ c1 (m4 _ _ c5<|m3.extBut _ _ c3<|m2.extBut _ _ c4<|m1.extBut _ _ c1 q)
end
noncomputable def Itz (K:Frag)(T1 T2:Bool)(l1 l2:Addr):It where
 go:=λi H=> ∃xs ys x y,SqV K T1 H l1 xs/\SqV K T2 H l2 ys/\xs[i]? =some x/\ys[i]? =some y
 yld:=λi H v H'=> ∃T x y,v= .ref T/\H T=none/\H'=upd H T (.tup [x,y])/\(∀xs,SqV K T1 H l1 xs->xs[i]? =some x)/\ ∀ys,SqV K T2 H l2 ys->ys[i]? =some y
 stop:=λi H=> ∃xs ys,SqV K T1 H l1 xs/\SqV K T2 H l2 ys/\(xs.length<=i\/ys.length<=i)
theorem ZSt.objs {T1 T2:Bool}{z TI TO i1 i2 l1 l2:Addr}{f0:Value}{i:Nat}{h:Heap}(st:ZSt T1 T2 z TI TO i1 i2 l1 l2 f0 i h): ∀b∈[z,TI,TO,i1,i2],∃o,h.get? b=some o/\ ∀v,o.data≠ .cell v:=λb hb=>by
 obtain⟨hz,hI,⟨a,c,hO⟩,h1,h2⟩:=st;simp only[aY,eN,eS]at hb;rcases hb with rfl|rfl|rfl|rfl|rfl
 ·exact⟨_,hz,λv q=>by cases q⟩
 ·exact⟨_,hI,λv q=>by cases q⟩
 ·exact⟨_,hO,λv q=>by cases q⟩
 ·exact h1.rec'
 ·exact h2.rec'
theorem bR4:2<=sizeLine:=ac
theorem cP1 {P:Program}{w:World}{K:Frag}{elts:List Expr}{kt:Nat}{tp:Pos}{T1 T2:Bool}{z TI TO i1 i2 l1 l2:Addr}(D:ZAp z TI TO i1 i2)(n1:l1 ∉ [z,TI,TO,i1,i2])(n2:l2 ∉ [z,TI,TO,i1,i2]) :
  bP5 P w K (.Tuple elts kt tp) (Itz K T1 T2 l1 l2) [z,TI,TO,i1,i2] z (ZSt T1 T2 z TI TO i1 i2 l1 l2 .none) where
 mem:=ae
 obj:=λi h st b hb=>st.objs b hb
 keep:=λi h h' st k=>by
  obtain⟨hz,hI,⟨a,c,hO⟩,h1,h2⟩:=st;exact⟨k z ae _ hz,k TI ae _ hI,⟨a,c,k TO ae _ hO⟩,h1.at λo e=>k i1 ae o e,h2.at λo e=>k i2 ae o e⟩
 item:=by
  intro X hP hw hK hc i pins s σ H E I hf st hg;subst hP hw hK;obtain⟨xs,ys,x,y,q1,q2,e1,e2⟩:=hg;obtain⟨is1,r1,p1,_⟩:=I.sq q1;obtain⟨is2,r2,p2,_⟩:=I.sq q2;obtain⟨u1,hu1,ru1⟩:=r1.get e1;obtain⟨u2,hu2,ru2⟩:=r2.get e2;have hT:s.TypeIs (.ref z) "zip":=⟨_,st.hz,rfl⟩;unfold pyNext
  refine a8 (tK<|kO (name:=Str.ofString "__next__") hT xT<|j2 xT hT PySem.F.entry_zip_next (cP0 D n1 n2 st p1 p2 (by simpa using hu1) (by simpa using hu2) λh' st' ht k=>aI ?_)<|PySem.F.args_zip_next_1 _)
  refine⟨_,rfl,wpAny_letOwnedTupleGo_zip st'.hz λh2 hz2 m=> ?_⟩
  have kk: ∀b u,b ∉ [z,TI,TO,i1,i2]->s.heap.get? b=some u->h2.get? b=some u:=λb u nb e=>m.extBut _ _ (λq=>nb (by simp[q])) (k b u nb e)
  have hne:s.heap.objs.size≠z:=pY (aQ st.hz);have ht2:IsPair h2 s.heap.objs.size u1 u2:=m.extBut _ _ hne ht;obtain⟨a',c',hO'⟩:=st'.hO;refine⟨.ref s.heap.objs.size,upd H s.heap.objs.size<|.tup [x,y],I.turnedNew (t':=s.toks) kk hf (aB _) ⟨bR4,[u1,u2],.cons ru1<|.cons ru2 .nil,⟨_,ht2,rfl,_,rfl⟩⟩,rfl,
   ⟨_,x,y,rfl,I.hok.fresh<|aB _,rfl,λxs' q=>by rw[I.sq_inj q q1];exact e1,λys' q=>by rw[I.sq_inj q q2];exact e2⟩,⟨hz2,m.extBut _ _ D.a st'.hI,⟨a',c',m.extBut _ _ D.b hO'⟩,st'.h1.at λo e=>m.extBut _ _ D.c e,st'.h2.at λo e=>m.extBut _ _ D.d e⟩,λb hb=> ?_⟩
  obtain⟨o,ho,_⟩:=st.objs b hb;rw[cE<|bK<|aQ ho];exact(hf b hb).1
 done:=by
  intro X hP hw hK hc i pins s σ H E I hf st hg;subst hP hw hK;obtain⟨xs,ys,q1,q2,hs⟩:=hg;obtain⟨is1,r1,p1,_⟩:=I.sq q1;obtain⟨is2,r2,p2,_⟩:=I.sq q2;have l1':=r1.length;have l2':=r2.length;have hT:s.TypeIs (.ref z) "zip":=⟨_,st.hz,rfl⟩;unfold pyNext
  refine a8 (tK<|kO (name:=Str.ofString "__next__") hT xT<|j2 xT hT PySem.F.entry_zip_next (cF6 (I.ok.hd hc) D n1 n2 st p1 p2 (by simp;omega) λh' e k he=> ?_)<|PySem.F.args_zip_next_1 _)
  obtain⟨o,ho,hc'⟩:=he;exact a8 (wpAny_isInstance (T:="StopIteration") (b:=true) ⟨o,ho,hc'⟩ isSubtype_stop<|aI ⟨rfl,I.turnedL (t':=s.toks) k hf⟩)
 self:=λ_ _ _ _ _ st h=>wpAny_pyIter_zip st.hz h
noncomputable abbrev zg1 (T1:Bool)(h:Heap)(l1:Addr):Heap:=h.push (a33 T1 l1)
noncomputable abbrev zg2 (T1 T2:Bool)(h:Heap)(l1 l2:Addr):Heap:=(zg1 T1 h l1).push (a33 T2 l2)
noncomputable abbrev zg3 (T1 T2:Bool)(h:Heap)(l1 l2:Addr):Heap:=(zg2 T1 T2 h l1 l2).push {cls:= .type "tuple",data:= .seq #[.ref h.objs.size,.ref (zg1 T1 h l1).objs.size]}
noncomputable abbrev zg4 (T1 T2:Bool)(h:Heap)(l1 l2:Addr):Heap:=(zg3 T1 T2 h l1 l2).push {cls:= .type "tuple",data:= .seq #[.none,.none]}
noncomputable abbrev zg5 (T1 T2:Bool)(h:Heap)(l1 l2:Addr):Heap:=(zg4 T1 T2 h l1 l2).push {cls:= .type "zip",data:= .fields #[.none,.bool false,.bool false,.ref (zg2 T1 T2 h l1 l2).objs.size,.ref (zg3 T1 T2 h l1 l2).objs.size]}
theorem d45 (T1 T2:Bool)(l1 l2:Addr)(xs ys:Array Value):Meets (Builtin.«zip.__new__» ⟨[.type "zip",.ref l1,.ref l2],[]⟩) (λ_ R s=>v5 T1 s.heap l1 xs/\v5 T2 s.heap l2 ys/\
  R (.ok<|.ret<|.ref (zg4 T1 T2 s.heap l1 l2).objs.size) {s with heap:=zg5 T1 T2 s.heap l1 l2}):= .of_wp λprog w A R s h=>by
 obtain⟨hp,g,d,tk,os⟩:=s;obtain⟨hl1,hl2,h⟩:=h;have hsub:=sub_zip;have e1:v5 T1 (Shared.heap ⟨hp,g,d,tk,os⟩) l1 xs:=hl1;have e2:v5 T2 (Shared.heap ⟨hp.push<|a33 T1 l1,g,d,tk,os⟩) l2 ys:=hl2.at λo e=>aO _ e
 wp_walk using a87 e1,a87 e2
 exact⟨_,rfl,h⟩
section
variable {prog:Program}{w:World}{A:Around}{E:Value->Shared->Prop}{s:Shared}
theorem cP2 {T1 T2:Bool}{l1 l2:Addr}{xs ys:Array Value}{Q:Value->Shared->Prop}(hl1:v5 T1 s.heap l1 xs)(hl2:v5 T2 s.heap l2 ys)
  (h: ∀h' z TI TO i1 i2,ZAp z TI TO i1 i2->(∀b∈[z,TI,TO,i1,i2],s.heap.objs.size<=b)->ZSt T1 T2 z TI TO i1 i2 l1 l2 .none 0 h'->(∀c o,s.heap.get? c=some o->h'.get? c=some o)->Q (.ref z) {s with heap:=h'}) :
  wpAny (model prog w) A (call (.type "zip") [.ref l1,.ref l2]) Q E s:=by
 refine callType_new PySem.F.called_zip ac (PySem.F.typeCall_zip_2 _ _) (PySem.F.newCall_zip_2 _ _) (λobj=>PySem.F.args_object_init_3 obj _ _) PySem.F.entry_zip_new (d45 T1 T2 l1 l2 xs ys) ⟨hl1,hl2,?_⟩
 have z1:(zg1 T1 s.heap l1).objs.size=s.heap.objs.size+1:=j3 ..;have z2:(zg2 T1 T2 s.heap l1 l2).objs.size=s.heap.objs.size+2:=by rw[j3,z1]
 have z3:(zg3 T1 T2 s.heap l1 l2).objs.size=s.heap.objs.size+3:=by rw[j3,z2]
 have z4:(zg4 T1 T2 s.heap l1 l2).objs.size=s.heap.objs.size+4:=by rw[j3,z3]
 have g5:(zg5 T1 T2 s.heap l1 l2).get? (zg4 T1 T2 s.heap l1 l2).objs.size=some _:=bY _ rfl;have g4:(zg5 T1 T2 s.heap l1 l2).get? (zg3 T1 T2 s.heap l1 l2).objs.size=some _:=aO _ (bY _ rfl);have g3:(zg5 T1 T2 s.heap l1 l2).get? (zg2 T1 T2 s.heap l1 l2).objs.size=some _:=aO _ (aO _<|bY _ rfl)
 have s2:v6 T2 (zg5 T1 T2 s.heap l1 l2) (zg1 T1 s.heap l1).objs.size l2 0:=(v6.new (zg1 T1 s.heap l1) l2).at λo e=>aO _ (aO _<|aO _ e)
 have s1:v6 T1 (zg5 T1 T2 s.heap l1 l2) s.heap.objs.size l1 0:=(v6.new s.heap l1).at λo e=>aO _ (aO _<|aO _<|aO _ e)
 have ap:ZAp (zg4 T1 T2 s.heap l1 l2).objs.size (zg2 T1 T2 s.heap l1 l2).objs.size (zg3 T1 T2 s.heap l1 l2).objs.size s.heap.objs.size (zg1 T1 s.heap l1).objs.size:=by
  rw[z1,z2,z3,z4];have k: ∀n a b:Nat,a≠b->n+a≠n+b:=λn a b h=>aa
  exact⟨k _ 2 4 ac,k _ 3 4 ac,k _ 0 4 ac,k _ 1 4 ac,k _ 2 3 ac,k _ 2 0 ac,k _ 2 1 ac,k _ 3 0 ac,k _ 3 1 ac,k _ 0 1 ac⟩
 refine⟨⟨_,g5,rfl⟩,h _ _ _ _ _ _ ap (λb hb=> ?_) ⟨g5,g3,⟨_,_,g4⟩,s1,s2⟩ λc o e=>aO _ (aO _<|aO _<|aO _<|aO _ e)⟩
 rw[z1,z2,z3,z4]at hb;simp only[aY,eN,eS]at hb;rcases hb with rfl|rfl|rfl|rfl|rfl<;>omega
end
section
variable {X:Cx}
def iZip (K:Frag)(ta:TA):TI:=λσ H R=>ta σ H λvs H1=> ∃l1 l2 T1 T2 xs ys,vs=[.ref l1,.ref l2]/\SqV K T1 H1 l1 xs/\SqV K T2 H1 l2 ys/\R (Itz K T1 T2 l1 l2) H1
theorem pi_zip {a b:Expr}{elts:List Expr}{kt:Nat}{tp:Pos}{ta:TA}{p pos:Pos}(hg:Gl X "zip")(hm:X.mg "zip"=none)(ha:PA X [a,b] ta)(hs:starEach [a,b] X.env=[(false,eval a X.env),(false,eval b X.env)]:=by rfl)(hs2:starEach [b] X.env=[(false,eval b X.env)]:=by rfl) :
  PI X (.Tuple elts kt tp) (.Call (.Name "zip" p) [a,b] [] pos) (iZip X.K ta):=by
 intro pins s σ H R I h;refine Call_ (vR I hg hm PyProof.Rows.boot_zip<|jN (thn (ha pos pins s σ H _ I h) λus s1 ⟨vs,H1,I1,r1,q1⟩=> ?_) (by rw[hs,hs2]) (by rw[hs2];rfl))
 obtain⟨l1,l2,T1,T2,xs,ys,e,q1,q2,q⟩:=q1;subst e;obtain⟨u,v,rfl,r,r'⟩:=Vals.two r1;cases r;cases r';obtain⟨is1,_,p1,_⟩:=I1.sq q1;obtain⟨is2,_,p2,_⟩:=I1.sq q2;refine cP2 p1 p2 λh' z TI TO i1 i2 ap fr st k=>wpAny_pyIter_zip st.hz ?_
 have nl: ∀l,l<s1.heap.objs.size->l ∉ [z,TI,TO,i1,i2]:=λl hl hb=>absurd (aX hl<|fr l hb) (dI _)
 exact⟨z,[z,TI,TO,i1,i2],_,_,H1,rfl,I1.kept (t':=s1.toks) k,cP1 ap (nl l1 p1.lt)<|nl l2 p2.lt,st,λb hb=>I1.fpOk (fr b hb) (I1.hok.fresh<|fr b hb),q⟩
end
theorem bR5 {prog:Program}{w:World}{A:Around}{T:Bool}(hh:A.handled=none)(it a:Addr)(hne:a≠it)(xs:Array Value):Draws prog w A it [it,a] xs.size (λi v=>xs[i]? =some v) (λi h=>v6 T h it a i/\v5 T h a xs) where
 live:=λ_ _ st=>let ⟨o,ho,_⟩:=st.1.rec';⟨o,ho⟩
 frame:=λ_ _ _ st k=>⟨st.1.at λo e=>k it ae o e,st.2.at λo e=>k a ae o e⟩
 item:=λi s Q E hi st hQ=>aY1 st.1 st.2 (x:=xs[i]) (by simp[hi]) λh' hit' m=>hQ _ h' s.toks (by simp[hi]) ⟨hit',st.2.at λo e=>m.extBut _ _ hne e⟩ m
 done:=λs Q E st hE=>b06 hh st.1 st.2 ae hE
noncomputable def Ite (K:Frag)(T:Bool)(l:Addr):It where
 go:=λi H=> ∃xs x,SqV K T H l xs/\xs[i]? =some x
 yld:=λi H v H'=> ∃Tn x,v= .ref Tn/\H Tn=none/\H'=upd H Tn (.tup [.int (i:Int),x])/\ ∀xs,SqV K T H l xs->xs[i]? =some x
 stop:=λi H=> ∃xs,SqV K T H l xs/\xs.length=i
def ESt (T:Bool)(e it l:Addr)(i:Nat)(h:Heap):Prop:=(∃old,IsEnum h e it i old)/\v6 T h it l i
theorem ESt.objs {T:Bool}{e it l:Addr}{i:Nat}{h:Heap}(st:ESt T e it l i h): ∀b∈[e,it],∃o,h.get? b=some o/\ ∀v,o.data≠ .cell v:=λb hb=>by
 obtain⟨⟨old,he⟩,h1⟩:=st;simp only[aY,eN,eS]at hb;rcases hb with rfl|rfl
 ·exact⟨_,he,λv q=>by cases q⟩
 ·exact h1.rec'
theorem cF7 {P:Program}{w:World}{K:Frag}{elts:List Expr}{kt:Nat}{tp:Pos}{T:Bool}{e it l:Addr}(hei:e≠it)(nl:l ∉ [e,it]):bP5 P w K (.Tuple elts kt tp) (Ite K T l) [e,it] e (ESt T e it l) where
 mem:=ae
 obj:=λi h st b hb=>st.objs b hb
 keep:=λi h h' st k=>by
  obtain⟨⟨old,he⟩,h1⟩:=st;exact⟨⟨old,k e ae _ he⟩,h1.at λo q=>k it ae o q⟩
 item:=by
  intro X hP hw hK hc i pins s σ H E I hf st hg;subst hP hw hK;obtain⟨xs,x,q1,e1⟩:=hg;obtain⟨is1,r1,p1,_⟩:=I.sq q1;obtain⟨u1,hu1,ru1⟩:=r1.get e1;simp only[aY,eN,eS,not_or]at nl;obtain⟨⟨old,he⟩,h1⟩:=id st;have hi:i<is1.toArray.size:=by rw[b9];exact(kN.mp hu1).1
  have D:=bR5 (prog:=X.prog) (w:=X.w) (A:=X.A.in1) (T:=T) (I.ok.hd hc) it l nl.2 is1.toArray;refine wpAny_pyNext_enum_itemD D he ⟨h1,p1⟩ hi hei (by simp[hei,Ne.symm nl.1]) λv h' tk hv ho hs' ht hsz k=>⟨_,rfl,wpAny_letOwnedTupleGo_enum ho λh2 he2 m=> ?_⟩
  have ev:v=u1:=by
   have:is1.toArray[i]? =some u1:=by simpa using hu1
   rw[this]at hv;cases hv;rfl
  subst ev;have hne:s.heap.objs.size≠e:=pY (aQ he);have kk: ∀b u,b ∉ [e,it]->s.heap.get? b=some u->h2.get? b=some u:=λb u nb q=>by
   simp only[aY,eN,eS,not_or]at nb;exact m.extBut _ _ nb.1 (k b u nb.1 nb.2 q)
  have ht2:h2.get? s.heap.objs.size=some {cls:= .type "tuple",data:= .seq #[.int i tk,v]}:=m.extBut _ _ hne ht;refine⟨.ref s.heap.objs.size,upd H s.heap.objs.size<|.tup [.int (i:Int),x],I.turnedNew (t':=tk+1) kk hf (aB _) ⟨bR4,[.int i tk,v],.cons ⟨tk,rfl⟩<|.cons ru1 .nil,⟨_,ht2,rfl,_,rfl⟩⟩,rfl,
   ⟨_,x,rfl,I.hok.fresh<|aB _,rfl,λxs' q=>by rw[I.sq_inj q q1];exact e1⟩,⟨⟨_,by simpa using he2⟩,hs'.1.at λo q=>m.extBut _ _ (Ne.symm hei) q⟩,λb hb=> ?_⟩
  obtain⟨o,ho',_⟩:=st.objs b hb;rw[cE<|bK<|aQ ho'];exact(hf b hb).1
 done:=by
  intro X hP hw hK hc i pins s σ H E I hf st hg;subst hP hw hK;obtain⟨xs,q1,hl⟩:=hg;obtain⟨is1,r1,p1,_⟩:=I.sq q1;have l1':=r1.length;simp only[aY,eN,eS,not_or]at nl;obtain⟨⟨old,he⟩,h1⟩:=id st;have D:=bR5 (prog:=X.prog) (w:=X.w) (A:=X.A.in1) (T:=T) (I.ok.hd hc) it l nl.2 is1.toArray
  refine wpAny_pyNext_enum_endD D he ⟨by rw[b9,<-l1',hl];exact h1,p1⟩ λh' ex=>⟨rfl,I.turnedL (t':=s.toks) (λb u nb q=>ex b u (λz=>nb (by simp[z])) q) hf⟩
 self:=λ_ _ _ _ _ st h=>by
  obtain⟨⟨old,he⟩,_⟩:=st;exact wpAny_pyIter_enum he h
theorem cF8 (l:Addr)(xs:Array Value):Meets (Builtin.«enumerate.__new__» ⟨[.type "enumerate",.ref l],[]⟩) (λ_ R s=>s.heap.IsTuple l xs/\
  R (.ok<|.ret<|.ref (s.heap.push<|a33 true l).objs.size) {s with heap:=(s.heap.push<|a33 true l).push {cls:= .type "enumerate",data:= .fields #[.none,.bool false,.ref s.heap.objs.size,rawInt 0,.none,.none]}}):= .of_wp λprog w A R s h=>by
 obtain⟨hp,g,d,tk,os⟩:=s;obtain⟨hl,h⟩:=h;obtain⟨⟨c,dct,dt,sl⟩,hg,hc,n,hd⟩:=id hl
 replace hc:c= .type "tuple":=hc
 replace hd:dt= .seq xs n:=hd
 subst hc hd;have hsub:=sub_enumerate;have e1:v5 true (Shared.heap ⟨hp,g,d,tk,os⟩) l xs:=hl
 wp_walk using aD2 hg
 refine wpAny_stack_any λst=>aI ?_
 split
 ·rename_i c _ _ _ _ _
  cases (c==Value.type "enumerate")<;>(wp_walk using aD2 hg,a87 e1;exact⟨_,rfl,h⟩)
 ·wp_walk using aD2 hg,a87 e1
  exact⟨_,rfl,h⟩
section
variable {prog:Program}{w:World}{A:Around}{E:Value->Shared->Prop}{s:Shared}
theorem cF9 {T:Bool}{l:Addr}{xs:Array Value}{Q:Value->Shared->Prop}(hl:v5 T s.heap l xs)
  (h: ∀h' e it,e≠it->s.heap.objs.size<=e->s.heap.objs.size<=it->ESt T e it l 0 h'->(∀c o,s.heap.get? c=some o->h'.get? c=some o)->Q (.ref e) {s with heap:=h'}) :
  wpAny (model prog w) A (call (.type "enumerate") [.ref l]) Q E s:=by
 cases T with
 | false=>exact call_enumerate_list hl λh' he hit hsz k=>h h' _ _ aa aa aa ⟨⟨_,he⟩,hit⟩ k
 | true=>
  refine callType_new PySem.F.called_enumerate ac (PySem.F.typeCall_enumerate_1 _) (PySem.F.newCall_enumerate_1 _) (λobj=>PySem.F.args_object_init_2 obj _) PySem.F.entry_enumerate_new (cF8 l xs) ⟨hl,?_⟩
  have z1:(s.heap.push<|a33 true l).objs.size=s.heap.objs.size+1:=j3 ..;have he:IsEnum ((s.heap.push<|a33 true l).push {cls:= .type "enumerate",data:= .fields #[.none,.bool false,.ref s.heap.objs.size,rawInt 0,.none,.none]}) (s.heap.push<|a33 true l).objs.size s.heap.objs.size 0 .none:=bY _ rfl
  have hi:v6 true ((s.heap.push<|a33 true l).push {cls:= .type "enumerate",data:= .fields #[.none,.bool false,.ref s.heap.objs.size,rawInt 0,.none,.none]}) s.heap.objs.size l 0:=(v6.new (T:=true) s.heap l).at λo e=>aO _ e
  exact⟨⟨_,he,rfl⟩,h _ _ _ (by rw[z1];omega) (by rw[z1];omega) (aB _) ⟨⟨_,he⟩,hi⟩ λc o e=>aO _ (aO _ e)⟩
end
section
variable {X:Cx}
def iEnum (K:Frag)(ta:TA):TI:=λσ H R=>ta σ H λvs H1=> ∃l T xs,vs=[.ref l]/\SqV K T H1 l xs/\R (Ite K T l) H1
theorem d46 {a:Expr}{elts:List Expr}{kt:Nat}{tp:Pos}{ta:TA}{p pos:Pos}(hg:Gl X "enumerate")(hm:X.mg "enumerate"=none)(ha:PA X [a] ta)(hs:starEach [a] X.env=[(false,eval a X.env)]:=by rfl) :
  PI X (.Tuple elts kt tp) (.Call (.Name "enumerate" p) [a] [] pos) (iEnum X.K ta):=by
 intro pins s σ H R I h;refine Call_ (vR I hg hm PyProof.Rows.boot_enumerate<|jN (thn (ha pos pins s σ H _ I h) λus s1 ⟨vs,H1,I1,r1,q1⟩=> ?_) hs rfl)
 obtain⟨l,T,xs,e,q1,q⟩:=q1;subst e;obtain⟨u,rfl,r⟩:=vals1 r1;cases r;obtain⟨is1,_,p1,_⟩:=I1.sq q1;refine cF9 p1 λh' e it ne f1 f2 st k=> ?_
 obtain⟨⟨old,he⟩,_⟩:=id st;refine wpAny_pyIter_enum he ?_;have lt:=p1.lt;have fr: ∀b∈[e,it],s1.heap.objs.size<=b:=λb hb=>by
  simp only[aY,eN,eS]at hb;rcases hb with rfl|rfl
  ·exact f1
  ·exact f2
 exact⟨e,[e,it],_,_,H1,rfl,I1.kept (t':=s1.toks) k,cF7 ne λhb=>absurd (aX lt<|fr l hb) (dI _),st,λb hb=>I1.fpOk (fr b hb) (I1.hok.fresh<|fr b hb),q⟩
end
end L2
end
section
namespace L2
open PySem PySem.Spec PyProof.Rows
theorem aW0:isSubtype (.type "range_iterator") (.type "reversed")=pure false:=by rw[pS];kernel_rfl
theorem aQ5 {n:Int}(h1: -(2^31)<=n)(h2:n<2^31):Builtin.Range.rangeFitsLong n=true:=by
 simp[Builtin.Range.rangeFitsLong]
 lia
noncomputable def aL2 (n:Int):Obj:={cls:= .type "range_iterator",data:= .fields #[rawInt<|(n.toNat:Int)-1,rawInt (n.toNat:Int),rawInt<|-1]}
theorem b93 (r:Addr)(a b c:Int)(t u v:Tok)(hc0: ¬(!(Builtin.Range.rangeFitsLong a&&Builtin.Range.rangeFitsLong b&&Builtin.Range.rangeFitsLong c&&Builtin.Range.rangeFitsLong (-c)&&Builtin.Range.rangeFitsLong (a-c)&&Builtin.Range.rangeFitsLong (Builtin.Range.rangeSize a b c)))=true) :
  Meets (Builtin.«range.__reversed__» ⟨[.ref r],[]⟩) (λ_ R s=>s.heap.get? r=some {cls:= .type "range",dict:=none,data:= .fields #[.int a t,.int b u,.int c v],slots:= #[]}/\
  R (.ok<|.ret<|Value.ref s.heap.objs.size) {s with heap:=s.heap.push {cls:=Value.type (if(Builtin.Range.rangeFitsLong a&&Builtin.Range.rangeFitsLong b&&Builtin.Range.rangeFitsLong c&&Builtin.Range.rangeFitsLong (-c)&&Builtin.Range.rangeFitsLong (a-c)&&Builtin.Range.rangeFitsLong (Builtin.Range.rangeSize a b c))=true then "range_iterator" else "longrange_iterator"),data:=Data.fields #[rawInt<|a+(Builtin.Range.rangeSize a b c-1)*c,rawInt<|Builtin.Range.rangeSize a b c,rawInt<|-c]},toks:=s.toks}):= .of_wp λprog w A R s h=>by
 obtain⟨hp,g,d,tk,os⟩:=s;obtain⟨hl,h⟩:=h
 wp_walk
 exact⟨_,rfl,h⟩
theorem aW1 (r:Addr)(n:Int)(t u v:Tok)(h1: -(2^31)<=n)(h2:n<2^31):Meets (Builtin.«range.__reversed__» ⟨[.ref r],[]⟩) (λ_ R s=>IsRange s.heap r 0 n 1 t u v/\
  R (.ok<|.ret<|.ref s.heap.objs.size) {s with heap:=s.heap.push (aL2 n)}):=by
 have e0:Builtin.Range.rangeSize 0 n 1=(n.toNat:Int):=by rw[rangeSize_one];split<;>lia
 have sm:(Builtin.Range.rangeFitsLong 0&&Builtin.Range.rangeFitsLong n&&Builtin.Range.rangeFitsLong 1&&Builtin.Range.rangeFitsLong (-1)&&Builtin.Range.rangeFitsLong (0-1)&&Builtin.Range.rangeFitsLong (Builtin.Range.rangeSize 0 n 1))=true:=by
  rw[e0,aQ5 h1 h2,aQ5 (n:=0) ac ac,aQ5 (n:=1) ac ac,aQ5 (n:= -1) ac ac,aQ5 (n:=0-1) ac ac,aQ5 (n:=(n.toNat:Int)) ad ad]
  rfl
 have G:=b93 r 0 n 1 t u v (by rw[sm];decide)
 intro prog w A R s h;refine G prog w A R s ⟨h.1,?_⟩;rw[sm,a7 rfl,e0];have e1:(0:Int)+((n.toNat:Int)-1)*1=(n.toNat:Int)-1:=ad
 rw[e1];exact h.2
section
variable {prog:Program}{w:World}{A:Around}{E:Value->Shared->Prop}{s:Shared}
theorem bR6 {r:Addr}{n:Int}{t u v:Tok}{Q₁:Value->Shared->Prop}(hr:IsRange s.heap r 0 n 1 t u v)(h1: -(2^31)<=n)(h2:n<2^31)
  (h:Q₁ (.ref s.heap.objs.size) {s with heap:=s.heap.push (aL2 n)}) :
  codeAny (model prog w) A (.call (.builtin "reversed.__new__") ⟨[.type "reversed",.ref r],[]⟩) (wants Q₁ E) s:=by
 have hT:s.TypeIs (.ref r) "range":=⟨_,hr,rfl⟩;refine codeAny_of_tree ?_;show wpAny _ A.in1 (do checkBuiltinCall "reversed.__new__" ⟨[.type "reversed",.ref r],[]⟩;again (.builtin "reversed.__new__" ⟨[.type "reversed",.ref r],[]⟩)) _ _ s;refine a8 (jZ (PySem.F.newCall_reversed_1 _)<|aI ⟨plainId_quiet PySem.F.plain_reversed_new _,codeAny_builtin PySem.F.entry_reversed_new ?_⟩)
 rw[Around.under_plainId PySem.F.plain_reversed_new _];unfold Builtin.«reversed.__new__»;refine a8 (jZ (newClass_reversed _) ?_);try dsimp only
 refine a8 (jZ (a:=()) (by first|rfl|kernel_rfl) ?_);refine a8 (jZ (a:=()) (by first|rfl|kernel_rfl) ?_);try dsimp only
 refine a8 (wpAny_specialOf hT PySem.F.slot_range_reversed.lookup ?_);try dsimp only
 refine a8 (jZ (PySem.F.slot_range_reversed.bind _) ?_);try dsimp only
 first
 | rw[a6<|show ¬((Value.builtin "range.__reversed__"==Value.none)=true)from bI]
 | (show wpAny _ _ (if(Value.builtin "range.__reversed__"==Value.none)=true then _ else _) _ _ _;rw[a6<|show ¬((Value.builtin "range.__reversed__"==Value.none)=true)from bI])
 refine a8 (qB ?_)
 refine a8 (m:=runValue (.call (.builtin "range.__reversed__") ⟨[.ref r],[]⟩)) (show wpAny _ _ (call (.builtin "range.__reversed__") [.ref r]) _ _ _ from kU PySem.F.slot_range_reversed hT PySem.F.entry_range_reversed (PySem.F.args_range_reversed_1 _) (aW1 r n t u v h1 h2) ⟨hr,?_⟩)
 first
 | exact aI h
 | exact a8 (aI<|aI h)
theorem d47 {r:Addr}{n:Int}{t u v:Tok}{Q:Value->Shared->Prop}(hr:IsRange s.heap r 0 n 1 t u v)(h1: -(2^31)<=n)(h2:n<2^31)(h:Q (.ref s.heap.objs.size) {s with heap:=s.heap.push (aL2 n)}) :
  wpAny (model prog w) A (call (.type "reversed") [.ref r]) Q E s:=by
 refine callType_other (U:="range_iterator") (Q₁:=λobj s₁=>obj= .ref s.heap.objs.size/\s₁={s with heap:=s.heap.push (aL2 n)}) af PySem.F.create_reversed ⟨_,_,PySem.F.mro_reversed⟩ PySem.F.made_reversed aW0 (PySem.F.typeCall_reversed_1 _) (bR6 hr h1 h2 ⟨rfl,rfl⟩) ?_
 rintro obj s₁ ⟨rfl,rfl⟩;exact⟨⟨_,bY _ rfl,rfl⟩,h⟩
end
section
variable {X:Cx}{tg:Expr}
def iRevR (ta:TA):TI:=λσ H R=>ta σ H λvs H1=> ∃j:Int,vs=[.int j]/\ -(2^31)<=j/\j<2^31/\R (Itd ((j.toNat:Int)-1) j.toNat) H1
theorem bR7 {a:Expr}{ta:TA}{p p2 pos pos2:Pos}(hg:Gl X "reversed")(hm:X.mg "reversed"=none)(hg2:Gl X "range")(hm2:X.mg "range"=none)(ha:PA X [a] ta)(hs:starEach [a] X.env=[(false,eval a X.env)]:=by rfl)
  (hs2:starEach [.Call (.Name "range" p2) [a] [] pos2] X.env=[(false,eval (.Call (.Name "range" p2) [a] [] pos2) X.env)]:=by rfl) :
  PI X tg (.Call (.Name "reversed" p) [.Call (.Name "range" p2) [a] [] pos2] [] pos) (iRevR ta):=by
 intro pins s σ H R I h;refine Call_ (vR I hg hm PyProof.Rows.boot_reversed<|jN ?_ hs2 rfl);rw[hs2];show wpAny _ _ (spliced ((false,eval (.Call (.Name "range" p2) [a] [] pos2) X.env)::[])) _ _ s;refine Calls.spliced_cons (Call_<|vR I hg2 hm2 boot_range<|jN (thn (ha pos2 pins s σ H _ I h) λus s1 ⟨vs,H1,I1,r1,q1⟩=> ?_) hs rfl)
 obtain⟨j,e,q1,q2,q⟩:=q1;subst e;obtain⟨u,rfl,t,rfl⟩:=vals1 r1;refine call_range_1 (Calls.spliced_nil ?_);have I2:Inv X pins σ H1 {s1 with heap:=s1.heap.push {cls:= .type "range",data:= .fields #[.int 0 s1.toks,.int j t,.int 1<|s1.toks+1]},toks:=s1.toks+1+1}:=I1.kept λb o e=>aO _ e
 refine d47 (IsRange.new ..) q1 q2 ?_
 have hi:IsRangeIter (((s1.heap.push {cls:= .type "range",data:= .fields #[.int 0 s1.toks,.int j t,.int 1<|s1.toks+1]})).push<|aL2 j) (s1.heap.push {cls:= .type "range",data:= .fields #[.int 0 s1.toks,.int j t,.int 1<|s1.toks+1]}).objs.size ((j.toNat:Int)-1) (j.toNat:Int) (-1):=bY _ rfl;refine aD8 hi ?_
 refine⟨_,[(s1.heap.push {cls:= .type "range",data:= .fields #[.int 0 s1.toks,.int j t,.int 1<|s1.toks+1]}).objs.size],_,_,H1,rfl,I2.kept (t':=s1.toks+1+1) λb o e=>aO _ e,bD6 _ ((j.toNat:Int)-1) j.toNat,?_,λb hb=> ?_,q⟩
 ·show IsRangeIter _ _ (((j.toNat:Int)-1)+((0:Nat):Int)*(-1)) ((j.toNat:Int)-((0:Nat):Int)) (-1)
  have e1:((j.toNat:Int)-1)+((0:Nat):Int)*(-1)=(j.toNat:Int)-1:=ae
  have e2:(j.toNat:Int)-((0:Nat):Int)=(j.toNat:Int):=ae
  rw[e1,e2];exact hi
 ·have e:b=(s1.heap.push {cls:= .type "range",data:= .fields #[.int 0 s1.toks,.int j t,.int 1<|s1.toks+1]}).objs.size:=by simpa using hb
  subst e;exact I2.fpOk (aB _) (I2.hok.fresh<|aB _)
theorem cP3:PGet X (rIxL X.K):=by
 intro pins s σ H o i ov iv Q I ro ri h;obtain⟨p,xs,k,z,rfl,rfl,hq,he,q⟩:=h;cases ro;obtain⟨t,rfl⟩:=ri;obtain⟨its,r,pl,hz⟩:=I.list hq;obtain⟨j,h1,h2,h3,h4,h5⟩:=aY0 he;obtain⟨w,ew,rw'⟩:=r.get h2;have hl:=r.length;have hn:=aP8;have fin:EP X pins σ Q w s:=⟨z,H,I,rw',q⟩
 by_cases h0:0<=k
 ·have hj:k.toNat=j:=by
   rw[yR h0 h5]at h1;exact gF h1
  exact wpAny_getItem_list pl.isList h0 ad (by rw[hj];simpa using ew) fin
 ·have hj:(k+(its.toArray.size:Int)).toNat=j:=by
   rw[yM ad h4]at h1
   rw[b9,<-hl];exact gF h1
  exact wpAny_getItem_list_neg pl.isList ad (by rw[b9]<;>lia) ad (by rw[hj];simpa using ew) fin
end
end L2
namespace HT
open PySem PyProof.Rows
section
variable {prog:Program}{w:World}{A:Around}{E:Value->Shared->Prop}{s:Shared}
theorem getItem_tuple_whole {t sl:Addr}{items:Array Value}{vl vu:Value}{lo hi:Option Int}{Q:Value->Shared->Prop}(ht:IsTup s.heap t items)(hs:s.heap.IsSliceOf sl vl vu .none)(pl:IsPart vl lo)(pu:IsPart vu hi)
  (hw:sIx items.size 0 lo=0/\sIx items.size items.size hi=items.size) (h:Q (.ref t) s):wpAny (model prog w) A (getItem (.ref t)<|.ref sl) Q E s:=by
 obtain⟨os,hos,hcs,hds⟩:=id hs;have hTs:s.TypeIs (.ref sl) "slice":=⟨os,hos,hcs⟩;unfold getItem;try with_reducible refine j4 ?_
 first|refine a8 (aI ?_)|skip
 refine a8 (wpAny_sequenceKey ht.typeIs ac ?_)
 refine a8 (kO (name:=Str.ofString "__getitem__") ht.typeIs xL<|j2 xL ht.typeIs entry_tuple_getitem ?_<|args_tuple_getitem _ _)
 show wpAny _ _ (Builtin.Tuple.tupleItemsOf (.ref t) >>= _) _ _ s
 refine a8 (tupleItemsOf_ ht ?_)
 refine a8 (yL hTs ?_)
 rw[a7 ac]
 refine a8 (wY hs pl pu ?_)
 have hyes:(((sIx items.size 0 lo:Nat):Int)==0&&(1:Int)==1&&(sIx items.size items.size hi-sIx items.size 0 lo)==items.size)=true:=by
  rw[hw.1,hw.2];simp
 show wpAny _ _ (if(((sIx items.size 0 lo:Nat):Int)==0&&(1:Int)==1&&(sIx items.size items.size hi-sIx items.size 0 lo)==items.size)=true then _ else _) _ _ s
 rw[a7 hyes];show wpAny _ _ (Builtin.Tuple.tupleIsExact (.ref t) >>= _) _ _ s;unfold Builtin.Tuple.tupleIsExact;refine a8 (a8<|yL ht.typeIs<|aI ?_);show wpAny _ _ (if(Value.type "tuple"==Value.type "tuple")=true then _ else _) _ _ s;rw[a7 ac]
 refine a8 (qB ?_)
 first
  | exact aI ⟨_,rfl,aI h⟩
  | exact a8 (aI<|aI ⟨_,rfl,aI h⟩)
  | exact a8 (aI ⟨_,rfl,aI h⟩)
end
end HT
namespace L2
open PySem PySem.Spec PyProof.Rows
section
variable {X:Cx}
def rSlW (K:Frag):V->Option Int->Option Int->Hp->VK->Prop:=λx lo hi H Q=> ∃a xs,x= .ref a/\SqT K H a xs/\(HT.sIx xs.length 0 lo=0/\HT.sIx xs.length xs.length hi=xs.length)/\Q (.ref a) H
theorem cP4:SlR X (rSlW X.K):=by
 intro pins s σ H x v vl vu lo hi sl Q I rx hs pl pu h;obtain⟨a,xs,rfl,hx,hw,q⟩:=h;cases rx;obtain⟨its,r,ht,hz⟩:=I.tuple hx;have hlen:its.toArray.size=xs.length:=by rw[b9];exact r.length.symm
 exact⟨"tuple",_,PyProof.Rows.slot_tuple_getitem.lookup,ht.typeIs,HT.getItem_tuple_whole ht hs pl pu (by rw[hlen];exact hw) ⟨.ref a,H,I,rfl,q⟩⟩
end
end L2
namespace M
open PySem PySem.Spec PyProof.Rows L2
section
variable {X:Cx}{K:Frag}{A:AS}{H:Hp}{e a b:Expr}{te ti:UE}{pos p2:Pos}{C:C0}{ρ ρ':Ev}{σ:L2.St}
def gSlT (d:D)(lo hi:Option Int)(Q:B->Prop):Prop:=match d with
 | .tup l=>Q (.pu<|.tup<|cutD l lo hi)
 | .lst l=>Q (.ow<|cutD l lo hi)
 | .rol l=>Q (.ow<|cutD l lo hi)
 | _=>False
def uSlT (t:UE)(tl th:UO):UE:=λρ Q=>t ρ λb0 ρ1=>tl ρ1 λlo ρ2=>th ρ2 λhi ρ3=>gSlT b0.d lo hi λb=>Q b ρ3
theorem cG0 (l:List D)(lo hi:Option Int)(h:HT.sIx l.length 0 lo=0/\HT.sIx l.length l.length hi=l.length):cutD l lo hi=l:=by
 unfold cutD;rw[h.1,h.2];simp
theorem cG1 {tl th:UO}{lo hi:Option Expr}(he:PU X e te)(hl:PUO X lo tl)(hu:PUO X hi th):PU X (.Subscript e (.Slice lo hi none p2) pos) (uSlT te tl th):=
 kC (bQ1 ((c88.or cM6).or cP4) he hl hu) λσ H Q ⟨C,ρ,Q0,I,h,k⟩=>⟨C,ρ,_,I,h,λb0 ρ1 v H1 q f s r=>by
  have I1:=(I.frz f).same s;have rr:=r.rep λa z=>I.avF f z
  refine⟨C,ρ1,_,I1,q,λl2 ρ2 H2 q2 f2 s2=> ?_⟩
  have I2:=(I1.frz f2).same s2;refine⟨C,ρ2,_,I2,q2,λh3 ρ3 H3 q3 f3 s3=> ?_⟩
  have I3:=(I2.frz f3).same s3;have s13:=s2.trans s3;have sAll:=s.trans s13;have fAll:=f.trans (f2.trans f3);have r':Rep X.K (Av C ρ3 σ) H3 b0.d v:=rr.mono (.sub s13 λa z=>f2.av (f3.av z))
  generalize b0.d=d at r' q3;cases d with
  | tup l=>
   have r2:=r';simp only[Rep]at r';obtain⟨a,vs,rfl,c,rs⟩:=r';have hlen:=rs.length
   by_cases hw:HT.sIx l.length 0 l2=0/\HT.sIx l.length l.length h3=l.length
   ·refine .inr ⟨a,vs,rfl,c.imp cU id,by rw[<-hlen];exact hw,k _ ρ3 _ _ q3 fAll sAll ?_⟩
    show Rep _ _ _ (.tup<|cutD l l2 h3) _
    rw[cG0 l l2 h3 hw];exact r2
   ·exact .inl (.inr ⟨a,vs,rfl,c.imp cU id,by rw[<-hlen];exact hw,λp n=>k _ ρ3 _ _ q3 fAll (sAll.trans<|fB n _) (iU (λa z=>I3.avSome z) n<|rs.cut l2 h3)⟩)
  | lst l=>
   simp only[Rep]at r';obtain⟨a,vs,rfl,n0,c,rs⟩:=r';exact .inl (.inl ⟨a,vs,rfl,SqL.of c,λp n=>k _ ρ3 _ _ q3 fAll (sAll.trans<|fB n _) (i6 sAll n<|rs.cut l2 h3)⟩)
  | rol l=>
   simp only[Rep]at r';obtain⟨a,vs,rfl,c,rs⟩:=r';exact .inl (.inl ⟨a,vs,rfl,c.imp cU id,λp n=>k _ ρ3 _ _ q3 fAll (sAll.trans<|fB n _) (i6 sAll n<|rs.cut l2 h3)⟩)
  | _=>exact(show False from q3).elim⟩
def cP5 (i:Nat)(f:Int->Int->Int)(ti te:UE):US:=λD ρ=>nX ρ i λ_=>ti ρ λj ρ1=>nX ρ1 i λl1=> ∃k n x,j.d= .int k/\ixN l1.length k=some n/\l1[n]? =some (.int x)/\
 te ρ1 λb ρ2=>nX ρ2 i λl=> ∃y,b.d= .int y/\D.nx (ρ2.set i<|some<|.ow<|l.set n<|.int<|f x y)
theorem d48 {x:Str}{p tpos:Pos}{ix:Expr}{op:Operator}{f:Int->Int->Int}(i:Nat)(hx:PE X (.Name x p) (aG9 i))(hi:PU X ix ti)(he:PU X e te)(hp:PIp X op (ipI f))
  (ha: ∀ov iv new,augStore ix ov iv new=(do holding [new,ov,iv] (setItem ov iv new);release [new,ov,iv] [];pure .next):=by intros;rfl):PUS X (.AugAssign (.Subscript (.Name x p) ix tpos) op e pos) (cP5 i f ti te):=
 sE (d10 hx hi cP3 he hp bQ3 ha) λD σ H ⟨C,ρ,D0,I,h,k⟩=>by
  obtain⟨l,hl,h⟩:=lH h;obtain⟨a,vs,h1,h2,h3,h4⟩:=I.ow i l hl;refine⟨.ref a,h1,C,ρ,_,I,h,λj ρ1 w H1 q f1 s1 r1=> ?_⟩
  obtain⟨l1,hl1,kk,n,x0,ej,en,ex,q⟩:=lH q;have e1:=f1.ow hl1;rw[hl]at e1;cases e1;have I1:=(I.frz f1).same s1;obtain⟨a1,vs1,g1,g2,g3,g4⟩:=I1.ow i l hl1;rw[h1]at g1;cases g1;have rj:=r1.rep λa z=>I.avF f1 z
  rw[ej]at rj;have:=bO rj;subst this;obtain⟨v0,ev0,rv0⟩:=g4.get ex;have:=bO rv0;subst this;have hat:L2.atI vs1 kk=some (.int x0):=by unfold L2.atI;rw[<-g4.length,en];exact ev0
  refine⟨a,vs1,kk,_,rfl,rfl,SqL.of g2,hat,C,ρ1,_,I1,q,λb ρ2 w2 H2 q2 f2 s2 r2=> ?_⟩
  obtain⟨l2,hl2,y,eb,q2⟩:=lH q2;have e2:=f2.ow hl2;rw[hl1]at e2;cases e2;have I2:=(I1.frz f2).same s2;obtain⟨a2,vs2,k1,k2,k3,k4⟩:=I2.ow i l hl2;rw[h1]at k1;cases k1;have rb:=r2.rep λa z=>I1.avF f2 z
  rw[eb]at rb;have:=bO rb;subst this;exact⟨x0,y,rfl,rfl,a,vs2,kk,n,rfl,rfl,k2,by rw[<-k4.length];exact en,k.nx _ _ _ q2<|I2.write hl2 h1<|k4.set n<|show Rep _ _ _ _ _ by simp only[Rep]⟩
mutual
noncomputable def pd:D->Option PyData
 | .non=>some .none
 | .bl b=>some (.bool b)
 | .int i=>some (.int i)
 | .tup l=>(pdL l).map .tuple
 | .lst l=>(pdL l).map .list
 | .rol l=>(pdL l).map .list
 | .str s=>if PyData.canLay0 (.str s)=true then some (.str s)else none
 | .ty _=>none
 | .obj _ _ _=>none
 | .adr _=>none
 | .xob _ _ _ _=>none
noncomputable def pdL:List D->Option (List PyData)
 | []=>some []
 | d::r=>(pd d).bind λx=>(pdL r).map (x::·)
end
theorem bR8 {d:D}{r:List D}{xs:List PyData}(h:pdL (d::r)=some xs): ∃x ys,xs=x::ys/\pd d=some x/\pdL r=some ys:=by
 simp only[pdL]at h;cases e:pd d with
 | none=>rw[e]at h;cases h
 | some x=>
  rw[e]at h;cases e2:pdL r with
  | none=>rw[e2]at h;cases h
  | some ys=>rw[e2]at h;cases h;exact⟨x,ys,rfl,rfl,rfl⟩
theorem sX {α β:Type}{o:Option α}{f:α->β}{y:β}(h:o.map f=some y): ∃x,o=some x/\y=f x:=by
 cases o with
 | none=>cases h
 | some x=>cases h;exact⟨x,rfl,rfl⟩
mutual
theorem c26: ∀(d:D) {x:PyData},pd d=some x->x.canLay0=true
 | .non,x,h=>by simp only[pd]at h;cases h;rfl
 | .bl b,x,h=>by simp only[pd]at h;cases h;rfl
 | .int i,x,h=>by simp only[pd]at h;cases h;rfl
 | .tup l,x,h=>by simp only[pd]at h;obtain⟨xs,e,rfl⟩:=sX h;simp only[PyData.canLay0];exact aY2 l e
 | .lst l,x,h=>by simp only[pd]at h;obtain⟨xs,e,rfl⟩:=sX h;simp only[PyData.canLay0];exact aY2 l e
 | .rol l,x,h=>by simp only[pd]at h;obtain⟨xs,e,rfl⟩:=sX h;simp only[PyData.canLay0];exact aY2 l e
 | .str s,x,h=>by simp only[pd]at h;split at h;(rename_i c;cases h;exact c);cases h
 | .ty _,x,h=>by simp only[pd]at h;cases h
 | .obj _ _ _,x,h=>by simp only[pd]at h;cases h
 | .adr _,x,h=>by simp only[pd]at h;cases h
 | .xob _ _ _ _,x,h=>by simp only[pd]at h;cases h
theorem aY2: ∀(l:List D) {xs:List PyData},pdL l=some xs->PyData.canLayAll0 xs=true
 | [],xs,h=>by simp only[pdL]at h;cases h;rfl
 | d::r,xs,h=>by
  obtain⟨x,ys,rfl,e1,e2⟩:=bR8 h;simp only[PyData.canLayAll0,dS];exact⟨c26 d e1,aY2 r e2⟩
end
section
variable {pins:List (Addr×Obj)}{s:Shared}
mutual
theorem aQ6 (I:Inv X pins σ H s): ∀(d:D) {x:PyData} {v:V} {u:Value},pd d=some x->Rep X.K A H d v->RelV v u-> ∃as,Reads s.heap u x as
 | .non,x,v,u,h,r,q=>by simp only[pd]at h;cases h;simp only[Rep]at r;subst r;cases q;exact⟨_,.none⟩
 | .bl b,x,v,u,h,r,q=>by simp only[pd]at h;cases h;simp only[Rep]at r;subst r;cases q;exact⟨_,.bool b⟩
 | .int i,x,v,u,h,r,q=>by simp only[pd]at h;cases h;simp only[Rep]at r;subst r;obtain⟨t,rfl⟩:=q;exact⟨_,.int i t⟩
 | .tup l,x,v,u,h,r,q=>by
  simp only[pd]at h;obtain⟨xs,e,rfl⟩:=sX h;simp only[Rep]at r;obtain⟨a,vs,rfl,c,rs⟩:=r;cases q;obtain⟨its,rv,⟨o,ho,hc,n,hd⟩,hz⟩:=I.tuple (c.imp cU id);obtain⟨as,ra⟩:=yY I l e rs rv;exact⟨_,.tuple ho hc hd<|by simpa using ra⟩
 | .lst l,x,v,u,h,r,q=>by
  simp only[pd]at h;obtain⟨xs,e,rfl⟩:=sX h;simp only[Rep]at r;obtain⟨a,vs,rfl,n0,c,rs⟩:=r;cases q;obtain⟨its,rv,p,hz⟩:=I.list (SqL.of c);obtain⟨o,ho,hc,n,hd⟩:=p.isList;obtain⟨as,ra⟩:=yY I l e rs rv;exact⟨_,.list ho hc hd<|by simpa using ra⟩
 | .rol l,x,v,u,h,r,q=>by
  simp only[pd]at h;obtain⟨xs,e,rfl⟩:=sX h;simp only[Rep]at r;obtain⟨a,vs,rfl,c,rs⟩:=r;cases q;obtain⟨its,rv,p,hz⟩:=I.list (c.imp cU id);obtain⟨o,ho,hc,n,hd⟩:=p.isList;obtain⟨as,ra⟩:=yY I l e rs rv;exact⟨_,.list ho hc hd<|by simpa using ra⟩
 | .str i,x,v,u,h,r,q=>by simp only[pd]at h;split at h<;>cases h;simp only[Rep]at r;subst r;obtain⟨t,rfl⟩:=q;exact⟨_,.str i t⟩
 | .ty _,x,v,u,h,r,q=>by simp only[pd]at h;cases h
 | .obj _ _ _,x,v,u,h,r,q=>by simp only[pd]at h;cases h
 | .adr _,x,v,u,h,r,q=>by simp only[pd]at h;cases h
 | .xob _ _ _ _,x,v,u,h,r,q=>by simp only[pd]at h;cases h
theorem yY (I:Inv X pins σ H s): ∀(l:List D) {xs:List PyData} {vs:List V} {us:List Value},pdL l=some xs->bS X.K A H l vs->Vals vs us-> ∃as,ReadsAll s.heap us xs as
 | [],xs,vs,us,h,r,q=>by simp only[pdL]at h;cases h;have:=r.unnil;subst this;cases q;exact⟨_,.nil⟩
 | d::l,xs,vs,us,h,r,q=>by
  obtain⟨x,ys,rfl,e1,e2⟩:=bR8 h;obtain⟨v,vr,rfl,r1,rs⟩:=r.uncons;cases q with
  | cons q1 q2=>
   obtain⟨as,h1⟩:=aQ6 I d e1 r1 q1;obtain⟨bs,h2⟩:=yY I l e2 rs q2;exact⟨_,.cons h1 h2⟩
end
end
def gEqD (neg:Bool)(d e:D)(Q:B->Prop):Prop:= ∃p q,pd d=some p/\pd e=some q/\p.depth<=60/\Q (.pu<|.bl<|neg ^^ p.eqv q)
theorem ou_eqD (hu:X.A.units+64<cLine):OpU X (compareOp .Eq) (gEqD false):=by
 intro A H d e v w Q0 Q hA r1 r2 g k;obtain⟨p,q,e1,e2,hd,g⟩:=g;refine⟨λx y H Q=> ∃(A:AS) (d e:D) (p q:PyData),Rep X.K A H d x/\Rep X.K A H e y/\pd d=some p/\pd e=some q/\p.depth<=60/\Q (.bl<|p.eqv q) H,?_,A,d,e,p,q,r1,r2,e1,e2,hd,k _ _ H g (.refl _) (by rw[nJ];exact tW)⟩
 rintro pins s σ H x y v u Q I rx ry ⟨A,d,e,p,q,r1,r2,e1,e2,hd,h⟩;obtain⟨as,ra⟩:=aQ6 I d e1 r1 rx;obtain⟨bs,rb⟩:=aQ6 I e e2 r2 ry;exact SeqAt.compareEq_reads ra rb (c26 d e1) (c26 e e2) ad ⟨.bl _,H,I,rfl,h⟩
def SqA (K:Frag)(A:AS)(H:Hp)(T:Bool)(a:Addr)(vs:List V):Prop:=match T with
 | false=>(¬A a/\Rd H a (.lst vs))\/KL K a vs
 | true=>(¬A a/\Rd H a (.tup vs))\/KT K a vs
theorem SqA.sqv {T:Bool}{a':Addr}{vs:List V}{A':AS}{H':Hp}(c:SqA K A H T a' vs)(P:mJ A H A' H'):SqV K T H' a' vs:=by
 cases T<;>(rcases c with⟨n,c⟩|c;exact .inl (Rd.pres P n c).2;exact .inr c)
theorem mJ.self:mJ A H A H:=λ_ _ n e=>⟨n,e⟩
theorem Rep.sq {d:D}{v:V}{l:List D}(r:Rep K A H d v)(h:oS d=some l): ∃T a vs,v= .ref a/\SqA K A H T a vs/\bS K A H l vs:=by
 cases d with
 | tup l'=>cases h;simp only[Rep]at r;obtain⟨a,vs,e,c,r⟩:=r;exact⟨true,a,vs,e,c,r⟩
 | lst l'=>cases h;simp only[Rep]at r;obtain⟨a,vs,e,n,c,r⟩:=r;exact⟨false,a,vs,e,.inl ⟨n,.inl c⟩,r⟩
 | rol l'=>cases h;simp only[Rep]at r;obtain⟨a,vs,e,c,r⟩:=r;exact⟨false,a,vs,e,c,r⟩
 | _=>cases h
theorem bS.at {l:List D}{vs:List V}{i:Nat}(r:bS K A H l vs)(hi:i<l.length): ∃x,vs[i]? =some x/\Rep K A H (l.getD i .non) x:=r.get (by rw[aG,aJ hi];rfl)
theorem cP6 {T1 T2:Bool}{l1 l2:Addr}{vs ws:List V}{l m:List D}(c1:SqA K A H T1 l1 vs)(c2:SqA K A H T2 l2 ws)(r1:bS K A H l vs)(r2:bS K A H m ws) :
  bR0 K A H (Itz K T1 T2 l1 l2) (min l.length m.length) (λi=> .tup [l.getD i .non,m.getD i .non]):=by
 have k1:=r1.length;have k2:=r2.length;refine⟨λA' H' i P hi=> ?_,λA' H' i x H'' P hA hi y=> ?_,λA' H' P=>⟨vs,ws,c1.sqv P,c2.sqv P,ad⟩⟩
 ·obtain⟨x,e1,_⟩:=r1.at (i:=i) ad
  obtain⟨y,e2,_⟩:=r2.at (i:=i) ad
  exact⟨vs,ws,x,y,c1.sqv P,c2.sqv P,e1,e2⟩
 ·obtain⟨x1,e1,q1⟩:=r1.at (i:=i) ad
  obtain⟨y1,e2,q2⟩:=r2.at (i:=i) ad
  obtain⟨T,a,b,rfl,hT,rfl,ha,hb⟩:=y;have ea:=ha vs (c1.sqv P);have eb:=hb ws (c2.sqv P);rw[e1]at ea;cases ea;rw[e2]at eb;cases eb;exact⟨fB hT _,iU hA hT<|.cons (q1.mono P)<|.cons (q2.mono P) .nil⟩
theorem cG2 {T:Bool}{l1:Addr}{vs:List V}{l:List D}(c1:SqA K A H T l1 vs)(r1:bS K A H l vs):bR0 K A H (Ite K T l1) l.length (λi=> .tup [.int (i:Int),l.getD i .non]):=by
 have k1:=r1.length;refine⟨λA' H' i P hi=> ?_,λA' H' i x H'' P hA hi y=> ?_,λA' H' P=>⟨vs,c1.sqv P,k1.symm⟩⟩
 ·obtain⟨x,e1,_⟩:=r1.at hi;exact⟨vs,x,c1.sqv P,e1⟩
 ·obtain⟨x1,e1,q1⟩:=r1.at hi;obtain⟨T,a,rfl,hT,rfl,ha⟩:=y;have ea:=ha vs (c1.sqv P);rw[e1]at ea;cases ea;exact⟨fB hT _,iU hA hT<|.cons (show Rep _ _ _ _ _ by simp only[Rep])<|.cons (q1.mono P) .nil⟩
def uZip (ta:UA):UI:=λρ Q=>ta ρ λds ρ1=>match ds with
 | [d,e]=>(match oS d,oS e with
  | some l,some m=>Q (min l.length m.length) (λi=> .tup [l.getD i .non,m.getD i .non]) ρ1
  | _,_=>False)
 | _=>False
theorem ui_zip {elts:List Expr}{kt:Nat}{tp p:Pos}{ta:UA}(hg:Gl X "zip")(hm:X.mg "zip"=none)(ha:PUA X [a,b] ta)(hs:starEach [a,b] X.env=[(false,eval a X.env),(false,eval b X.env)]:=by rfl)(hs2:starEach [b] X.env=[(false,eval b X.env)]:=by rfl) :
  PUI X (.Tuple elts kt tp) (.Call (.Name "zip" p) [a,b] [] pos) (uZip ta):=
 aU1 (pi_zip hg hm ha hs hs2) λσ H R ⟨C,ρ,Q0,I,h,k⟩=>⟨C,ρ,_,I,h,λds ρ1 vs H1 q f s r=>by
  split at q
  ·rename_i d e
   obtain⟨v,vr,rfl,rv,rr⟩:=r.uncons;obtain⟨w,wr,rfl,rw',rr'⟩:=rr.uncons;have:=rr'.unnil;subst this;split at q
   ·rename_i l m e1 e2
    obtain⟨T1,a1,us,rfl,c1,s1⟩:=rv.sq e1;obtain⟨T2,a2,ws,rfl,c2,s2⟩:=rw'.sq e2;exact⟨a1,a2,T1,T2,us,ws,rfl,c1.sqv .self,c2.sqv .self,k _ _ ρ1 _ H1 q f s<|cP6 c1 c2 s1 s2⟩
   ·exact q.elim
  ·exact q.elim⟩
def cP7 (ta:UA):UI:=λρ Q=>ta ρ λds ρ1=>match ds with
 | [d]=>(match oS d with
  | some l=>Q l.length (λi=> .tup [.int (i:Int),l.getD i .non]) ρ1
  | none=>False)
 | _=>False
theorem d49 {elts:List Expr}{kt:Nat}{tp p:Pos}{ta:UA}(hg:Gl X "enumerate")(hm:X.mg "enumerate"=none)(ha:PUA X [a] ta)(hs:starEach [a] X.env=[(false,eval a X.env)]:=by rfl) :
  PUI X (.Tuple elts kt tp) (.Call (.Name "enumerate" p) [a] [] pos) (cP7 ta):=
 aU1 (d46 hg hm ha hs) λσ H R ⟨C,ρ,Q0,I,h,k⟩=>⟨C,ρ,_,I,h,λds ρ1 vs H1 q f s r=>by
  split at q
  ·rename_i d
   obtain⟨v,vr,rfl,rv,rr⟩:=r.uncons;have:=rr.unnil;subst this;split at q
   ·rename_i l e1
    obtain⟨T1,a1,us,rfl,c1,s1⟩:=rv.sq e1;exact⟨a1,T1,us,rfl,c1.sqv .self,k _ _ ρ1 _ H1 q f s<|cG2 c1 s1⟩
   ·exact q.elim
  ·exact q.elim⟩
def cP8 (ta:UA):UI:=λρ Q=>ta ρ λds ρ1=>match ds with
 | [.int j]=>(-(2^31)<=j/\j<2^31)/\Q j.toNat (λk=> .int ((j.toNat:Int)-1-k)) ρ1
 | _=>False
theorem d50 {tg:Expr}{ta:UA}{p q2 pos2:Pos}(hg:Gl X "reversed")(hm:X.mg "reversed"=none)(hg2:Gl X "range")(hm2:X.mg "range"=none)(ha:PUA X [a] ta)(hs:starEach [a] X.env=[(false,eval a X.env)]:=by rfl)
  (hs2:starEach [.Call (.Name "range" q2) [a] [] pos2] X.env=[(false,eval (.Call (.Name "range" q2) [a] [] pos2) X.env)]:=by rfl) :
  PUI X tg (.Call (.Name "reversed" p) [.Call (.Name "range" q2) [a] [] pos2] [] pos) (cP8 ta):=
 aU1 (bR7 hg hm hg2 hm2 ha hs hs2) λσ H R ⟨C,ρ,Q0,I,h,k⟩=>⟨C,ρ,_,I,h,λds ρ1 vs H1 q f s r=>by
  split at q
  ·rename_i j
   obtain⟨v,vr,rfl,rv,rr⟩:=r.uncons;have:=rr.unnil;subst this;have:=bO rv;subst this;obtain⟨⟨h1,h2⟩,q⟩:=q;exact⟨j,rfl,h1,h2,k _ _ ρ1 _ H1 q f s bD8⟩
  ·exact q.elim⟩
end
end M
end
section
namespace M
open PySem PySem.Spec PyProof.Rows L2
end M
end
section
namespace L2
open PySem PySem.Spec PyProof.Rows
theorem aQ7:fillsNumberSlot (.type "tuple") "mul"=pure false:=
 PySem.fillsNumberSlot_seq (id:="tuple.__mul__") (r:=some (.builtin "tuple.__rmul__")) PySem.F.slot_tuple_mul.lookup af PySem.F.slot_tuple_rmul.lookup af
theorem bI8:seqRepeat? (.type "tuple")=pure (some<|.builtin "tuple.__mul__"):=by
 unfold seqRepeat?;rw[PySem.seqSlot_of (T:="tuple") (name:="__mul__") (id:="tuple.__mul__") PySem.F.slot_tuple_mul.lookup af,PySem.seqSlot_of (T:="tuple") (name:="__rmul__") (id:="tuple.__rmul__") PySem.F.slot_tuple_rmul.lookup af]
 rfl
theorem b07 (a:Int)(t:Tok)(l:Addr)(items:Array Value)(n:Nat)(dd:Option Addr)(sl:Array (Option Value)) :
  Meets (Builtin.«int.__rmul__» ⟨[.int a t,.ref l],[]⟩) (λ_ R s=>s.heap.get? l=some {cls:= .type "tuple",dict:=dd,data:= .seq items n,slots:=sl}/\R (.ok<|.ret Value.notImplemented) s):=
 .of_wp λprog w A R s h=>by obtain⟨hp,g,d,tk,os⟩:=s;obtain⟨hl,h⟩:=h;wp_walk using jS hl;exact⟨_,rfl,h⟩
theorem cP9 (l:Addr)(items:Array Value)(n:Nat)(dd:Option Addr)(sl:Array (Option Value))(u:Tok) :
  Meets (Builtin.«tuple.__mul__» ⟨[.ref l,.int 1 u],[]⟩) (λ_ R s=>s.heap.get? l=some {cls:= .type "tuple",dict:=dd,data:= .seq items n,slots:=sl}/\R (.ok<|.ret<|.ref l) s):=
 .of_wp λprog w A R s h=>by
  obtain⟨hp,g,d,tk,os⟩:=s;obtain⟨hl,h⟩:=h;have f1:=aG5
  wp_walk using jS hl
  exact⟨_,rfl,h⟩
theorem cQ0 (l:Addr)(items:Array Value)(n:Nat)(dd:Option Addr)(sl:Array (Option Value))(k:Int)(u:Tok)(h1: ¬(k< -(2^63)||k≥2^63)=true)(hne: ¬(items.isEmpty||k==1)=true)(h0:(k<=0||items.isEmpty)=true) :
  Meets (Builtin.«tuple.__mul__» ⟨[.ref l,.int k u],[]⟩) (λ_ R s=>s.heap.get? l=some {cls:= .type "tuple",dict:=dd,data:= .seq items n,slots:=sl}/\R (.ok<|.ret<|.ref s.heap.objs.size) {s with heap:=s.heap.push {cls:= .type "tuple",data:= .seq #[]}}):=
 .of_wp λprog w A R s h=>by
  obtain⟨hp,g,d,tk,os⟩:=s;obtain⟨hl,h⟩:=h;have f1:=aG5
  wp_walk using jS hl
  rw[a6 h1]
  wp_walk using jS hl
  exact⟨_,rfl,h⟩
theorem cQ1 (l:Addr)(items:Array Value)(n:Nat)(dd:Option Addr)(sl:Array (Option Value))(k:Int)(u:Tok)(h1: ¬(k< -(2^63)||k≥2^63)=true)(hne: ¬(items.isEmpty||k==1)=true)(h0: ¬(k<=0||items.isEmpty)=true)
  (h2: ¬items.size*k>(2^63-1)/8) (h3: ¬Builtin.Tuple.tupleTooMany (items.size*k)=true) (hz:(foldl (λx1 x2=>x1++x2) #[] (replicate k.toNat items)).size<=sizeLine) :
  Meets (Builtin.«tuple.__mul__» ⟨[.ref l,.int k u],[]⟩) (λ_ R s=>s.heap.get? l=some {cls:= .type "tuple",dict:=dd,data:= .seq items n,slots:=sl}/\R (.ok<|.ret<|.ref s.heap.objs.size) {s with heap:=s.heap.push {cls:= .type "tuple",data:= .seq (foldl (λx1 x2=>x1++x2) #[] (replicate k.toNat items))}}):=
 .of_wp λprog w A R s h=>by
  obtain⟨hp,g,d,tk,os⟩:=s;obtain⟨hl,h⟩:=h;have f1:=aG5
  wp_walk using jS hl
  rw[a6 h1]
  wp_walk using jS hl
  rw[a6 h2]
  wp_walk using jS hl
  all_goals first
   | exact⟨_,rfl,h⟩
   | (refine wpAny_ite_false (fF<|Nat.not_lt.mpr hz) ?_
      wp_walk using jS hl
      exact⟨_,rfl,h⟩)
section
variable {X:Cx}
theorem d51:OpR X (binaryOp .Mult) (λx y H Q=> ∃a k xs,x= .ref a/\y= .int k/\SqT X.K H a xs/\xs≠[]/\ -(2^63)<=k/\k<2^63/\xs.length*k.toNat<=sizeLine/\(k=1->Q (.ref a) H)/\(k≠1-> ∀p,H p=none->Q (.ref p) (upd H p<|.tup (replicate k.toNat xs).flatten))):=by
 intro pins s σ H x y v u Q I rx ry h;obtain⟨a,k,xs,rfl,rfl,ha,hn,h1,h2,hz,q1,q2⟩:=h;cases rx;obtain⟨t,rfl⟩:=ry;obtain⟨its,r,p1,_⟩:=I.tuple ha;have hl:=r.length;obtain⟨⟨cls,dd,data,sl⟩,ho,hc,n,hd⟩:=id p1;simp only at hc hd;subst hc hd;have ne:its≠[]:=λz=>hn (sZ.mp (by rw[hl,z];rfl))
 have ne2:its.toArray.isEmpty=false:=by cases its with
  | nil=>exact absurd rfl ne
  | cons b r'=>rfl
 have hb: ¬(decide (k< -(2^63))||decide (k≥2^63))=true:=by simp;omega
 have f0: ∀m:Nat,foldl (λx1 x2=>x1++x2) #[] (replicate m its.toArray)=(replicate m its).flatten.toArray:=λm=>by
  have:=foldl_rep its m [];rw[yD]at this;exact this
 refine wpAny_binaryOp_repeat_ref (T:="tuple") (U:="int") ac ⟨_,ho,rfl⟩ (λs'=>tT s' k t) aQ7 PySem.F.fills_int_mul PySem.F.slot_int_rmul bI8 PySem.F.slot_int_index.lookup
  (kU PySem.F.slot_int_rmul (tT s k t) PySem.F.entry_int_rmul (PySem.F.args_int_rmul_2 _ _) (b07 k t a its.toArray n dd sl) ⟨ho,rfl,⟨_,ho,rfl⟩,?_⟩)
 by_cases k1:k=1
 ·subst k1;exact kU aE2 ⟨_,ho,rfl⟩ aD5 (aD3 _ _) (cP9 a its.toArray n dd sl t) ⟨ho,.ref a,H,I,rfl,q1 rfl⟩
 have hne: ¬(its.toArray.isEmpty||k==1)=true:=by rw[ne2];simpa using k1
 by_cases k0:k<=0
 ·have e0:k.toNat=0:=aa
  refine kU aE2 ⟨_,ho,rfl⟩ aD5 (aD3 _ _) (cQ0 a its.toArray n dd sl k t hb hne<|by simp[k0]) ⟨ho,?_⟩
  have q:=q2 k1;rw[e0]at q;exact⟨.ref _,_,I.laid (t':=s.toks) (o:= .tup []) (λb ob q=>aO _ q) (aB _) ⟨eO _,_,.nil,tU _ _⟩,rfl,q _ I.fresh⟩
 ·have ek:k=(k.toNat:Int):=aa
  have em:(its.toArray.size:Int)*k=((its.toArray.size*k.toNat:Nat):Int):=by rw[aG8,<-ek]
  have hs:its.toArray.size*k.toNat<=sizeLine:=by rw[b9,<-hl];exact hz
  have hcap:(sizeLine:Nat)<=(2^63-1)/8:=ac
  refine kU aE2 ⟨_,ho,rfl⟩ aD5 (aD3 _ _) (cQ1 a its.toArray n dd sl k t hb hne (by rw[ne2];simp;omega) (by rw[em];omega) (by rw[em];unfold Builtin.Tuple.tupleTooMany;rw[fV];omega) (by rw[f0,b9,bH6,mul_comm];simpa using hs)) ⟨ho,?_⟩
  rw[f0];exact⟨.ref _,_,I.laid (t':=s.toks) (o:= .tup (replicate k.toNat xs).flatten) (λb ob q=>aO _ q) (aB _) ⟨by rw[bH6,mul_comm];exact hz,_,r.rep k.toNat,tU _ _⟩,rfl,q2 k1 _ I.fresh⟩
end
end L2
end
section
namespace L2
open PySem PySem.Spec PyProof.Rows
theorem cQ2:typeLookup (.type "tuple") "__reversed__"=pure none:=by rw[yF,xU];kernel_rfl
theorem sub_tuple_dict:isSubtype (.type "tuple") (.type "dict")=pure false:=by rw[pS];kernel_rfl
theorem bE0:Manifest.owners.lookup (String.ofList ['d','e','s','r','e','v','e','r'].reverse)=some Manifest.sig_reversed:=by kernel_rfl
theorem mQ:Slot "reversed" "__next__" "reversed.__next__":=
 .of (owner:="reversed") (n:="__next__") (by rw[yF,xU];kernel_rfl) af af af
  (by first|exact .inl af|exact .inr af) (by rw[pS];kernel_rfl)
theorem a34:entryFor table "reversed.__next__"=some Builtin.«reversed.__next__» :=entryFor_of_tree (by kernel_rfl)
theorem a08 (a:Value):argsOk "reversed.__next__" ⟨[a],[]⟩:=by
 unfold argsOk;rw[signature?_of (id:="reversed.__next__") (n:=['_','_','t','x','e','n','_','_']) (o:=['d','e','s','r','e','v','e','r']) (by kernel_rfl) bE0];kernel_rfl
theorem aB0:Slot "reversed" "__iter__" "reversed.__iter__":=
 .of (owner:="reversed") (n:="__iter__") (by rw[yF,xU];kernel_rfl) af af af
  (by first|exact .inl af|exact .inr af) (by rw[pS];kernel_rfl)
theorem aW2 (a:Value):argsOk "reversed.__iter__" ⟨[a],[]⟩:=by
 unfold argsOk;rw[signature?_of (id:="reversed.__iter__") (n:=['_','_','r','e','t','i','_','_']) (o:=['d','e','s','r','e','v','e','r']) (by kernel_rfl) bE0];kernel_rfl
theorem b08:entryFor table "reversed.__iter__"=some Builtin.«dict_keyiterator.__iter__» :=
 entryFor_alias (id':="dict_keyiterator.__iter__") (by kernel_rfl) (by first|rfl|decide +kernel| (unfold String.splitOn;simp +decide [String.splitOnAux])) af (by kernel_rfl)
theorem b94:Slot "reversed" "__init__" "object.__init__":=
 .of (owner:="object") (n:="__init__") (by rw[yF,xU];kernel_rfl) af af af
  (by first|exact .inl af|exact .inr af) (by rw[pS];kernel_rfl)
theorem c27:TypeCalled "reversed" "reversed.__new__" "object.__init__":=
 ⟨af,af,⟨_,_,PySem.F.mro_reversed⟩,PySem.F.made_reversed,af,by rw[pS];kernel_rfl,b94⟩
theorem d52 (l:Addr)(items:Array Value)(hfit:(items.size:Int)<2^63) :
  Meets (Builtin.«reversed.__new__» ⟨[.type "reversed",.ref l],[]⟩) (λ_ R s=>s.heap.IsTuple l items/\R (.ok<|.ret<|.ref s.heap.objs.size) {s with heap:=s.heap.push {cls:= .type "reversed",data:= .fields #[.ref l,rawInt<|(items.size:Int)-1]},toks:=s.toks+1+1}):=
 .of_wp λprog w A R s h=>by
  obtain⟨hp,g,d,tk,os⟩:=s;obtain⟨ht,h⟩:=h;obtain⟨⟨c,dct,dt,sl⟩,hl,hc,n,hd⟩:=id ht
  replace hc:c= .type "tuple":=hc
  replace hd:dt= .seq items n:=hd
  subst hc hd;have f1:=PySem.F.sub_reversed_self;have f2:=cQ2;have f4:=PySem.F.slot_tuple_getitem.lookup;have f5:=sub_tuple_dict;have e1:IsTup (Shared.heap ⟨hp,g,d,tk,os⟩) l items:=ht
  wp_walk using jS hl,PyProof.Rows.len_tuple e1 hfit
  exact⟨_,rfl,h⟩
def tY (h:Heap)(a l:Addr)(i:Int):Prop:= ∃o,h.get? a=some o/\o.cls= .type "reversed"/\o.data= .fields #[.ref l,rawInt i]
theorem tY.at {h h':Heap}{a l:Addr}{i:Int}(x:tY h a l i)(e: ∀o,h.get? a=some o->h'.get? a=some o):tY h' a l i:=let ⟨o,ho,r⟩:=x;⟨o,e _ ho,r⟩
section
variable {prog:Program}{w:World}{A:Around}{E:Value->Shared->Prop}{s:Shared}
theorem tY.typeIs {a l:Addr}{i:Int}(x:tY s.heap a l i):s.TypeIs (.ref a) "reversed":=let ⟨o,ho,hc,_⟩:=x;⟨o,ho,hc⟩
theorem cQ3 {l:Addr}{items:Array Value}{Q:Value->Shared->Prop}(hl:s.heap.IsTuple l items)(hfit:(items.size:Int)<2^63)
  (h:Q (.ref s.heap.objs.size) {s with heap:=s.heap.push {cls:= .type "reversed",data:= .fields #[.ref l,rawInt<|(items.size:Int)-1]},toks:=s.toks+1+1}) :
  wpAny (model prog w) A (call (.type "reversed") [.ref l]) Q E s:=
 callType_new c27 ac (PySem.F.typeCall_reversed_1 _) (PySem.F.newCall_reversed_1 _) (λobj=>PySem.F.args_object_init_2 obj _) PySem.F.entry_reversed_new (d52 l items hfit) ⟨hl,⟨_,bY _ rfl,rfl⟩,h⟩
theorem b09 {it l:Addr}{i:Int}{Q:Value->Shared->Prop}(hit:tY s.heap it l i)(h:Q (.ref it) s):wpAny (model prog w) A (pyIter<|.ref it) Q E s:=by
 refine wpAny_pyIter_slot hit.typeIs aB0 (j2 aB0 hit.typeIs b08 ?_<|aW2 _)
 show wpAny _ _ (ret<|.ref it) _ _ s
 exact aI ⟨_,rfl,"reversed",_,hit.typeIs,mQ.lookup,h⟩
theorem cQ4 {it l:Addr}{i:Nat}{items:Array Value}{x:Value}{Q:Option Value->Shared->Prop}(hit:tY s.heap it l (i:Int))(hl:s.heap.IsTuple l items)(hx:items[i]? =some x)(hfit:(i:Int)<2^63)
  (hQ: ∀h' tk,tY h' it l ((i:Int)-1)->SameBut it s.heap h'->Q (some x) {s with heap:=h',toks:=tk}):wpAny (model prog w) A (pyNext<|.ref it) Q E s:=by
 obtain⟨o,ho,hc,hd⟩:=id hit;have hlt:i<items.size:=(Array.getElem?_eq_some_iff.mp hx).1;have hi:seqIndex? (i:Int) items.size=some i:=by
  unfold seqIndex?;simp
  lia
 have tl:s.TypeIs (.ref l) "tuple":=hl.typeIs;unfold pyNext;refine a8 (tK (kO (name:=Str.ofString "__next__") hit.typeIs mQ
  (j2 mQ hit.typeIs a34 ?_<|a08 _)))
 unfold Builtin.«reversed.__next__»;refine a8 (jZ (a:=(Value.ref it,[])) rfl ?_);try dsimp only
 refine a8 (d7 ho hd (x:= .ref l) rfl ?_)
 refine a8 (d7 ho hd (x:=rawInt (i:Int)) rfl ?_)
 show wpAny _ _ (if(i:Int)<0 then _ else _) _ _ s
 rw[a6 ad]
 try dsimp only
 refine a8 (wpAny_specialOf tl PySem.F.slot_tuple_getitem.lookup ?_)
 try dsimp only
 rw[a6 ae]
 refine a8 (wpAny_mkInt ?_)
 have ht:IsTup s.heap l items:=hl;refine a8 (tK<|PyProof.Rows.getItem_tuple (s:={s with toks:=s.toks+1}) ht ad hfit hi hx ?_)
 try dsimp only
 refine a8 (d7 ho hd (x:=rawInt (i:Int)) rfl ?_)
 show wpAny _ _ (setField (.ref it) 1 (rawInt<|(i:Int)-1) >>= _) _ _ _
 refine a8 (tJ ho hd ae ?_)
 refine aI ⟨x,rfl,aI<|hQ _ _ ?_<|t7 ..⟩
 exact⟨_,pC _ ho<|aE5<|pM hd _,(Obj.cls_mapFields ..).trans hc,by
  rw[pM hd];simp⟩
theorem d53 {it l:Addr}{Q:Option Value->Shared->Prop}(hh:A.handled=none)(hit:tY s.heap it l (-1))
  (hQ: ∀h',ExtBut it s.heap h'->Q none {s with heap:=h'}):wpAny (model prog w) A (pyNext<|.ref it) Q E s:=by
 obtain⟨o,ho,hc,hd⟩:=id hit;unfold pyNext;refine a8 (tK (kO (name:=Str.ofString "__next__") hit.typeIs mQ
  (j2 mQ hit.typeIs a34 ?_<|a08 _)))
 unfold Builtin.«reversed.__next__»;refine a8 (jZ (a:=(Value.ref it,[])) rfl ?_);try dsimp only
 refine a8 (d7 ho hd (x:= .ref l) rfl ?_)
 refine a8 (d7 ho hd (x:=rawInt (-1)) rfl ?_)
 show wpAny _ _ (if(-1:Int)<0 then _ else _) _ _ s
 rw[a7 ac]
 refine a8 (qB ?_)
 refine a8 ?_
 show wpAny _ _ (setField (.ref it) 1 (rawInt<|-1) >>= λ_=>setField (.ref it) 0 .none) _ _ s
 refine a8 (tJ ho hd ae ?_)
 refine tJ (pC _ ho<|aE5<|pM hd _) (pM hd _) ae ?_
 first
 | show wpAny _ _ (newExc (.type "StopIteration") [] >>= _) _ _ _
 | (refine a8 ?_;show wpAny _ _ (newExc (.type "StopIteration") [] >>= _) _ _ _)
 refine a8 ?_
 simp only[newExc,newTuple];refine a8 (jR ?_<|by size_fits)
 refine a8 (m:=firstArgMember _ _) (jZ (a:=Value.none) (by first|rfl| (simp only[firstArgMember];rfl)) ?_)
 refine jR ?_ (by size_fits)
 simp only[raiseNew];refine a8 (wpAny_handled ?_)
 first|rw[show A.in1.handled=none from hh]|rw[hh]
 refine a8 (aI<|wpAny_throw ?_)
 refine a8 (wpAny_isInstance (T:="StopIteration") (b:=true) ⟨_,bY _ rfl,rfl⟩ isSubtype_stop ?_)
 refine aI (hQ _ ?_)
 exact((((t7 ..).trans<|t7 ..).extBut.push _).push _)
end
noncomputable def Itv (K:Frag)(l:Addr)(n:Nat):It where
 go:=λi H=>i<n/\ ∃xs,SqT K H l xs/\xs.length=n
 yld:=λi H v H'=>H'=H/\ ∀xs,SqT K H l xs->xs[n-1-i]? =some v
 stop:=λi H=>i=n
theorem cQ5 {P:Program}{w:World}{K:Frag}{tg:Expr}{it l:Addr}(n:Nat)(hz:n<=sizeLine):bP5 P w K tg (Itv K l n) [it] it (λi h=>tY h it l ((n:Int)-1-(i:Int))) where
 mem:=ae
 obj:=λi h st b hb=>by
  have e:b=it:=by simpa using hb
  subst e;obtain⟨o,ho,_,hd⟩:=st;exact⟨o,ho,λv z=>by rw[hd]at z;cases z⟩
 keep:=λi h h' st k=>st.at λo e=>k it ae _ e
 item:=by
  intro X hP hw hK hc i pins s σ H E I hf st hg;subst hP hw hK;obtain⟨f0,f1,f2,f3,f4,f5⟩:=hf it ae
  obtain⟨hi,xs,hq,hl⟩:=hg;obtain⟨its,r,p,_⟩:=I.tuple hq;have hlen:=r.length;have hx:xs[n-1-i]? =some (xs[n-1-i]'ad):=aJ ad
  obtain⟨u1,hu1,ru1⟩:=r.get hx;have e1:(n:Int)-1-(i:Int)=((n-1-i:Nat):Int):=ad
  have st':=st;rw[e1]at st';have big:(sizeLine:Int)<2^63:=ac
  refine cQ4 (items:=its.toArray) (x:=u1) st' p (by simpa using hu1) ad λh' tk hr m=> ?_
  have I1:Inv X pins σ H {s with heap:=h',toks:=tk}:=I.turned (λb o hb e=>m.extBut _ _ (by simpa using hb) e) f0 f1 f3 f4 f5
  have e2:((n-1-i:Nat):Int)-1=(n:Int)-1-((i+1:Nat):Int):=ad
  rw[e2]at hr;obtain⟨o,ho,hoc,hod⟩:=id hr;exact⟨_,rfl,bP6 (s:={s with heap:=h',toks:=tk}) (n:="reversed") ho hoc hod ac ⟨xs[n-1-i]'ad,H,I1,ru1,⟨rfl,λys hy=>by rw[I.tuple_inj hy hq];exact hx⟩,hr,λb hb=>(hf b hb).1⟩⟩
 done:=by
  intro X hP hw hK hc i pins s σ H E I hf st hg;subst hP hw hK;obtain⟨f0,f1,f2,f3,f4,f5⟩:=hf it ae
  have hg':i=n:=hg;have st':=st;rw[hg',show(n:Int)-1-(n:Int)= -1 by lia]at st'
  exact d53 (I.ok.hd hc) st' λh' eb=>⟨rfl,I.turned (t':=s.toks) (λb o hb e=>eb b o hb e) f0 f1 f3 f4 f5⟩
 self:=λ_ _ _ _ _ st h=>b09 st h
section
variable {X:Cx}{tg:Expr}
def iRevT (K:Frag)(ta:TA):TI:=λσ H R=>ta σ H λvs H1=> ∃l xs,vs=[.ref l]/\SqT K H1 l xs/\R (Itv K l xs.length) H1
theorem d54 {a:Expr}{ta:TA}{p pos:Pos}(hg:Gl X "reversed")(hm:X.mg "reversed"=none)(ha:PA X [a] ta)(hs:starEach [a] X.env=[(false,eval a X.env)]:=by rfl) :
  PI X tg (.Call (.Name "reversed" p) [a] [] pos) (iRevT X.K ta):=by
 intro pins s σ H R I h;refine Call_ (vR I hg hm PyProof.Rows.boot_reversed<|jN (thn (ha pos pins s σ H _ I h) λus s1 ⟨vs,H1,I1,r1,q1⟩=> ?_) hs rfl)
 obtain⟨l,xs,e,q1,q⟩:=q1;subst e;obtain⟨u,rfl,r⟩:=vals1 r1;cases r;obtain⟨its,rv,p1,hz⟩:=I1.tuple q1;have hl:=rv.length;have big:(sizeLine:Int)<2^63:=ac
 refine cQ3 p1 (by rw[b9];lia) ?_
 have hi:tY (s1.heap.push {cls:= .type "reversed",data:= .fields #[.ref l,rawInt<|(its.toArray.size:Int)-1]}) s1.heap.objs.size l ((xs.length:Int)-1-((0:Nat):Int)):=⟨_,bY _ rfl,rfl,by
  rw[b9,hl];simp⟩
 refine b09 (s:={s1 with heap:=s1.heap.push {cls:= .type "reversed",data:= .fields #[.ref l,rawInt<|(its.toArray.size:Int)-1]},toks:=s1.toks+1+1}) hi ?_
 refine⟨_,[s1.heap.objs.size],_,_,H1,rfl,I1.kept (t':=s1.toks+1+1) λb o e=>aO _ e,cQ5 xs.length hz,hi,λb hb=> ?_,q⟩
 have e:b=s1.heap.objs.size:=by simpa using hb
 subst e;exact I1.fpOk (aB _) (I1.hok.fresh<|aB _)
end
end L2
namespace M
open PySem PySem.Spec PyProof.Rows L2
section
variable {X:Cx}{A:AS}{H:Hp}{K:Frag}{pos:Pos}{a:Expr}
theorem cG3 {l1:Addr}{vs:List V}{l:List D}(c1:SqA K A H true l1 vs)(r1:bS K A H l vs):bR0 K A H (Itv K l1 vs.length) l.length (λi=>l.getD (l.length-1-i) .non):=by
 have k1:=r1.length;refine⟨λA' H' i P hi=>⟨aa,vs,c1.sqv P,rfl⟩,λA' H' i x H'' P hA hi y=> ?_,λA' H' P=>k1⟩
 obtain⟨x1,e1,q1⟩:=r1.at (i:=l.length-1-i) aa
 obtain⟨e,ha⟩:=y;subst e;have ea:=ha vs (c1.sqv P);rw[<-k1,e1]at ea;cases ea;exact⟨.refl _,q1.mono P⟩
def cQ6 (ta:UA):UI:=λρ Q=>ta ρ λds ρ1=>match ds with
 | [.tup l]=>Q l.length (λi=>l.getD (l.length-1-i) .non) ρ1
 | _=>False
theorem d55 {tg:Expr}{p:Pos}{ta:UA}(hg:Gl X "reversed")(hm:X.mg "reversed"=none)(ha:PUA X [a] ta)(hs:starEach [a] X.env=[(false,eval a X.env)]:=by rfl) :
  PUI X tg (.Call (.Name "reversed" p) [a] [] pos) (cQ6 ta):=
 aU1 (d54 hg hm ha hs) λσ H R ⟨C,ρ,Q0,I,h,k⟩=>⟨C,ρ,_,I,h,λds ρ1 vs H1 q f s r=>by
  split at q
  ·rename_i l
   obtain⟨v,vr,rfl,rv,rr⟩:=r.uncons;have:=rr.unnil;subst this;simp only[Rep]at rv;obtain⟨a1,us,rfl,c1,s1⟩:=rv;have c2:SqA _ _ _ true a1 us:=c1;exact⟨a1,us,rfl,c2.sqv .self,k _ _ ρ1 _ H1 q f s<|cG3 c2 s1⟩
  ·exact q.elim⟩
def c96 (d e:D)(Q:B->Prop):Prop:=match d,e with
 | .tup l,.int k=>(l≠[]/\ -(2^63)<=k/\k<2^63/\l.length*k.toNat<=sizeLine)/\Q (.pu<|.tup (replicate k.toNat l).flatten)
 | _,_=>False
theorem d56:OpU X (binaryOp .Mult) c96:=by
 intro A H d e v w Q0 Q hA r1 r2 g k;unfold c96 at g;split at g
 ·rename_i l kk
  have:=bO r2;subst this;simp only[Rep]at r1;obtain⟨a,vs,rfl,c1,rs1⟩:=r1;obtain⟨⟨h0,h1,h2,h3⟩,g⟩:=g;refine⟨_,d51,a,kk,vs,rfl,rfl,c1.imp cU id,λz=>h0 ?_,h1,h2,by rw[<-rs1.length];exact h3,λz=> ?_,λz p n=>k _ _ _ g (fB n _) (iU hA n<|rs1.rep _)⟩
  ·have:=rs1.length;rw[z]at this;exact sZ.mp this
  ·subst z;refine k _ _ H g (.refl _) ?_;show Rep X.K A H (.tup _) (.ref a);simp only[Rep];exact⟨a,vs,rfl,c1,by simpa using rs1⟩
 ·exact g.elim
end
end M
end
section
namespace M
open PySem PySem.Spec PyProof.Rows L2
section
variable {X:Cx}
theorem b10 {K:Frag}{A:AS}{H:Hp}: ∀r:List Int,bS K A H (r.map D.int) (r.map V.int)
 | []=> .nil
 | a::r=> .cons (by simp only[Rep]) (b10 r)
theorem d57 {x:Str}{a:Addr}{r:List Int}{p:Pos}(hg:Gl X x)(hm:X.mg x=some (.ref a))(hk:KT X.K a (r.map V.int))(hd:(x==("__debug__":Str))=false:=by decide):PU X (.Name x p) (uC<|.tup<|r.map .int):=
 c89 (c81 (v:= .ref a) hg hm rfl hd) λA H=>by
  simp only[Rep];exact⟨a,r.map V.int,rfl,.inr hk,b10 r⟩
theorem kt_of {K:Frag}{a:Addr}{od:Option Addr}{its:Array Value}{n:Nat}{sl:Array (Option Value)}{vs:List V}(hl:K.lookup a=some ⟨.type "tuple",od,.seq its n,sl⟩)(hz:its.size<=sizeLine)(hv:Vals vs its.toList):KT K a vs:=
 ⟨_,its,n,hl,rfl,rfl,hz,hv⟩
end
end M
end
section
namespace L2
open PySem PySem.Spec PyProof.Rows
end L2
namespace M
open PySem PySem.Spec PyProof.Rows L2
end M
end
section
namespace L2
open PySem PySem.Spec PyProof.Rows
end L2
namespace M
open PySem PySem.Spec PyProof.Rows L2
section
variable {X:Cx}{a:Expr}{pos:Pos}{ta:UE}
noncomputable def D.isN:D->Bool
 | .non=>true
 | _=>false
theorem c97 {K:Frag}{A:AS}{H:Hp}: ∀{d:D} {v:V},Rep K A H d v->decide (v= .non)=d.isN
 | .non,v,h=>by simp only[Rep]at h;subst h;rfl
 | .bl _,v,h=>by simp only[Rep]at h;subst h;rfl
 | .int _,v,h=>by simp only[Rep]at h;subst h;rfl
 | .str _,v,h=>by simp only[Rep]at h;subst h;rfl
 | .ty _,v,h=>by simp only[Rep]at h;subst h;rfl
 | .tup _,v,h=>by simp only[Rep]at h;obtain⟨a,vs,rfl,_⟩:=h;rfl
 | .lst _,v,h=>by simp only[Rep]at h;obtain⟨a,vs,rfl,_⟩:=h;rfl
 | .rol _,v,h=>by simp only[Rep]at h;obtain⟨a,vs,rfl,_⟩:=h;rfl
 | .obj _ _ _,v,h=>by simp only[Rep]at h;obtain⟨a,dx,vs,rfl,_⟩:=h;rfl
 | .adr _,v,h=>by simp only[Rep]at h;subst h;rfl
 | .xob _ _ _ _,v,h=>by simp only[Rep]at h;obtain⟨vs,rfl,_⟩:=h;rfl
def b95 (neg:Bool)(t:UE):UE:=λρ Q=>t ρ λb ρ1=>Q (.pu<|.bl<|neg ^^ b.d.isN) ρ1
theorem lIsN (σ:L2.St)(H:Hp)(Q:VK)(h:lE X.K (b95 false ta) σ H Q):tIsN (lE X.K ta) σ H Q:=by
 obtain⟨C,ρ,Q0,I,h,k⟩:=h;refine⟨C,ρ,_,I,h,λb ρ' v H' q f s r=> ?_⟩
 have e:=c97 (r.rep λa z=>I.avF f z)
 refine k _ ρ' _ H' q f s ?_
 show Rep _ _ _ _ _
 simp only[Rep,nJ];rw[e]
theorem lNotN (σ:L2.St)(H:Hp)(Q:VK)(h:lE X.K (b95 true ta) σ H Q):dC8 (lE X.K ta) σ H Q:=by
 obtain⟨C,ρ,Q0,I,h,k⟩:=h;refine⟨C,ρ,_,I,h,λb ρ' v H' q f s r=> ?_⟩
 have e:=c97 (r.rep λa z=>I.avF f z)
 refine k _ ρ' _ H' q f s ?_
 show Rep _ _ _ _ _
 simp only[Rep,pU];rw[e]
theorem bI9 {j pos'}(ha:PU X a ta):PUT X (.Compare a [.Is] [.Constant .none j pos'] pos) (fX<|b95 false ta):=bQ4 (cK7<|pc_isN ha) λσ H Q h=>lIsN σ H _ (d26 σ H Q h)
theorem bR9 {j pos'}(ha:PU X a ta):PUT X (.Compare a [.IsNot] [.Constant .none j pos'] pos) (fX<|b95 true ta):=bQ4 (cK7<|d05 ha) λσ H Q h=>lNotN σ H _ (d26 σ H Q h)
end
end M
end
section
namespace M
open PySem PySem.Spec PyProof.Rows L2
noncomputable def ltL:List Int->List Int->Bool
 | [],[]=>false
 | [],_::_=>true
 | _::_,[]=>false
 | a::x,b::y=>if a=b then ltL x y else decide (a<b)
section
variable {prog:Program}{w:World}{A:Around}{E:Value->Shared->Prop}{s:Shared}
theorem cQ7 {a:Addr}{u v:Value}{n:Nat}{lt:Bool}{P:PySem.Fin->Shared->Prop}(ho:s.heap.get? a=some (seqObj "list" [u,v].toArray n))
  (hy: ∀h':Heap,(∀b o,b≠a->s.heap.get? b=some o->h'.get? b=some o)-> ∃κ:SortKind,
   (∀Q:SortKind->Shared->Prop,Q κ {s with heap:=h'}->wpAny (model prog w) A (keyKind' [u,v].toArray) Q (λ_ _=>False) {s with heap:=h'})/\
   (∀Q:Bool->Shared->Prop,Q lt {s with heap:=h'}->wpAny (model prog w) A (keyLt' κ v u) Q (λ_ _=>False) {s with heap:=h'}))
  (fi:P (.done<|.ret .none) {s with heap:=sortedHeap s.heap a [u,v] (if lt=true then [v,u].toArray else [u,v].toArray)}) :
  wpAny (model prog w) A (Builtin.«list.sort» ⟨[.ref a],[]⟩) P E s:=by
 rw[list_sort_plain];have la:a<s.heap.objs.size:=aQ ho;refine a8 (listItems_at ho rfl ?_);refine a8 (listUpdate_at ho rfl ?_ (show 2<=sizeLine by decide) (eO _))
 obtain⟨c1,h1⟩: ∃c1,(s.heap.update a<|Obj.mapSeq λ_=> #[]).get? a=some (seqObj "list" #[] c1):=⟨_,get?_update_seq ho λ_=> #[]⟩
 refine a8 (seqEpoch_at h1 rfl ?_)
 refine a8 (wpAny_newTuple ?_<|show 2<=sizeLine by decide)
 refine a8 (wpAny_newList ?_<|eO _)
 refine j4 ?_
 have h6:(((s.heap.update a<|Obj.mapSeq λ_=> #[]).push<|seqObj "tuple" [u,v].toArray 0).push<|seqObj "list" #[] 0).get? a=some (seqObj "list" #[] c1):=by
  rw[pO _ _ _ (by rw[size_push',tF];exact bK (kQ la))]
  rw[pO _ _ _ (by rw[tF];exact bK la)]
  exact h1
 have kp: ∀b o,b≠a->s.heap.get? b=some o->(((s.heap.update a<|Obj.mapSeq λ_=> #[]).push<|seqObj "tuple" [u,v].toArray 0).push<|seqObj "list" #[] 0).get? b=some o:=λb o ne q=>by
  have lb:b<s.heap.objs.size:=aQ q;rw[pO _ _ _ (by rw[size_push',tF];exact bK (kQ lb))]
  rw[pO _ _ _ (by rw[tF];exact bK lb),xX _ _ _ _ ne]
  exact q
 obtain⟨κ,y1,y2⟩:=hy _ kp;show wpAny (model prog w) A _ P E {s with heap:=((s.heap.update a<|Obj.mapSeq λ_=> #[]).push<|seqObj "tuple" [u,v].toArray 0).push (seqObj "list" #[] 0)}
 dsimp only;have n2: ¬[u,v].toArray.size<2:=show ¬2<2 by decide
 rw[a6 n2,a6 n2];refine a8 (bL (y1 (λk s'=>k=κ/\s'={s with heap:=((s.heap.update a<|Obj.mapSeq λ_=> #[]).push<|seqObj "tuple" [u,v].toArray 0).push (seqObj "list" #[] 0)}) ⟨rfl,rfl⟩) ?_ λ_ _ z=>z.elim)
 rintro k s' ⟨rfl,rfl⟩;refine a8 (bL (PySem.W.kat_run (ks:=[u,v]) (vs:=[u,v]) (Q:=λst' s'=>s'={s with heap:=((s.heap.update a<|Obj.mapSeq λ_=> #[]).push<|seqObj "tuple" [u,v].toArray 0).push (seqObj "list" #[] 0)}/\failedOf st'=none/\(arrOf st').map (·.2)=(if lt=true then [v,u].toArray else [u,v].toArray))
  (G:=λp s'=>s'={s with heap:=((s.heap.update a<|Obj.mapSeq λ_=> #[]).push<|seqObj "tuple" [u,v].toArray 0).push (seqObj "list" #[] 0)}/\p=(if lt=true then #[1,0]else #[0,1]))
  rfl (show 2<=2 by decide) (show 2<64 by decide) (λp st' s' _ e2 e3 ⟨e4,e5⟩=>⟨e4,e3,?_⟩) ?_) ?_ λ_ _ z=>z)
 ·rw[PySem.W.kat_snds rfl e2,e5];cases lt<;>rfl
 ·show wpAny (model prog w) A (keyLt' k v u) _ (λ_ _=>False) _
  refine y2 _ ?_
  cases lt
  ·exact⟨rfl,rfl⟩
  ·refine⟨rfl,?_⟩
   rw[a7 rfl];dsimp only[List.length_cons,List.length_nil]
   decide +kernel
 ·rintro⟨⟨⟩,st'⟩ s' ⟨rfl,e3,e4⟩;dsimp only;rw[e4];refine a8 (seqEpoch_at h6 rfl ?_);refine a8 (listUpdate_at h6 rfl ?_ (eO _) (by cases lt<;>exact(show 2<=sizeLine+1 by decide)))
  rw[e3];simp only[bne_self_eq_false,Bool.false_eq_true,iI];exact aI fi
theorem c28 {l:Addr}{u v:Value}{lt:Bool}{Q:Value->Shared->Prop}(hl:s.heap.IsList l [u,v].toArray)
  (hy: ∀(h':Heap) (A:Around),(∀b o,s.heap.get? b=some o->h'.get? b=some o)-> ∃κ:SortKind,
   (∀Q:SortKind->Shared->Prop,Q κ {s with heap:=h'}->wpAny (model prog w) A (keyKind' [u,v].toArray) Q (λ_ _=>False) {s with heap:=h'})/\
   (∀Q:Bool->Shared->Prop,Q lt {s with heap:=h'}->wpAny (model prog w) A (keyLt' κ v u) Q (λ_ _=>False) {s with heap:=h'}))
  (fi:Q (.ref<|s.heap.objs.size+1) {s with heap:=sortedAll s.heap [u,v] (if lt=true then [v,u].toArray else [u,v].toArray)}) :
  wpAny (model prog w) A (call (.builtin "sorted") [.ref l]) Q E s:=by
 refine Calls.call_function_entry kind_sorted plain_sorted entry_sorted (args_sorted1 _) ?_
 unfold Builtin.«sorted»;refine a8 (m:=checkCount "sorted" 1 1 _) (aI ?_);refine a8 (collect_list hl ?_<|show 2<=sizeLine by decide)
 refine a8 (wpAny_newList ?_<|show 2<=sizeLine by decide)
 have hz:((s.heap.push<|seqObj "list" #[] 0).update s.heap.objs.size (Obj.mapSeq (· ++[u,v].toArray))).objs.size=s.heap.objs.size+1:=by rw[tF,size_push']
 have hL:(((s.heap.push<|seqObj "list" #[] 0).update s.heap.objs.size (Obj.mapSeq (· ++[u,v].toArray))).push<|seqObj "list" [u,v].toArray 0).get? (s.heap.objs.size+1)=some (seqObj "list" [u,v].toArray 0):=by
  rw[<-hz];exact bY _ rfl
 have kp: ∀b o,s.heap.get? b=some o->(((s.heap.push<|seqObj "list" #[] 0).update s.heap.objs.size (Obj.mapSeq (· ++[u,v].toArray))).push<|seqObj "list" [u,v].toArray 0).get? b=some o:=λb o q=>by
  have lb:b<s.heap.objs.size:=aQ q;rw[pO _ _ _ (by rw[hz];exact bK (kQ lb))]
  rw[xX _ _ _ _<|bK lb,pO _ _ _<|bK lb];exact q
 show wpAny _ _ _ _ _ {s with heap:=((s.heap.push<|seqObj "list" #[] 0).update s.heap.objs.size (Obj.mapSeq (· ++[u,v].toArray))).push (seqObj "list" [u,v].toArray 0)}
 rw[hz];refine a8 (j4<|j2 slot_list_sort ⟨_,hL,rfl⟩ entry_list_sort (cQ7 (lt:=lt) hL (λh' k=> ?_) ⟨_,rfl,?_⟩)<|args_list_sort _)
 ·exact hy h' _ λb o q=>k b o (bK<|kQ<|aQ q) (kp b o q)
 ·exact aI ⟨_,rfl,fi⟩
theorem bS0 {Q:Bool->Shared->Prop}{fin:Bool}: ∀(us ws:List Int) (x y:List Value) (i:Nat),Vals (us.map V.int) x->Vals (ws.map V.int) y->fin=decide (us.length<ws.length)->Q (ltL us ws) s->PySem.W.KatLex prog w A true fin Q (x.zip y) i s
 | [],[],x,y,i,hx,hy,hf,q=>by
  cases hx;cases hy;rw[hf];exact q
 | [],b::ws,x,y,i,hx,hy,hf,q=>by
  cases hx;rw[hf];exact q
 | a::us,[],x,y,i,hx,hy,hf,q=>by
  cases hx;cases hy;rw[hf];exact q
 | a::us,b::ws,x,y,i,hx,hy,hf,q=>by
  rw[d6]at hx hy;cases hx with
  | cons r1 hx=>
   cases hy with
   | cons r2 hy=>
    obtain⟨t1,rfl⟩:=r1;obtain⟨t2,rfl⟩:=r2;rw[aF5];refine PySem.W.kat_cons (wpAny_eqBool_int ?_)
    by_cases c:a=b
    ·subst c;rw[aG6];refine PySem.W.kat_yes (bS0 us ws _ _ (i+1) hx hy (by rw[hf];simp) ?_)
     unfold ltL at q;rw[a7 rfl]at q;exact q
    ·rw[show(a==b)=false by simpa using c]
     refine PySem.W.kat_no ?_
     unfold ltL at q;rw[a6 c]at q;cases e:(true&&i==0)
     ·exact PySem.W.kat_one _ _ (lt_int q)
     ·exact oneLt_int q
end
section
variable {X:Cx}
theorem c29:sD X (.builtin "sorted") (λxs H Q=> ∃(p a1 a2:Addr) (i j:Int) (us ws:List Int),xs=[.ref p]/\SqL X.K H p [.ref a1,.ref a2]/\SqT X.K H a1 ((i::us).map V.int)/\SqT X.K H a2 ((j::ws).map V.int)/\
  ∀l,H l=none->Q (.ref l) (upd H l<|.lst<|if ltL (j::ws) (i::us)=true then [.ref a2,.ref a1]else [.ref a1,.ref a2])):=by
 intro pins s σ H xs us' Q I r h;obtain⟨p,a1,a2,i,j,us,ws,rfl,hq,t1,t2,q⟩:=h;obtain⟨u,rfl,rx⟩:=vals1 r;cases rx;obtain⟨its,rv,pl,hz⟩:=I.list hq;obtain⟨x1,r1,k1,z1⟩:=I.tuple t1;obtain⟨x2,r2,k2,z2⟩:=I.tuple t2;cases rv with
 | cons g1 rv=>
 cases rv with
 | cons g2 rv=>
 cases rv;cases g1;cases g2;refine c28 (lt:=ltL (j::ws) (i::us)) pl.isList (λh' A kp=> ?_) ?_
 ·obtain⟨o1,ho1,hc1,n1,hd1⟩:=k1;obtain⟨o2,ho2,hc2,n2,hd2⟩:=k2;rw[d6]at r1 r2;cases r1 with
  | cons f1 r1=>
  cases r2 with
  | cons f2 r2=>
  have v1:Vals ((i::us).map V.int) _:= .cons f1 r1;have v2:Vals ((j::ws).map V.int) _:= .cons f2 r2;obtain⟨t1,rfl⟩:=f1;obtain⟨t2,rfl⟩:=f2;refine⟨tuples'<|Value.type "int" != Value.type "tuple",λQ' q'=> ?_,λQ' q'=> ?_⟩
  ·refine PySem.W.kat_kind (fs:=[.int i t1,.int j t2]) (T:= .type "int") (.cons (kp _ _ ho1) hc1 hd1 rfl (.cons (kp _ _ ho2) hc2 hd2 rfl .nil)) (cQ _) (λv hv=> ?_) ac q'
   rcases aY.mp hv with rfl|hv
   ·exact .now
   ·rw[jQ.mp hv];exact .now
  ·have e:(Value.type "int" != Value.type "tuple")=true:=ac
   rw[e];refine PySem.W.kat_lt (kp _ _ ho2) hd2 (kp _ _ ho1) hd1 (bS0 _ _ _ _ 0 (by simpa using v2) (by simpa using v1) ?_ q')
   have l1:=v1.length;have l2:=v2.length;simp only[aC]at l1 l2;simp only[b9];rw[<-l1,<-l2]
 ·refine⟨.ref<|s.heap.objs.size+1,_,?_,rfl,q (s.heap.objs.size+1)<|I.hok.fresh<|tO _⟩
  obtain⟨c,hc⟩:=sortedAll_at s.heap [Value.ref a1,Value.ref a2] (if ltL (j::ws) (i::us)=true then [Value.ref a2,Value.ref a1].toArray else [Value.ref a1,Value.ref a2].toArray);refine I.laid (t':=s.toks) (λb o e=>sortedAll_old e) (tO _) ?_
  by_cases e:ltL (j::ws) (i::us)=true
  ·rw[a7 e]at hc⊢;exact⟨show 2<=sizeLine by decide,[.ref a2,.ref a1],c,.cons rfl (.cons rfl .nil),by rw[a7 e];exact hc⟩
  ·rw[a6 e]at hc⊢;exact⟨show 2<=sizeLine by decide,[.ref a1,.ref a2],c,.cons rfl (.cons rfl .nil),by rw[a6 e];exact hc⟩
noncomputable def c30:List D->(B->Prop)->Prop:=g1 λd Q=> ∃(i j:Int) (us ws:List Int),d= .lst [.tup<|(i::us).map D.int,.tup<|(j::ws).map D.int]/\
 Q (.ow<|if ltL (j::ws) (i::us)=true then [.tup<|(j::ws).map D.int,.tup<|(i::us).map D.int]else [.tup<|(i::us).map D.int,.tup<|(j::ws).map D.int])
theorem cQ8:a07 X (.builtin "sorted") c30:=by
 intro A H ds vs Q0 Q hA r g k;obtain⟨d,v,rfl,rfl,rv,i,j,us,ws,rfl,g'⟩:=aH2 g r;simp only[Rep]at rv;obtain⟨p,xs,rfl,np,hp,rl⟩:=rv;obtain⟨y1,yr,rfl,s1,rl⟩:=rl.uncons;obtain⟨y2,yr,rfl,s2,rl⟩:=rl.uncons;have:=rl.unnil;subst this;have s1':=s1;have s2':=s2;simp only[Rep]at s1 s2;obtain⟨a1,w1,rfl,c1,q1⟩:=s1;obtain⟨a2,w2,rfl,c2,q2⟩:=s2;have e1:=bS.unints q1;have e2:=bS.unints q2;subst e1 e2
 refine⟨_,c29,p,a1,a2,i,j,us,ws,rfl,.inl<|.inl hp,c1.imp cU id,c2.imp cU id,λl hl=>k _ _ _ g' (fB hl _) ?_⟩
 cases ltL (j::ws) (i::us)
 ·exact i6 (.refl _) hl (.cons s1'<|.cons s2' .nil)
 ·exact i6 (.refl _) hl (.cons s2'<|.cons s1' .nil)
end
end M
end
section
namespace L2
open PySem PySem.Spec PyProof.Rows
end L2
namespace M
open PySem PySem.Spec PyProof.Rows L2
end M
end
section
namespace L2
open PySem PySem.Spec PyProof.Rows
end L2
namespace M
open PySem PySem.Spec PyProof.Rows L2
end M
end
section
namespace L2
open PySem PySem.Spec PyProof.Rows
end L2
namespace M
open PySem PySem.Spec PyProof.Rows L2
end M
end
section
namespace M
open PySem PySem.Spec PyProof.Rows L2
section
variable {X:Cx}{e:Expr}{es:List Expr}{pos:Pos}{te:UE}
theorem ilB {i:Nat}(h:Nat.ble (i+1) X.N.length=true): ∀pins σ H s,Inv X pins σ H s->i<σ.length:=il rfl (Nat.le_of_ble_eq_true h)
theorem aR (i:Nat){x:Str}{pos:Pos}(h:PE X (.Name x pos) (aG9 i):=by exact pv _):PU X (.Name x pos) (aD i):=fA i h
theorem cF (i:Nat){x:Str}{pos:Pos}(h:PE X (.Name x pos) (aG9 i):=by exact pv _):PUV X (.Name x pos) (aV i):=lY i h
theorem aW3 {x:Str}{pos':Pos}(i:Nat)(hN:X.N.Nodup)(he:PU X e te)(hi:X.N[i]? =some x:=by rfl)(hx:Loc X.env.scope x:=by walk_at "z")(hs:swapsWith e (some<|.Name x pos') pos.line X.env=pure false:=by rfl)(hf:X.fn x=true\/X.env.scope.names.lookup x=some .local:=by walk_at "z")
  (hl: ∀pins σ H s,Inv X pins σ H s->i<σ.length:=by exact ilB rfl):PUS X (.Assign [.Name x pos'] e pos) (bX i te):=vU i hN hi hx he hs hf hl
theorem us_g {x:Str}{pos':Pos}{op:Operator}{g:D->D->(B->Prop)->Prop}(i:Nat)(hN:X.N.Nodup)(he:PU X e te)(ho:IpU X op g)(hi:X.N[i]? =some x:=by rfl)(hx:Loc X.env.scope x:=by walk_at "z")(hf:X.fn x=true\/X.env.scope.names.lookup x=some .local:=by walk_at "z")
  (hl: ∀pins σ H s,Inv X pins σ H s->i<σ.length:=by exact ilB rfl):PUS X (.AugAssign (.Name x pos') op e pos) (bQ9 i g te):=cN8 i hN hi hx he ho hf hl
theorem fH {a b:Expr}{ti:UE}{t:UV}(ha:PUV X a t)(hb:PU X b ti)(hs:bH0 b:=by exact λ_ _=>rfl):PU X (.Subscript a b pos) (uIx t ti):=a27 ha hb hs
theorem gC {k k':Nat}{ps:List Str}{φ:Φ}{x:Str}{p:Pos}{t:UA}(F:Fn X.prog X.w X.K X.mg X.base x ps k φ)(hr:hZ k' X.A)(ha:PUA X (e::es) t)(hk:k<=k':=by decide)(hg:Gl X x:=by rfl)(hdb:(x==("__debug__":Str))=false:=by decide)
  (he:starEach (e::es) X.env=(false,eval e X.env)::starEach es X.env:=by rfl) (hpl:(backTo pos<|starEach es X.env).any (·.1)=false:=by rfl):PU X (.Call (.Name x p) (e::es) [] pos) (aW φ t):=aA8 F hr hk hg ha hdb he hpl
end
section
variable {X:Cx}{es:List Expr}{t:UA}
theorem bE {i:Int}{j}{p:Pos}(h:PUA X es t):PUA X (.Constant (.int i) j p::es) (a9 (uC<|.int i) t):=aH aF h rfl
theorem sG {fs:List Expr}{j}{p:Pos}{ta:UE}(a:PU X (.Tuple fs j p) ta)(h:PUA X es t):PUA X (.Tuple fs j p::es) (a9 ta t):=aH a h rfl
theorem aL3 {o:UnaryOp}{e:Expr}{p:Pos}{ta:UE}(a:PU X (.UnaryOp o e p) ta)(h:PUA X es t):PUA X (.UnaryOp o e p::es) (a9 ta t):=aH a h rfl
theorem aU (i:Nat){x:Str}{p:Pos}(h:PUA X es t)(a:PE X (.Name x p) (aG9 i):=by exact pv _):PUA X (.Name x p::es) (a9 (aD i) t):=aH (fA i a) h rfl
structure WA (X:Cx)(es:List Expr)(t:UA):Prop where
 out:PUA X es t
theorem a35:WA X [] aM:=⟨aA⟩
theorem a18 {i:Int}{j}{p:Pos}(h:WA X es t):WA X (.Constant (.int i) j p::es) (a9 (uC<|.int i) t):=⟨bE h.out⟩
theorem cG4 {i:Int}{j}{p q:Pos}(h:WA X es t):WA X (.UnaryOp .USub (.Constant (.int i) j p) q::es) (a9 (v4<|uC<|.int i) t):=⟨aL3 (oA aF) h.out⟩
theorem c31 {fs:List Expr}{j}{p:Pos}{tf:UA}(a:WA X fs tf)(h:WA X es t):WA X (.Tuple fs j p::es) (a9 (k8 tf) t):=⟨sG (fY a.out) h.out⟩
structure WS (X:Cx)(sts:List Stmt)(t:US):Prop where
 out:rN X sts t
theorem ws_of {sts:List Stmt}{u:US}(h:rN X sts u):WS X sts u:=⟨h⟩
theorem ws_lw {x:Str}{pos pos' p:Pos}{i:Nat}{sts:List Stmt}{u:US}(h:WA X es t)(r:WS X sts u)(hN:X.N.Nodup)(hi:X.N[i]? =some x:=by rfl)(hx:Loc X.env.scope x:=by walk_at "z")(hf:X.fn x=true\/X.env.scope.names.lookup x=some .local:=by walk_at "z")
  (hl: ∀pins σ H s,Inv X pins σ H s->i<σ.length:=by exact ilB rfl):WS X (.Assign [.Name x pos'] (.List es p) pos::sts) (aS (bX i<|jD t) u):=⟨bP (vU i hN hi hx (dP h.out) rfl hf hl) r.out⟩
end
end M
end
section
namespace M
open PySem PySem.Spec PyProof.Rows L2
abbrev GL:=List (Addr×List Int)
end M
end
section
namespace M
open PySem PySem.Spec PyProof.Rows L2
end M
end
section
namespace L2
open PySem PySem.Spec PyProof.Rows
end L2
namespace M
open PySem PySem.Spec PyProof.Rows L2
end M
end
section
namespace M
open PySem PySem.Spec PyProof.Rows L2
end M
end
section
namespace L2
open PySem PySem.Spec PyProof.Rows
end L2
namespace M
open PySem PySem.Spec PyProof.Rows L2
end M
end
section
namespace M
open PySem PySem.Spec PyProof.Rows L2
section
variable {X:Cx}{e a b:Expr}{te ta tb:UE}{t u:US}{sts:List Stmt}{pos:Pos}
theorem kF {op:CmpOp}{g:D->D->(B->Prop)->Prop}(ho:OpU X (compareOp op) g)(ha:PU X a ta)(hb:PU X b tb)(hm:behindInMarks op b=false:=by exact aZ6 _):PUT X (.Compare a [op] [b] pos) (fX<|uOp g ta tb):=aK8 ho ha hb hm
theorem cQ9 {op:CmpOp}{g:D->D->(B->Prop)->Prop}(ho:OpU X (compareOp op) g)(ha:PU X a ta)(hb:PU X b tb)(hm:behindInMarks op b=false:=by exact aZ6 _):PU X (.Compare a [op] [b] pos) (uOp g ta tb):=pu_cmp ho ha hb hm
theorem bW {x:Str}{pos':Pos}(i:Nat)(hN:X.N.Nodup)(he:PU X e te)(r:rN X sts u)(hi:X.N[i]? =some x:=by rfl)(hx:Loc X.env.scope x:=by walk_at "z")(hs:swapsWith e (some<|.Name x pos') pos.line X.env=pure false:=by rfl)(hf:X.fn x=true\/X.env.scope.names.lookup x=some .local:=by walk_at "z")
  (hl: ∀pins σ H s,Inv X pins σ H s->i<σ.length:=by exact ilB rfl):rN X (.Assign [.Name x pos'] e pos::sts) (aS (bX i te) u):=bP (aW3 i hN he hi hx hs hf hl) r
theorem iP (h:PU X e te):rN X [.Return (some e) pos] (fP te):=bH (c17 h)
theorem aW4 {c:Expr}{tc:UT}(hc:PUT X c tc)(ha:rN X sts t):PUS X (.If c sts [] pos) (iO tc t fQ):=c90 hc ha bH7
theorem oC {c:Expr}{tc:UT}{r:List Stmt}(hc:PUT X c tc)(ha:rN X sts t)(hr:rN X r u):rN X (.If c sts [] pos::r) (aS (iO tc t fQ) u):=bP (aW4 hc ha) hr
theorem r6 {x:Str}{p:Pos}{iter:Expr}{ui:UI}(i:Nat)(hN:X.N.Nodup)(hi:PUI X (.Name x p) iter ui)(hb:rN X sts t)(hp:PassesOwn (model X.prog X.w) X.A X.env X.xe:=by exact jU)(hc:X.calm=true:=by rfl)(hx:X.N[i]? =some x:=by rfl)(hl:Loc X.env.scope x:=by walk_at "z")
  (hs: ∀x,foldedSetIterable iter X.env x=pure x:=by intro _;rfl) (hf:X.fn x=true\/X.env.scope.names.lookup x=some .local:=by walk_at "z"):PUS X (.For (.Name x p) iter sts [] pos) (jL ui (cM i) t):=aQ1 hp hc hi (yV i<|dY hN hx hl hf) hb hs
theorem tZ {elt iter:Expr}{ifs:List Expr}{scope:Scope}{x:Str}{p:Pos}(N:List Str)(esc:List (Str×NameKind))(XN:List Str){js:List Nat}{cap:List (Option Nat)}{last i:Nat}{ui:UI}{tt:UT}(hi:PUI X (.Name x p) iter ui)(ht: ∀cl C s H fp pins,PTs (cB X N scope cl C s H fp pins) ifs<|lT X.K tt)(he: ∀cl C s H fp pins,PU (cB X N scope cl C s H fp pins) elt te)
  (he0:X.env.scope.names=esc:=by rfl) (hx0:X.N=XN:=by rfl) (lk:x8 esc XN N cap scope last=true:=by decide +kernel) (hl:last<cap.length:=by decide) (hT:last ∉ [i]:=by decide) (hc:X.calm=true:=by rfl) (hN:N.Nodup:=by decide +kernel) (hx:N[i]? =some x:=by rfl) (hy: ∀cl C s H fp pins,Loc (cB X N scope cl C s H fp pins).env.scope x:=by intro _ _ _ _ _ _;first|exact Or.inl rfl|exact Or.inr rfl)
  (hs: ∀x,foldedSetIterable iter X.env x=pure x:=by intro _;rfl) (hf: ∀cl C s H fp pins,(cB X N scope cl C s H fp pins).fn x=true\/(cB X N scope cl C s H fp pins).env.scope.names.lookup x=some .local:=by intro _ _ _ _ _ _;first|exact .inl rfl|exact .inr rfl|assumption):PU X (.ListComp elt [⟨.Name x p,iter,ifs,0⟩] scope pos) (gD js cap last ui (cM i) tt te):=
 b05 he0 hx0 lk hl hT hc hi (λ_ _ _ _ _ _=>yV i (dY hN hx (hy ..)<|hf ..)) ht he hs
end
section
variable {X:Cx}{K:Frag}{ρ ρ':Ev}{σ σ':L2.St}{H H':Hp}
variable {o e e2:Expr}{te te2:UE}{x y:Str}{px py py2 apos cpos bpos fpos apos2 cpos2 epos:Pos}
end
end M
end
section
namespace L2
open PySem PySem.Spec PyProof.Rows
def Calm (f:Obj->Obj):Prop:= ∀o,(f o).dict=o.dict/\(o.isFreed=false->(f o).isFreed=false)
def oR {α:Type}:Sem α->Prop
 | .pure _=>True
 | .raise _=>True
 | .unsupported _=>True
 | .finish _=>True
 | .rule _ k=>oR (k ())
 | .at _ k=>oR (k ())
 | .load _ _ k=> ∀o,oR (k o)
 | .update _ _ f k=>Calm f/\oR (k ())
 | .alloc _ k=> ∀a,oR (k a)
 | .loadIfAlive _ k=> ∀o,oR (k o)
 | .point _ k=>oR (k ())
 | .register _ _=>True
 | .stack k=> ∀l,oR (k l)
 | _=>False
def DK (h h':Heap):Prop:= ∀b o,h.get? b=some o-> ∃o',h'.get? b=some o'/\o'.dict=o.dict
theorem DK.refl (h:Heap):DK h h:=λb o q=>⟨o,q,rfl⟩
theorem DK.trans {h h' h'':Heap}(a:DK h h')(b:DK h' h''):DK h h'':=λc o q=>by
 obtain⟨o',q',e⟩:=a c o q;obtain⟨o'',q'',e'⟩:=b c o' q';exact⟨o'',q'',e'.trans e⟩
theorem DK.update {h:Heap}{a:Addr}{f:Obj->Obj}(c:Calm f):DK h (h.update a f):=λb o q=>by
 by_cases e:a=b
 ·subst e;exact⟨f o,pC f q<|(c o).2 (Heap.get?_some_iff.mp q).2,(c o).1⟩
 ·exact⟨o,(aE1 _ _ e).trans q,rfl⟩
theorem d58 {α:Type}{M:Model}{Γ:PySem.Ctx}: ∀{t:Sem α} {Q:α->Pos->Shared->Prop} {E:Value->Pos->Shared->Prop} {p:Pos} {s:Shared},oR t->Sem.wp M Γ t Q E p s->Sem.wp M Γ t (λa p' s'=>Q a p' s'/\DK s.heap s'.heap) (λe p' s'=>E e p' s'/\DK s.heap s'.heap) p s:=by
 intro t
 induction t with
 | pure a=>intro Q E p s _ h;exact⟨h,.refl _⟩
 | raise e=>intro Q E p s _ h;exact⟨h,.refl _⟩
 | rule _ k ih=>intro Q E p s t h;exact ih () t h
 | «at» _ k ih=>intro Q E p s t h;exact ih () t h
 | load a _ k ih=>intro Q E p s t ⟨o,q,h⟩;exact⟨o,q,ih o (t o) h⟩
 | update a _ f k ih=>
  intro Q E p s t ⟨q,h⟩;refine⟨q,?_⟩;have:=ih () t.2 h;exact Sem.wp_mono _ _ _ (λa p' s' z=>⟨z.1,(DK.update t.1).trans z.2⟩) (λa p' s' z=>⟨z.1,(DK.update t.1).trans z.2⟩) _ _ this
 | alloc o k ih=>
  intro Q E p s t h;have:=ih _ (t _) h;have pu:DK s.heap (s.heap.push o):=λb o' q=>⟨o',aO _ q,rfl⟩
  exact Sem.wp_mono _ _ _ (λa p' s' z=>⟨z.1,pu.trans z.2⟩) (λa p' s' z=>⟨z.1,pu.trans z.2⟩) _ _ this
 | loadIfAlive a k ih=>intro Q E p s t h;exact ih _ (t _) h
 | point _ k ih=>intro Q E p s t h;exact ih () t h
 | stack k ih=>intro Q E p s t h;exact ih _ (t _) h
 | unsupported _=>intro Q E p s _ h;exact h.elim
 | finish _=>intro Q E p s _ h;exact h.elim
 | register _ _=>intro Q E p s _ h;exact h.elim
 | _=>intro Q E p s t h;exact False.elim t
theorem cG {α β:Type}{f:α->Sem β}: ∀{t:Sem α},oR t->(∀a,oR<|f a)->oR (t.bind f):=by
 intro t
 induction t with
 | pure a=>intro _ h;exact h a
 | raise e=>intro _ _;exact trivial
 | unsupported _=>intro _ _;exact trivial
 | finish _=>intro _ _;exact trivial
 | rule _ k ih=>intro t h;exact ih () t h
 | «at» _ k ih=>intro t h;exact ih () t h
 | load a _ k ih=>intro t h o;exact ih o (t o) h
 | update a _ f k ih=>intro t h;exact⟨t.1,ih () t.2 h⟩
 | alloc o k ih=>intro t h a;exact ih a (t a) h
 | loadIfAlive a k ih=>intro t h o;exact ih o (t o) h
 | point _ k ih=>intro t h;exact ih () t h
 | register _ _=>intro _ _;exact trivial
 | stack k ih=>intro t h l;exact ih l (t l) h
 | _=>intro t _;exact False.elim t
theorem yZ {α:Type}{M:Model}{A:Around}{t:Sem α}{Q:α->Shared->Prop}{E:Value->Shared->Prop}{s:Shared}(c:oR t)(h:wpAny M A t Q E s):wpAny M A t (λa s'=>Q a s'/\DK s.heap s'.heap) (λe s'=>E e s'/\DK s.heap s'.heap) s:=λΓ p hin=>d58 c (h Γ p hin)
theorem bE1 {a:Addr}{part:Option Value}:oR (loadPart a part):=λ_=>trivial
theorem bS1 (v:Value):oR (fieldsOf v):=by
 unfold fieldsOf;split
 ·refine cG bE1 λo=> ?_
  split<;>exact trivial
 ·exact trivial
theorem zA (v:Value)(i:Nat):oR (PySem.field v i):=cG (bS1 v) λvs=>by
 split<;>exact trivial
theorem bS2 (f:Array Value->Array Value):Calm (Obj.mapFields f):=λo=>by
 obtain⟨c,d,dt,sl⟩:=o;cases dt<;>exact⟨rfl,λh=>h⟩
theorem vW (v:Value)(i:Nat)(x:Value):oR (setField v i x):=by
 unfold setField;split
 ·unfold updateField;refine cG bE1 λo=> ?_
  split
  ·split
   ·exact⟨bS2 _,trivial⟩
   ·exact trivial
  ·exact trivial
 ·exact trivial
theorem a36 (e:Value)(f:Option Addr):oR (setFlight e f):=cG (zA _ _) λtb=>by
 split
 ·exact vW _ _ _
 ·exact trivial
theorem aH4:oR stack:=λ_=>trivial
theorem c32 (f:Addr)(b:Bool):oR (entryPlaceOf f b):=cG aH4 λl=>by
 split<;>exact trivial
theorem cR0 (cls:Value)(data:Data)(d:Option Addr):oR (newObj cls data d):=by
 have as:oR (newObjAsIs cls data d):=by
  unfold newObjAsIs;refine cG (λ_=>trivial) λa=> ?_
  split
  ·refine cG ?_ λb=> ?_
   ·unfold classHasDel;refine cG (λ_=>trivial) λo=> ?_
    split<;>exact trivial
   ·split<;>exact trivial
  ·exact trivial
 unfold newObj;split<;>first|exact as| (split<;>first|exact as|exact trivial| (refine cG trivial λ_=>as))
theorem c33 (a b c d e:Value)(pl:List Value):oR (EntryCells.newEntry a b c d e pl):=by
 unfold EntryCells.newEntry newFields;exact cR0 _ _ _
theorem b11: ∀l:List Env,oR (readyFrames l)
 | []=>trivial
 | env::outer=>by
  unfold readyFrames;split
  ·refine cG (λ_=>trivial) λo=> ?_
   split
   ·exact trivial
   ·refine cG ?_ λb=> ?_
    ·unfold behindIsImport;split
     ·exact trivial
     ·split
      ·exact trivial
      ·exact cG (zA _ _) λ_=>trivial
    ·refine cG ?_ λv=> ?_
     ·unfold keptBack;split
      ·split
       ·exact trivial
       ·exact cG (cG aH4 λ_=>trivial) λ_=>trivial
      ·exact trivial
     ·exact⟨λo=>⟨rfl,λh=>by obtain⟨c,d,dt,sl⟩:=o;cases dt<;>exact h⟩,b11 outer⟩
  ·exact trivial
theorem c34 (env:Env):oR (PySem.frameOf env):=by
 unfold PySem.frameOf;refine cG (cG aH4 λ_=>trivial) λl=>cG ?_ λo=> ?_
 ·unfold frameObject;split
  ·exact trivial
  ·exact cG (b11 _) λ_=>trivial
 ·split<;>exact trivial
theorem bE2 (e:Value)(env:Env):oR (noteFrame e env):=by
 have last: ∀h f,oR (do setField e 1 (<-EntryCells.newEntry h (<-PySem.frameOf env) .none (rawInt f) .none (<-entryPlaceOf f (h != .none)))):=λh f=>
  cG (c34 env) λa=>cG (c32 _ _) λb=>cG (c33 _ _ _ _ _ _) λc=>vW _ _ _
 unfold noteFrame;split
 ·refine cG (zA _ _) λh=> ?_
  split
  ·refine cG (zA _ _) λx=> ?_
   split
   ·exact trivial
   ·exact cG (vW _ _ _) λ_=>last _ _
  ·exact last _ _
 ·exact trivial
theorem aL4 (env:Env)(e:Value):oR (leaving env e):=cG (bE2 e env) λ_=>a36 e none
def Tr (h:Heap)(e T:Addr):Prop:= ∃oe vs,h.get? e=some oe/\oe.data= .fields vs/\vs[1]? =some (.ref T)
theorem Tr.one {h:Heap}{e T T':Addr}(a:Tr h e T)(b:Tr h e T'):T=T':=by
 obtain⟨o,vs,h1,h2,h3⟩:=a;obtain⟨o',vs',g1,g2,g3⟩:=b;rw[h1]at g1;cases g1;rw[h2]at g2;cases g2;rw[h3]at g3;cases g3;rfl
structure aB1 (fs:List Addr)(e:Addr)(h h':Heap):Prop where
 keep: ∀b o,h.get? b=some o->b ∉ fs->b≠e-> ¬Tr h e b->h'.get? b=some o
 slot:h.UpToSlots h'
 tr: ∀T,Tr h' e T->T∈fs\/T=e\/Tr h e T\/h.get? T=none
 rcd: ∀T,Tr h' e T-> ∃o vs,h'.get? T=some o/\o.data= .fields vs
structure b96 (fs:List Addr)(e:Addr)(h h':Heap):Prop extends aB1 fs e h h' where
 dk:DK h h'
theorem bJ0 {h base:Heap}{e:Addr}{cls a0 fl:Value}(t:h.TracedAtW base e cls a0 fl): ∃T,Tr h e T/\base.get? T=none/\T≠e/\ ∃o vs,h.get? T=some o/\o.data= .fields vs:=by
 obtain⟨oe,vs,T,oT,ts,he,_,hd,h1,hb,hne,hT,hdT,_⟩:=t;exact⟨T,⟨oe,vs,he,hd,h1⟩,hb,hne,oT,ts,hT,hdT⟩
theorem qC {h base B:Heap}{e T:Addr}{cls a0 fl:Value}(t:h.TracedAtW base e cls a0 fl)(x:Tr h e T)(hn:B.get? T=none):h.TracedAtW B e cls a0 fl:=by
 obtain⟨oe,vs,T',oT,ts,he,hc,hd,h1,hb,hne,hT,hdT,h3⟩:=t;obtain rfl:=x.one ⟨oe,vs,he,hd,h1⟩;exact⟨oe,vs,T,oT,ts,he,hc,hd,h1,hn,hne,hT,hdT,h3⟩
section
variable {base h:Heap}{l:List Env}{e T:Addr}{cls a0 fl:Value}
noncomputable def hid (h:Heap)(l:List Env)(e T:Addr):Heap:=PySem.W.hideAll h (frs l++[e,T])
theorem x9 {b:Addr}(hb:b∈frs l\/b=e\/b=T):(hid h l e T).get? b=none:=PySem.W.hideAll_none _ (by
 rcases hb with z|z|z
 ·exact bC.mpr (.inl z)
 ·exact bC.mpr (.inr<|by simp[z])
 ·exact bC.mpr (.inr<|by simp[z]))
theorem aL5 {b:Addr}{o:Obj}(q:h.get? b=some o)(h1:b ∉ frs l)(h2:b≠e)(h3:b≠T):(hid h l e T).get? b=some o:=PySem.W.hideAll_get _ q (by
 intro z;rcases bC.mp z with z|z
 ·exact h1 z
 ·simp at z
  exact z.elim h2 h3)
theorem zB (f:h.FunFrames base l):h.FunFrames (hid h l e T) l:=PySem.W.funFrames_hide f λenv he b hb=>bC.mpr (.inl<|aF3.mpr ⟨env,he,hb⟩)
theorem a88 (st:base.StaysIn h)(f:h.FunFrames base l)(he:base.get? e=none)(hT:base.get? T=none):base.StaysIn (hid h l e T):=λb o q=>aL5 (st b o q) (λz=>by rw[(f.mem z).1]at q;cases q) (λz=>by rw[z,he]at q;cases q) λz=>by rw[z,hT]at q;cases q
theorem xA {B h':Heap}(st:base.StaysIn B): ∀{l:List Env},h'.FunFrames B l->h'.FunFrames base l
 | [],_=>trivial
 | env::_,⟨hk,⟨L,o,hf,hn,ho,hd⟩,hr⟩=>⟨hk,⟨L,o,hf,(by
   cases q:base.get? L with
   | none=>rfl
   | some u=>have:=st L u q;rw[hn]at this;cases this),ho,hd⟩,xA st hr⟩
theorem aY3 {B:Heap}(st:base.StaysIn B){b:Addr}(q:B.get? b=none):base.get? b=none:=by
 cases z:base.get? b with
 | none=>rfl
 | some u=>have:=st b u z;rw[q]at this;cases this
theorem bJ1 {l':List Env}{h':Heap}(x:Tr h e T)(st:(hid h l e T).StaysIn h')(t:h'.TracedAtW (hid h l e T) e cls a0 fl)(up:h.UpToSlots h'):aB1 (frs l) e h h':=by
 refine⟨λb o q h1 h2 h3=>st b o (aL5 q h1 h2 λz=>h3 (by rw[z];exact x)),up,λT' x'=> ?_,λT' x'=> ?_⟩
 ·obtain⟨T2,y,hn,_,_⟩:=bJ0 t;obtain rfl:=x'.one y
  by_cases c1:T'∈frs l
  ·exact .inl c1
  by_cases c2:T'=e
  ·exact .inr (.inl c2)
  by_cases c3:T'=T
  ·exact .inr (.inr<|.inl (by rw[c3];exact x))
  refine .inr (.inr<|.inr ?_)
  cases q:h.get? T' with
  | none=>rfl
  | some o=>rw[aL5 q c1 c2 c3]at hn;cases hn
 ·obtain⟨T2,y,_,_,z⟩:=bJ0 t;obtain rfl:=x'.one y;exact z
end
section
variable {M:Model}{A:Around}{E:Value->Shared->Prop}{s:Shared}{base:Heap}{env:Env}{outer:List Env}{L e:Addr}{cls a0:Value}{Q:Unit->Shared->Prop}
theorem c35 (hfr:A.frames=some (env::outer))(hf:env.frame=some L)(F:FlyingW base (env::outer) e cls a0 s.heap)
  (hQ: ∀h',FlyingW base outer e cls a0 h'->aB1 (frs (env::outer)) e s.heap h'->Q () {s with heap:=h'}):wpAny M A (leaving env<|.ref e) Q E s:=by
 obtain⟨f1,f2,f3,f4⟩:=F;obtain⟨T,x,hT,_,_⟩:=bJ0 (fl:= .none) f4;have stB:=a88 (T:=T) f1 f3 f2 hT;refine wpAny_leaves_onW (base:=hid s.heap (env::outer) e T) hfr hf ⟨λb o q=>tD _ q,x9<|.inr<|.inl rfl,zB f3,qC (fl:= .none) f4 x<|x9<|.inr<|.inr rfl⟩ λh' F' up=> ?_
 obtain⟨g1,g2,g3,g4⟩:=F';obtain⟨T',x',hT',_,_⟩:=bJ0 (fl:= .none) g4;exact hQ h' ⟨λb o q=>g1 b o (stB b o q),f2,xA stB g3,qC (fl:= .none) g4 x'<|aY3 stB hT'⟩ (bJ1 (l':=outer) x g1 g4 up)
theorem cG5 (hfr:A.frames=some (env::outer))(hf:env.frame=some L)(F:FlyingW base (env::outer) e cls a0 s.heap)
  (hQ: ∀h',HeldW base (env::outer) e cls a0 L h'->aB1 (frs (env::outer)) e s.heap h'->Q () {s with heap:=h'}):wpAny M A (noteFrame (.ref e) env) Q E s:=by
 obtain⟨f1,f2,f3,f4⟩:=F;obtain⟨T,x,hT,_,_⟩:=bJ0 (fl:= .none) f4;have stB:=a88 (T:=T) f1 f3 f2 hT;refine wpAny_looks_onW (base:=hid s.heap (env::outer) e T) hfr hf ⟨λb o q=>tD _ q,x9<|.inr<|.inl rfl,zB f3,qC (fl:= .none) f4 x<|x9<|.inr<|.inr rfl⟩ λh' F' up=> ?_
 obtain⟨g1,g2,g3,g4⟩:=F';obtain⟨T',x',hT',_,_⟩:=bJ0 g4;exact hQ h' ⟨λb o q=>g1 b o (stB b o q),f2,xA stB g3,qC g4 x'<|aY3 stB hT'⟩ (bJ1 (l':=outer) x g1 g4 up)
theorem cG6 {l:List Env}{fl:Value}(F:base.StaysIn s.heap/\base.get? e=none/\s.heap.FunFrames base l/\s.heap.TracedAtW base e cls a0 fl)
  (hQ: ∀h',FlyingW base l e cls a0 h'->aB1 (frs l) e s.heap h'->Q () {s with heap:=h'}):wpAny M A (setFlight (.ref e) none) Q E s:=by
 obtain⟨f1,f2,f3,f4⟩:=F;obtain⟨T,x,hT,_,_⟩:=bJ0 f4;have stB:=a88 (T:=T) f1 f3 f2 hT;refine wpAny_setFlight_noneW (base:=hid s.heap l e T) (λb o q=>tD _ q) (zB f3) (qC f4 x<|x9<|.inr<|.inr rfl) λh' g1 g3 g4 up=> ?_
 obtain⟨T',x',hT',_,_⟩:=bJ0 (fl:= .none) g4;exact hQ h' ⟨λb o q=>g1 b o (stB b o q),f2,xA stB g3,qC (fl:= .none) g4 x'<|aY3 stB hT'⟩ (bJ1 (l':=l) (fl:= .none) x g1 g4 λb o q n=>⟨o.slots,up b o q n⟩)
theorem bJ2 {oe:Obj}{vs:Array Value}(hfr:A.frames=some (env::outer))(hl:s.heap.FunFrames base (env::outer))(hf:env.frame=some L)(he:s.heap.get? e=some oe)(hkb:base.StaysIn s.heap)(hen:base.get? e=none)(hd:oe.data= .fields vs)(h1:vs[1]? =some .none)(h0:vs[0]? =some a0)
  (hQ: ∀h',FlyingW base outer e oe.cls a0 h'->aB1 (frs (env::outer)) e s.heap h'->Q () {s with heap:=h'}):wpAny M A (leaving env<|.ref e) Q E s:=by
 have stB:=a88 (e:=e) (T:=e) hkb hl hen hen;have nt: ∀T,¬Tr s.heap e T:=by
  rintro T ⟨o,ws,k1,k2,k3⟩;rw[he]at k1;cases k1;rw[hd]at k2;cases k2;rw[h1]at k3;cases k3
 refine wpAny_leaving_firstW (base:=hid s.heap (env::outer) e e) hfr (zB hl) hf he (λb o q=>tD _ q) (x9<|.inr<|.inl rfl) hd h1 h0 λh' F'=> ?_
 obtain⟨g1,⟨_,_,g3⟩,g4,up⟩:=F';obtain⟨T',x',hT',hne,hrec⟩:=bJ0 (fl:= .none) g4;refine hQ h' ⟨λb o q=>g1 b o (stB b o q),hen,xA stB g3,qC (fl:= .none) g4 x'<|aY3 stB hT'⟩ ⟨λb o q k1 k2 _=>g1 b o (aL5 q k1 k2 k2),up,λT x2=> ?_,λT x2=> ?_⟩
 ·obtain rfl:=x2.one x'
  by_cases c1:T∈frs (env::outer)
  ·exact .inl c1
  refine .inr (.inr<|.inr ?_)
  cases q:s.heap.get? T with
  | none=>rfl
  | some o=>rw[aL5 q c1 hne hne]at hT';cases hT'
 ·obtain rfl:=x2.one x';exact hrec
theorem cG7 (hfr:A.frames=some (env::outer))(hf:env.frame=some L)(F:FlyingW base (env::outer) e cls a0 s.heap)
  (hQ: ∀h',FlyingW base outer e cls a0 h'->b96 (frs (env::outer)) e s.heap h'->Q () {s with heap:=h'}):wpAny M A (leaving env<|.ref e) Q E s:=
 bL (yZ (aL4 env<|.ref e)<|c35 (Q:=λ_ s'=> ∃h',s'={s with heap:=h'}/\FlyingW base outer e cls a0 h'/\aB1 (frs (env::outer)) e s.heap h') hfr hf F λh' a b=>⟨h',rfl,a,b⟩) (λ_ s' ⟨⟨h',q,a,b⟩,dk⟩=>by subst q;exact hQ h' a ⟨b,dk⟩) λ_ _ z=>z.1
theorem cR1 (hfr:A.frames=some (env::outer))(hf:env.frame=some L)(F:FlyingW base (env::outer) e cls a0 s.heap)
  (hQ: ∀h',HeldW base (env::outer) e cls a0 L h'->b96 (frs (env::outer)) e s.heap h'->Q () {s with heap:=h'}):wpAny M A (noteFrame (.ref e) env) Q E s:=
 bL (yZ (bE2 (.ref e) env)<|cG5 (Q:=λ_ s'=> ∃h',s'={s with heap:=h'}/\HeldW base (env::outer) e cls a0 L h'/\aB1 (frs (env::outer)) e s.heap h') hfr hf F λh' a b=>⟨h',rfl,a,b⟩) (λ_ s' ⟨⟨h',q,a,b⟩,dk⟩=>by subst q;exact hQ h' a ⟨b,dk⟩) λ_ _ z=>z.1
theorem bS3 {l:List Env}{fl:Value}(F:base.StaysIn s.heap/\base.get? e=none/\s.heap.FunFrames base l/\s.heap.TracedAtW base e cls a0 fl)
  (hQ: ∀h',FlyingW base l e cls a0 h'->b96 (frs l) e s.heap h'->Q () {s with heap:=h'}):wpAny M A (setFlight (.ref e) none) Q E s:=
 bL (yZ (a36 (.ref e) none)<|cG6 (Q:=λ_ s'=> ∃h',s'={s with heap:=h'}/\FlyingW base l e cls a0 h'/\aB1 (frs l) e s.heap h') F λh' a b=>⟨h',rfl,a,b⟩) (λ_ s' ⟨⟨h',q,a,b⟩,dk⟩=>by subst q;exact hQ h' a ⟨b,dk⟩) λ_ _ z=>z.1
theorem bS4 {oe:Obj}{vs:Array Value}(hfr:A.frames=some (env::outer))(hl:s.heap.FunFrames base (env::outer))(hf:env.frame=some L)(he:s.heap.get? e=some oe)(hkb:base.StaysIn s.heap)(hen:base.get? e=none)(hd:oe.data= .fields vs)(h1:vs[1]? =some .none)(h0:vs[0]? =some a0)
  (hQ: ∀h',FlyingW base outer e oe.cls a0 h'->b96 (frs (env::outer)) e s.heap h'->Q () {s with heap:=h'}):wpAny M A (leaving env<|.ref e) Q E s:=
 bL (yZ (aL4 env<|.ref e)<|bJ2 (Q:=λ_ s'=> ∃h',s'={s with heap:=h'}/\FlyingW base outer e oe.cls a0 h'/\aB1 (frs (env::outer)) e s.heap h') hfr hl hf he hkb hen hd h1 h0 λh' a b=>⟨h',rfl,a,b⟩) (λ_ s' ⟨⟨h',q,a,b⟩,dk⟩=>by subst q;exact hQ h' a ⟨b,dk⟩) λ_ _ z=>z.1
end
structure Fly (base:Heap)(l:List Env)(e C:Addr)(H:Hp)(h:Heap):Prop where
 fl: ∃a0,FlyingW base l e (.ref C) a0 h
 he:H e=none
 ht: ∀T,Tr h e T->H T=none
structure bE3 (g:Heap)(e:Addr)(h:Heap):Prop where
 he:g.get? e=none
 ht: ∀T,Tr h e T->g.get? T=none
def XAt (h:Heap)(a:Addr)(o:Option Addr):Prop:= ∀d,o=some d-> ∃oe,h.get? a=some oe/\oe.dict=some d
theorem XAt.dk {h h':Heap}{a:Addr}{o:Option Addr}(x:XAt h a o)(k:DK h h'):XAt h' a o:=λd q=>by
 obtain⟨oe,e1,e2⟩:=x d q;obtain⟨o',e3,e4⟩:=k a oe e1;exact⟨o',e3,e4.trans e2⟩
noncomputable def CXr (P:Program)(w:World)(base:Heap):CXT:=λouter H s E e s'=> ∃a C o H',e= .ref a/\s'.os=s.os/\AllBare s'.gens/\Un (frs outer) [] H H' s.heap s'.heap/\HOk P w H' s'.heap/\Fly base outer a C H' s'.heap/\bE3 s.heap a s'.heap/\XAt s'.heap a o/\E (.ref C) o H'
section
variable {P:Program}{w:World}{H H0:Hp}{h h':Heap}{fs:List Addr}{e:Addr}
theorem HOk.past (x:HOk P w H h)(p:b96 fs e h h')(hf: ∀b∈fs,H b=none)(he:H e=none)(ht: ∀T,Tr h e T->H T=none):HOk P w H h':=λa o q=>
 (x a o q).stay (λb u hb r=>by
  have tracked:H b≠none:=by
   rcases hb with rfl|hb
   ·rw[q];simp
   ·rw[hb];simp
  exact p.keep b u r (λz=>tracked (hf b z)) (λz=>tracked (by rw[z];exact he)) λz=>tracked (ht b z)) (λ_ q=>q) λ_ _ q=>q
theorem HOk.there (x:HOk P w H h){b:Addr}(n:h.get? b=none):H b=none:=by
 cases q:H b with
 | none=>rfl
 | some o=>
  exfalso
  have hh: ∃ob,h.get? b=some ob:=by
   have y:=x b o q;cases o with
   | lst xs=>obtain⟨_,_,_,_,e⟩:=y;exact⟨_,e⟩
   | tup xs=>obtain⟨_,_,_,ob,e,_⟩:=y;exact⟨_,e⟩
   | dK kvs=>obtain⟨_,_,_,_,o,_,_,e,_⟩:=y;exact⟨_,e⟩
   | dT kvs=>obtain⟨_,_,_,_,o,_,_,e,_⟩:=y;exact⟨_,e⟩
   | set S n=>obtain⟨o,_,_,_,e,_⟩:=y;exact⟨_,e⟩
   | ins C dx fs=>obtain⟨_,_,_,e,_⟩:=y;exact⟨_,e⟩
   | own y'=>exact y
   | xd fs=>obtain⟨_,⟨_,_,_,e,_⟩,_⟩:=y;exact⟨_,e⟩
   | rng lo hi=>obtain⟨_,_,_,e⟩:=y;exact⟨_,e⟩
   | frz ob u=>obtain⟨e,_⟩:=y;exact⟨_,e⟩
   | tbl ps=>exact⟨_,(show h.get? b=some _ from y)⟩
   | met f y'=>exact⟨_,(show h.get? b=some _ from y)⟩
   | ext φ=>obtain⟨_,e,_⟩:=y;exact e
  obtain⟨ob,e⟩:=hh;rw[n]at e;cases e
theorem aY4 (x:HOk P w H h)(p:b96 fs e h h')(hf: ∀b∈fs,H b=none)(he:H e=none)(ht: ∀T,Tr h e T->H T=none): ∀T,Tr h' e T->H T=none:=λT q=>by
 rcases p.tr T q with z|z|z|z
 ·exact hf T z
 ·rw[z];exact he
 ·exact ht T z
 ·exact x.there z
end
section
variable {X:Cx}{pins:List (Addr×Obj)}{σ:St}{H:Hp}{s:Shared}{h':Heap}{e:Addr}
theorem Un.past {fs fs':List Addr}{H0:Hp}{g:Heap}{L:Addr}(u:Un fs [] H0 H g s.heap)(p:b96 fs' e s.heap h')(hfs: ∀b∈fs',b=L\/b∈fs)(hL:g.get? L=none)(ne:g.get? e=none)(nt: ∀T,Tr s.heap e T->g.get? T=none)(hd: ∀b∈fs,∀o,s.heap.get? b=some o-> ∀vs,o.data≠ .fields vs):Un fs [] H0 H g h' where
 keep:=λb o q n hb hx=>p.keep b o (u.keep b o q n hb hx) (λz=>by
  rcases hfs b z with z|z
  ·rw[z,hL]at q;cases q
  ·exact hb z) (λz=>by rw[z,ne]at q;cases q) λz=>by rw[nt b z]at q;cases q
 slot:=λb o q n hb hx=>by
  obtain⟨sl,e1⟩:=u.slot b o q n hb hx;obtain⟨sl',e2⟩:=p.slot b _ e1 (hd b hb _ e1);exact⟨sl',e2⟩
 free:=u.free
 there:=λb o q hx=>by
  obtain⟨o',e1⟩:=u.there b o q hx
  by_cases c:b∈fs
  ·obtain⟨sl,e2⟩:=p.slot b _ e1 (hd b c _ e1);exact⟨_,e2⟩
  ·exact⟨o',p.keep b o' e1 (λz=>by
    rcases hfs b z with z|z
    ·rw[z,hL]at q;cases q
    ·exact c z) (λz=>by rw[z,ne]at q;cases q) λz=>by rw[nt b z]at q;cases q⟩
 tups:=u.tups
 frzs:=u.frzs
 tbls:=u.tbls
end
section
variable {P:Program}{w:World}{K:Frag}{mg:Str->Option Value}{base:Heap}{N:List Str}{qual:Str}{scope:Scope}{f:Addr}{cd:Value}{A:Around}{outer:List Env}{s0:Shared}{H0:Hp}{E:XK}{CX:CXT}
theorem cR2 {pins:List (Addr×Obj)}{σ:St}{H:Hp}{s':Shared}{a C:Addr}{o:Option Addr}(I:Inv (tV (CXr P w base) P w K mg base N qual scope f cd A outer s0 H0 E) pins σ H s')(F:Fly base (envOfC qual scope s0.heap.objs.size f cd::outer) a C H s'.heap)(nw:bE3 s0.heap a s'.heap)(xa:XAt s'.heap a o)(hE:E (.ref C) o H) :
  (tV (CXr P w base) P w K mg base N qual scope f cd A outer s0 H0 E).xe (.ref a) s':=by
 obtain⟨⟨a0,fl⟩,he,ht⟩:=F;have fr:(A.deeper<|envOfC qual scope s0.heap.objs.size f cd).frames=some (envOfC qual scope s0.heap.objs.size f cd::outer):=I.ok.frames;have sf: ∀b∈frs (envOfC qual scope s0.heap.objs.size f cd::outer),H b=none:=I.stkFree;have fm: ∀b∈frs (envOfC qual scope s0.heap.objs.size f cd::outer),b=s0.heap.objs.size\/b∈frs outer:=λb hb=>by
  unfold frs at hb⊢;rw[jO]at hb;have e:(envOfC qual scope s0.heap.objs.size f cd).frame=some s0.heap.objs.size:=rfl;rw[e]at hb;exact aY.mp hb
 show wpAny _ _ (leaving _<|.ref a) _ _ s'
 refine cG7 fr (L:=s0.heap.objs.size) rfl fl λh' fl' p=> ?_
 have hd: ∀b∈frs outer,∀o,s'.heap.get? b=some o-> ∀vs,o.data≠ .fields vs:=λb hb o q=>by
  obtain⟨_,o',q',n⟩:=fl.2.2.1.mem (b:=b) (by
   unfold frs at hb;rw[jO];have e:(envOfC qual scope s0.heap.objs.size f cd).frame=some s0.heap.objs.size:=rfl;rw[e];exact aY.mpr (.inr hb))
  rw[q]at q';cases q';exact n
 have un:Un (frs outer) [] H0 H s0.heap h':=I.base.past p fm (kP<|aB _) nw.he nw.ht hd;refine⟨a,C,o,H,rfl,I.os,I.bare,un,I.hok.past p sf he ht,⟨⟨a0,fl'⟩,he,aY4 I.hok p sf he ht⟩,⟨nw.he,λT q=> ?_⟩,xa.dk p.dk,hE⟩
 rcases p.tr T q with z|z|z|z
 ·rcases fm T z with z|z
  ·rw[z];exact kP (aB _)
  ·exfalso
   obtain⟨o,vs,q1,q2⟩:=p.rcd T q;obtain⟨_,o',q',n⟩:=fl'.2.2.1.mem (b:=T) z;rw[q1]at q';cases q';exact n vs q2
 ·rw[z];exact nw.he
 ·exact nw.ht T z
 ·cases r:s0.heap.get? T with
  | none=>rfl
  | some o=>
   obtain⟨o',q'⟩:=I.base.there T o r (show T ∉ ([]:List Addr)by simp)
   rw[z]at q';cases q'
theorem dD7:vS (CXr P w base) (tV (CXr P w base) P w K mg base N qual scope f cd A outer s0 H0 E) E:=by
 rintro pins σ H s e s' I ⟨a,C,o,H',rfl,ho,hb,un,hok,F,nw,xa,hE⟩;have I':=I.call' (s':=s') ho un hok hb (λb z=>absurd z ae)
 refine cR2 I' F ⟨?_,λT q=> ?_⟩ xa hE
 ·cases r:s0.heap.get? a with
  | none=>rfl
  | some o=>
   obtain⟨o',q'⟩:=I.base.there a o r (show a ∉ ([]:List Addr)by simp)
   rw[nw.he]at q';cases q'
 ·have:=nw.ht T q;cases r:s0.heap.get? T with
  | none=>rfl
  | some o=>
   obtain⟨o',q'⟩:=I.base.there T o r (show T ∉ ([]:List Addr)by simp)
   rw[this]at q';cases q'
end
structure XCls (h:Heap)(C:Addr)(bmB bm:List Value)(newId:String):Prop where
 ex: ∃(nm q:Str) (N:Addr) (bs:List Value) (hd:Bool) (sn:List Str) (sub:List Value) (ab:Bool) (col:Option Bool) (dd:Option Addr) (k0 k1 k2 k3 k5:Option Value) (mN:Str->Option Value),
  h.get? C=some (excClassObj nm q C N bs bm hd sn sub ab col dd k0 k1 k2 k3 k5 newId)/\h.Ns N mN/\mN "__init__"=none
 tl:OwnTail h bmB bm
theorem bJ3 {K:Frag}{h:Heap}{C:Addr}{bmB:List Value}{newId:String}(X:K.In h)(q:excIn K C bmB newId=true): ∃bm,XCls h C bmB bm newId:=by
 unfold excIn at q;split at q
 ·rename_i od ck slots look
  split at q
  ·rename_i C2 tail a0 a1 a2 a3 nid a5 em es
   simp only[dS,gJ,aG1]at q;obtain⟨⟨⟨⟨⟨rfl,rfl⟩,nodel⟩,tk⟩,nk⟩,ni⟩:=q;obtain⟨c1,c2,c3,c4,c5,c6,c7,c8,c9,c10,c11⟩:=ck;dsimp only at em nodel nk ni;subst em nodel;obtain⟨sll⟩:=slots;simp only at es;subst es;exact⟨tail,⟨⟨_,_,_,_,_,_,_,_,_,_,_,_,_,_,_,_,X _ _ look,.of_isNs<|PySem.W.isNs_of_in X nk,PySem.W.nsMap_none_of_in X nk ni⟩,PySem.W.tail_of_in X tk⟩⟩
  ·cases q
 ·cases q
section
variable {X:Cx}{E:XK}{C:Addr}
def b12 (X:Cx)(E:XK)(C:Addr):Prop:= ∀(pins:List (Addr×Obj)) (σ:St) (H:Hp) (s:Shared) (a:Addr) (oe:Obj) (vs:Array Value) (a0:Value) (o:Option Addr),Inv X pins σ H s->s.heap.get? a=some oe->oe.cls= .ref C->oe.data= .fields vs->vs[0]? =some a0->vs[1]? =some .none->H a=none->X.s₀.heap.get? a=none->XAt s.heap a o->E (.ref C) o H->X.xe (.ref a) s
theorem c36 {P:Program}{w:World}{K:Frag}{mg:Str->Option Value}{base:Heap}{N:List Str}{qual:Str}{scope:Scope}{f:Addr}{cd:Value}{A:Around}{outer:List Env}{s0:Shared}{H0:Hp} :
  b12 (tV (CXr P w base) P w K mg base N qual scope f cd A outer s0 H0 E) E C:=by
 intro pins σ H s a oe vs a0 o I he hc hd h0 h1 nH n0 xa hE;have fr:(A.deeper<|envOfC qual scope s0.heap.objs.size f cd).frames=some (envOfC qual scope s0.heap.objs.size f cd::outer):=I.ok.frames;have sf: ∀b∈frs (envOfC qual scope s0.heap.objs.size f cd::outer),H b=none:=I.stkFree;have fl0:s.heap.FunFrames base (envOfC qual scope s0.heap.objs.size f cd::outer):=I.stack
 have fe:(envOfC qual scope s0.heap.objs.size f cd).frame=some s0.heap.objs.size:=rfl;have fm: ∀b∈frs (envOfC qual scope s0.heap.objs.size f cd::outer),b=s0.heap.objs.size\/b∈frs outer:=λb hb=>by
  unfold frs at hb⊢;rw[jO,fe]at hb;exact aY.mp hb
 have nt: ∀T,¬Tr s.heap a T:=by
  rintro T ⟨o,ws,k1,k2,k3⟩;rw[he]at k1;cases k1;rw[hd]at k2;cases k2;rw[h1]at k3;cases k3
 have nb:base.get? a=none:=by
  cases q:base.get? a with
  | none=>rfl
  | some o=>rw[(I.ok.bs a o q).1]at n0;cases n0
 have st:base.StaysIn s.heap:=I.bk;show wpAny _ _ (leaving _<|.ref a) _ _ s;refine bS4 fr fl0 (L:=s0.heap.objs.size) rfl he st nb hd h1 h0 λh' fl' p=> ?_
 rw[hc]at fl';have hdf: ∀b∈frs outer,∀o,s.heap.get? b=some o-> ∀vs,o.data≠ .fields vs:=λb hb o q=>by
  obtain⟨_,o',q',n⟩:=fl0.mem (b:=b) (by
   unfold frs at hb;rw[jO,fe];exact aY.mpr (.inr hb))
  rw[q]at q';cases q';exact n
 have un:Un (frs outer) [] H0 H s0.heap h':=I.base.past p fm (kP<|aB _) n0 (λT q=>absurd q (nt T)) hdf
 have ht: ∀T,Tr s.heap a T->H T=none:=λT q=>absurd q (nt T)
 refine⟨a,C,o,H,rfl,I.os,I.bare,un,I.hok.past p sf nH ht,⟨⟨a0,fl'⟩,nH,aY4 I.hok p sf nH ht⟩,⟨n0,λT q=> ?_⟩,xa.dk p.dk,hE⟩
 rcases p.tr T q with z|z|z|z
 ·rcases fm T z with z|z
  ·rw[z];exact kP (aB _)
  ·exfalso
   obtain⟨o,ws,q1,q2⟩:=p.rcd T q;obtain⟨_,o',q',n⟩:=fl'.2.2.1.mem (b:=T) z;rw[q1]at q';cases q';exact n ws q2
 ·rw[z];exact n0
 ·exact absurd z (nt T)
 ·cases r:s0.heap.get? T with
  | none=>rfl
  | some o=>
   obtain⟨o',q'⟩:=I.base.there T o r (show T ∉ ([]:List Addr)by simp)
   rw[z]at q';cases q'
def cR3 (C:Addr)(E:XK)(ta:TA):TS:=λ_ σ H=>ta σ H λvs H1=>vs.length<=sizeLine/\E (.ref C) none H1
theorem cR4 {x:Str}{np cpos pos:Pos}{e:Expr}{es:List Expr}{ta:TA}{B newId initId:String}{bmB:List Value}(FB:ExcBaseFacts B newId initId bmB)(q:excIn X.K C bmB newId=true)(hg:Gl X x)(hm:X.mg x=some (.ref C))(hc:X.calm=true)(ha:PA X (e::es) ta)(th:b12 X E C)
  (he:starEach (e::es) X.env=(false,eval e X.env)::starEach es X.env:=by rfl) (hpl:(backTo cpos<|starEach es X.env).any (·.1)=false:=by rfl) (hd:(x==("__debug__":Str))=false:=by decide) (hex:X.ex=[]:=by rfl) :
  PS X (.Raise (some<|.Call (.Name x np) (e::es) [] cpos) none pos) (cR3 C E ta):=by
 intro pins s σ H D I h;obtain⟨bm,⟨⟨nm,qn,N,bs,hdd,sn,sub,ab,col,dd,k0,k1,k2,k3,k5,mN,hC,hN,hni⟩,tl⟩⟩:=bJ3 I.mod.kin q;have keepS: ∀{pins:List (Addr×Obj)} {σ:St} {H:Hp} {s2:Shared},Inv X pins σ H s2-> ∀b o,X.base.get? b=some o->s2.heap.get? b=some o:=λJ=>J.bk
 refine wpAny_Raise_call_subT (C:=C) (nm:=nm) (q:=qn) (N:=N) (bs:=bs) (bm:=bm) (hdct:=hdd) (sn:=sn) (sub:=sub) (ab:=ab) (col:=col) (dd:=dd) (k0:=k0) (k1:=k1) (k2:=k2) (k3:=k3) (k5:=k5) FB (mN:=mN) (tl.hasType FB.hasBase) (I.ok.hd hc) ?_ hni (v8 I hg hm ⟨rfl,?_⟩ hd)
 ·rw[he];show(false||(backTo cpos<|starEach es X.env).any (·.1))=false;rw[hpl];rfl
 ·have hh:=ha cpos pins s σ H _ I h;rw[he]at hh⊢;refine aE7 (bL hh (λus s2 ⟨vs,H1,I1,r1,q1⟩=>⟨rfl,by rw[<-r1.length];exact q1.1,keepS I1 _ _ hC,hN.keeps<|keepS I1,tl.keeps<|keepS I1,λh' a mk=> ?_⟩) λ_ _ y=>y)
  obtain⟨t,m1,m2,m3⟩:=mk.there;have I2:Inv X pins σ H1 {s2 with heap:=h'}:=I1.kept mk.keeps;refine th pins σ H1 _ a _ _ (.ref t) none I2 m1 rfl rfl rfl rfl (I1.hok.there mk.new) ?_ (λd z=>by cases z) q1.2
  cases r:X.s₀.heap.get? a with
  | none=>rfl
  | some o=>
   obtain⟨o',q'⟩:=I1.base.there a o r (by rw[hex];simp)
   rw[mk.new]at q';cases q'
end
section
variable {prog:Program}{w:World}{A:Around}{E:Value->Shared->Prop}{hp:Heap}{gn:Array GenState}{dr:Drawn}{tn:Nat}{os:OsState}
variable {nm qn:Str}{C N:Addr}{bs bm bmB:List Value}{hdd:Bool}{sn:List Str}{sub:List Value}{ab:Bool}{col:Option Bool}{dd:Option Addr}{k0 k1 k2 k3 k5:Option Value}{B newId initId:String}
theorem c37 (F:ExcBaseFacts B newId initId bmB)(T:OwnTail hp bmB bm){mN:Str->Option Value}{us:List Value}{fI:Addr}{oI:Obj}{Q:Fin->Shared->Prop}
  (hC:hp.get? C=some (excClassObj nm qn C N bs bm hdd sn sub ab col dd k0 k1 k2 k3 k5 newId)) (hN:hp.Ns N mN) (hini:mN "__init__"=some (.ref fI)) (hfun:hp.get? fI=some oI) (hcls:oI.cls= .type "function")
  (hgo: ∀h' e,MadeExcOf hp h' e (.ref C) us->wpAny (model prog w) A (call (.ref fI) (.ref e::us)) (λr s'=>r= .none/\Q (.done<|.ret<|.ref e) s') E ⟨h',gn,dr,tn,os⟩) (hus:us.length<=sizeLine) :
  wpAny (model prog w) A (Builtin.«type.__call__» ⟨.ref C::us,[]⟩) Q E ⟨hp,gn,dr,tn,os⟩:=by
 repeat (first
  | with_reducible refine n8 hC ?_
  | with_reducible refine wpAny_madeBy_exc hC ?_
  | wp_step)
 refine codeAny_call_builtin_code (Code.quiet_builtin _ F.quiet) (wpAny_check_new_subT F T hC ?_)
 refine codeAny_exc_new_subT F T hC ?_ hus
 show wpAny _ _ _ _ _ _
 generalize ea:({cls:= .type "tuple",data:= .seq us.toArray}:Obj)=oa;generalize eb:({cls:= .ref C,data:= .fields #[.ref hp.objs.size,.none,.none,.none,.bool false,.none]}:Obj)=ob;have up: ∀b o,hp.get? b=some o->((hp.push oa).push ob).get? b=some o:=λb o q=>aO _ (aO _ q)
 have g1:=up _ _ hC;have g2:=up _ _ hfun;have g3:=hN.keeps up;have g4:((hp.push oa).push ob).get? (hp.objs.size+1)=some ob:=by
  subst ea eb
  heap_get
 have g5:((hp.push oa).push ob).get? hp.objs.size=some oa:=by
  subst ea;exact aO _ (Heap.get?_push_at rfl rfl)
 have g6:=T.keeps up;have me:(Value.ref C::bm).contains (.ref C)=true:=ae
 have ec:ob.cls= .ref C:=by rw[<-eb]
 unfold isInstance
 repeat (first
  | (with_reducible refine n8 g4 ?_;rw[ec])
  | (with_reducible refine xY g1 ?_;rw[me])
  | wp_step)
 show wpAny _ _ (typeLookup (.ref C) _) _ _ _
 refine wpAny_typeLookup_tail g1 g3 g6 F.mroIs F.init.lookup ?_
 rw[hini];refine j4 (a8 ?_);unfold bindSpecial;refine a8 (yL (T:="function") ⟨_,g2,hcls⟩ ?_);rw[a7 ac]
 have mk:MadeExcOf hp ((hp.push oa).push ob) (hp.objs.size+1) (.ref C) us:=⟨up,kP<|tO _,hp.objs.size,by rw[g4,<-eb],kP<|aB _,by rw[g5,<-ea]⟩
 refine aI (a8<|bL (hgo _ _ mk) (λr s' z=> ?_) λ_ _ z=>z)
 obtain⟨rfl,z⟩:=z
 wp_walk
 exact z
theorem xcall (F:ExcBaseFacts B newId initId bmB)(T:OwnTail hp bmB bm){mN:Str->Option Value}{us:List Value}{fI:Addr}{oI:Obj}{Q:Value->Shared->Prop}
  (hC:hp.get? C=some (excClassObj nm qn C N bs bm hdd sn sub ab col dd k0 k1 k2 k3 k5 newId)) (hN:hp.Ns N mN) (hini:mN "__init__"=some (.ref fI)) (hfun:hp.get? fI=some oI) (hcls:oI.cls= .type "function")
  (hgo: ∀h' e,MadeExcOf hp h' e (.ref C) us->wpAny (model prog w) (A.under<|.builtin "type.__call__" ⟨.ref C::us,[]⟩) (call (.ref fI) (.ref e::us)) (λr s'=>r= .none/\Q (.ref e) s') E ⟨h',gn,dr,tn,os⟩) (hus:us.length<=sizeLine) :
  wpAny (model prog w) A (call (.ref C) us) Q E ⟨hp,gn,dr,tn,os⟩:=by
 have t1:=tc_lookup;have t2:=tc_bind (.ref C);have t3:(⟨hp,gn,dr,tn,os⟩:Shared).TypeIs (.ref C) "type":=⟨_,hC,rfl⟩;refine tQ (codeAny_of_tree ?_);show wpAny _ _ (callAny (.ref C) _) _ _ _
 repeat (any_goals (first
  | assumption
  | with_reducible refine n8 hC ?_
  | wp_step))
 refine⟨rfl,?_⟩
 exact codeAny_call_builtin_at (Code.quiet_builtin _ af) entry_typeCall (wpAny_check_type_call_sub hC<|c37 F T hC hN hini hfun hcls (λh' e mk=>hgo h' e mk) hus)
end
end L2
end
section
namespace L2
open PySem PySem.Spec PyProof.Rows
open Builtin Builtin.ObjectAttr
noncomputable def veMro:List Value:=[.type "ValueError",.type "Exception",.type "BaseException",.type "object"]
noncomputable def u4:List Value->Bool
 | []=>false
 | v::r=>(v::r)==veMro||match v with
  | .ref _=>u4 r
  | _=>false
theorem aU4 (self:Value): ∀{l:List Value},u4 l=true->refuseLoop self "__setattr__" l=pure ()
 | v::r,e=>by
  unfold u4 at e;rcases Bool.or_eq_true_iff.mp e with q|q
  ·rw[gJ.mp q];exact PySem.F.store_ValueError.passes self
  ·split at q
   ·rw[refuseLoop_ref];exact aU4 self q
   ·cases q
theorem b13: ∀{l:List Value},u4 l=true->l.contains (.type "object")=true/\l.isEmpty=false
 | v::r,e=>by
  refine⟨?_,rfl⟩
  unfold u4 at e;rcases Bool.or_eq_true_iff.mp e with q|q
  ·rw[gJ.mp q];decide
  ·split at q
   ·rw[aF6,(b13 q).1,Bool.or_true]
   ·cases q
section
variable {K:Frag}{prog:Program}{w:World}{A:Around}{E:Value->Shared->Prop}{s:Shared}{x C:Addr}{mA:Str->Option Value}{ns:List Str}{name:Str}{v:Value}{cd:ClassData}
theorem xosa {R:Result->Shared->Prop}{tk:Tok}(X:K.In s.heap)(hc:clsIn K C=some cd)(hm:u4 cd.mro=true)(hdct:cd.hasDict=true)(ht:findIn K (.ref C) name=some none)
  (I:s.heap.Inst x C mA) (hw:Within mA ns) (hsz:ns.length<=100) {od:Option Obj} {o:Obj} (hx:s.heap.get? x=some o) (J:InstAt s.heap x o C od)
  (hq: ∀h' tk,h'.Inst x C (λy=>if y=name then some v else mA y)->(∀b o,b≠x->(∀o0 dx,s.heap.get? x=some o0->o0.dict=some dx->b≠dx)->s.heap.get? b=some o->h'.get? b=some o)->
   (∀o0,s.heap.get? x=some o0-> ∃o1,h'.get? x=some o1/\o1.cls=o0.cls/\o1.data=o0.data/\ ∀dx,o1.dict=some dx->o0.dict=some dx\/(s.heap.objs.size<=dx))->R (.ok<|.ret .none) {s with heap:=h',toks:=tk}) :
  codeAny (model prog w) A (.call (.builtin "object.__setattr__") ⟨[.ref x,.str name tk,v],[]⟩) R s:=by
 have SF:=PySem.F.store_ValueError;have sub:PySem.W.Looks (model prog w) s.heap (isInstance (.ref x)<|.type "object") true:=J.type.andThen (PySem.W.looks_mroIn X (by unfold PySem.W.mroIn;rw[hc,bind_some,a6 (by rw[(b13 hm).2];decide),(b13 hm).1]))
 refine codeAny_call_builtin SF.slot.plain SF.entry (@PySem.W.check_slot (model prog w) _ _ s "object.__setattr__" "object" "__setattr__" (.ref x) [.str name tk,v] [] _ SF.kind SF.split sub (SF.args (.ref x) (.str name tk) v) ?_)
 have hmr:PySem.W.Looks (model prog w) s.heap (mroOf<|.ref C) cd.mro:=(aF2 X hc).andThen .now;rw[PySem.W.osa_eq,refuse_eq];refine a8 (a8<|J.type.here<|a8<|hmr.here ?_);rw[aU4 _ hm];refine aI (a8<|J.type.here<|a8<|(PySem.W.looks_findIn X ht).here<|a8<|aI ?_);have lc:=aF2 (M:=model prog w) X hc;obtain⟨o',hx',hcl,hnc,hdd⟩:=I;rw[hx]at hx';cases hx';refine a8 (aI ?_);refine a8 ?_
 show wpAny _ _ (instanceDict x true) _ _ s
 unfold instanceDict;refine a8 (wpAny_loadPart hx ?_);rw[hcl];dsimp only;refine a8 (lc.here ?_);rw[hdct];rw[a6 ac]
 clear sub hmr lc;obtain⟨hp,gn,dr,tn,os⟩:=s;dsimp only at *;have put: ∀(h1:Heap) (dx:Addr) (o1:Obj),h1.get? x=some o1->o1.cls= .ref C->(∀c,o1.data≠ .cls c)->o1.dict=some dx->dx≠x->h1.Ns1 dx mA->o1.data=o.data->(∀b ob,b≠x->hp.get? b=some ob->h1.get? b=some ob)->(o.dict=some dx\/hp.objs.size<=dx)->
   wpAny (model prog w) A.in1 (storeInDict dx (.str name tk) name v) (λfin s'=>match fin with| .done f=>R (.ok f) s'| .again c'=>c'.quiet=true/\codeAny (model prog w) A c' R s') (λe s'=>R (.error e) s') ⟨h1,gn,dr,tn,os⟩:=by
  intro h1 dx o1 g1 g2 g3 g4 g5 g6 g7 g8 g9;unfold storeInDict newKeyGuard;refine a8 (aI<|a8<|wpAny_nsSet1 g6 λh' n' sb=> ?_)
  obtain⟨oD,eD,pD,q1,q2,q3⟩:=n'.count (Within.cons name v hw);have few:eD.size<=sizeLine:=by
   refine aL q3 ?_
   rw[j1,sizeLine_eq]
   lia
  refine a8 (wpAny_lookBehind q1 (by rw[q2];exact pastItsLine_dict (aG2 few)) ?_)
  have gx:h'.get? x=some o1:=(sb.2 x<|Ne.symm g5).trans g1;refine aI (hq h' _ ⟨o1,gx,g2,g3,.inr ⟨dx,g4,g5,n'⟩⟩ (λb ob k1 k2 k3=> ?_) λo0 k1=> ?_)
  ·have nb:b≠dx:=by
    rcases g9 with z|z
    ·exact k2 o dx hx z
    ·intro q;have:=aQ k3;rw[q]at this;exact absurd (aX this z) (dI _)
   exact(sb.2 b nb).trans (g8 b ob k1 k3)
  ·rw[hx]at k1;cases k1;exact⟨o1,gx,by rw[g2,hcl],g7,λdx' z=>by rw[g4]at z;cases z;exact g9⟩
 rcases hdd with⟨hn,hmA⟩| ⟨dx,hdx,hne,hns⟩
 ·rw[hn];dsimp only;rw[a6<|by simp[typeHasDict]]
  have ex: ∀d':Data,d'=o.data->wpAny (model prog w) A.in1 (match d' with
     | .cls c=>pure none
     | _=>do
      let d<-alloc {cls:=Value.type "dict",data:=Data.dict #[]}
      update x λo=>{cls:=o.cls,dict:=some d,data:=o.data,slots:=o.slots}
      dictMade (Value.ref C) x d) (λa s'=>wpAny (model prog w) A.in1 (match a with|some d=>storeInDict d (.str name tk) name v|none=>noDictFor (.ref x) (.ref C) name (none:Option Value).isSome) (λfin s'=>match fin with| .done f=>R (.ok f) s'| .again c'=>c'.quiet=true/\codeAny (model prog w) A c' R s') (λe s'=>R (.error e) s') s') (λe s'=>R (.error e) s') ⟨hp,gn,dr,tn,os⟩:=by
   intro d' ed;split
   ·rename_i c
    exact absurd ed.symm (hnc c)
   ·have x1:(hp.push {cls:= .type "dict",data:= .dict #[]}).get? x=some o:=aO _ hx;have xs:x≠hp.objs.size:=bK (aQ hx);refine a8 (wpAny_alloc'<|a8<|wpAny_update' x1<|aI ?_);have alive:Obj.isFreed {cls:=o.cls,dict:=some hp.objs.size,data:=o.data,slots:=o.slots}=false:=by
     have:=(Heap.get?_some_iff.mp hx).2;obtain⟨c1,c2,c3,c4⟩:=o;cases c3<;>first|rfl|exact this
    have gd:((hp.push {cls:= .type "dict",data:= .dict #[]}).update x λo=>{cls:=o.cls,dict:=some hp.objs.size,data:=o.data,slots:=o.slots}).get? hp.objs.size=some {cls:= .type "dict",data:= .dict #[]}:=
     (xX _ _ _ _<|Ne.symm xs).trans (Heap.get?_push_at rfl rfl)
    refine put _ hp.objs.size {cls:=o.cls,dict:=some hp.objs.size,data:=o.data,slots:=o.slots} (pC _ x1 alive) hcl hnc rfl (Ne.symm xs) ?_ rfl (λb ob k1 k2=>(xX _ _ _ _ k1).trans (aO _ k2)) (.inr<|aB _)
    have e0:mA=λ_=>none:=funext hmA
    rw[e0];exact Heap.Ns1.of_empty ⟨_,#[],_,gd,rfl,λe he=>absurd he ae,λ_=>rfl⟩
  exact ex o.data rfl
 ·rw[hdx];exact aI (put hp dx o hx hcl hnc hdx hne hns rfl (λb ob _ k=>k) (.inl hdx))
theorem xset {Q:Unit->Shared->Prop}(X:K.In s.heap)(hc:clsIn K C=some cd)(hm:u4 cd.mro=true)(hdct:cd.hasDict=true)(hsa:findIn K (.ref C) "__setattr__"=some (some<|.builtin "object.__setattr__"))(ht:findIn K (.ref C) name=some none)
  (I:s.heap.Inst x C mA) (hw:Within mA ns) (hsz:ns.length<=100)
  (hq: ∀h' tk,h'.Inst x C (λy=>if y=name then some v else mA y)->(∀b o,b≠x->(∀o0 dx,s.heap.get? x=some o0->o0.dict=some dx->b≠dx)->s.heap.get? b=some o->h'.get? b=some o)->
   (∀o0,s.heap.get? x=some o0-> ∃o1,h'.get? x=some o1/\o1.cls=o0.cls/\o1.data=o0.data/\ ∀dx,o1.dict=some dx->o0.dict=some dx\/(s.heap.objs.size<=dx))->Q () {s with heap:=h',toks:=tk}) :
  wpAny (model prog w) A (setAttr (.ref x) name v) Q E s:=by
 have I':=I;obtain⟨o,hx,hcl,hnc,hdd⟩:=I;have J: ∃od,InstAt s.heap x o C od:=by
  rcases hdd with⟨e,_⟩| ⟨dx,e,_,od,es,ep,ge,_⟩
  ·exact⟨none,hx,hcl,(by unfold PySem.W.notCls;split<;>first|rfl| (rename_i c q;exact absurd q (hnc c))),by rw[e];trivial⟩
  ·exact⟨some od,hx,hcl,(by unfold PySem.W.notCls;split<;>first|rfl| (rename_i c q;exact absurd q (hnc c))),by rw[e];exact ge⟩
 obtain⟨od,J⟩:=J;refine PySem.W.set_plain X J hsa ?_;exact xosa (s:={s with toks:=s.toks+1}) X hc hm hdct ht I' hw hsz hx J λh' tk a b c=>hq h' tk a b c
end
end L2
end
section
namespace L2
open PySem PySem.Spec PyProof.Rows
structure bS5 (K:Frag)(C fI:Addr)(fd:FuncData)(f1 f2:Str):Prop where
 ex: ∃(oc:Value) (od:Option Addr) (nm qual:Str) (params:Arguments) (scope:Scope) (kV doc pm:Value) (an:Option Addr) (cdv ct:Value) (osl:Array (Option Value)) (x0 x1 x2:Str) (p1 p2 p3 p4 p5 p6 p7 p8:Pos),
  fd=fnOf nm qual params [.Assign [.Attribute (.Name x0 p1) f1 p2] (.Name x1 p3) p4,.Assign [.Attribute (.Name x0 p5) f2 p6] (.Name x2 p7) p8] scope .none kV doc pm an cdv ct/\
  K.lookup fI=some ⟨oc,od,.func fd,osl⟩/\oc= .type "function"/\codeIn K cdv qual=true/\b6 [x0,x1,x2] [x0,x1,x2] scope/\
  scope.names.lookup x0=some .local/\scope.names.lookup x1=some .local/\scope.names.lookup x2=some .local/\(x0==("__debug__":Str))=false/\(x1==("__debug__":Str))=false/\(x2==("__debug__":Str))=false/\Binds K fd [x0,x1,x2] []
 cls: ∃cd,clsIn K C=some cd/\u4 cd.mro=true/\cd.hasDict=true
 sa:findIn K (.ref C) "__setattr__"=some (some<|.builtin "object.__setattr__")
 n1:findIn K (.ref C) f1=some none
 n2:findIn K (.ref C) f2=some none
def Laid (C e:Addr)(f1 f2:Str)(v1 v2:V)(s s':Shared):Prop:=s'.os=s.os/\AllBare s'.gens/\(∀b o,s.heap.get? b=some o->s'.heap.get? b=some o)/\
 ∃oe t d w1 w2,s'.heap.get? e=some oe/\oe.cls= .ref C/\oe.data= .fields #[.ref t,.none,.none,.none,.bool false,.none]/\oe.dict=some d/\d≠e/\s.heap.get? d=none/\RelV v1 w1/\RelV v2 w2/\s'.heap.Ns1 d (λy=>if y=f2 then some w2 else if y=f1 then some w1 else none)
section
variable {X:Cx}{pins:List (Addr×Obj)}{σ:St}{H:Hp}{s:Shared}{C fI e:Addr}{fd:FuncData}{f1 f2:Str}{h1:Heap}{u1 u2:Value}{v1 v2:V}{E:Value->Shared->Prop}{k:Nat}
theorem cG8 (T:bS5 X.K C fI fd f1 f2)(I:Inv X pins σ H s)(hr:hZ (k+1) X.A)(mk:MadeExcOf s.heap h1 e (.ref C) [u1,u2])(r1:RelV v1 u1)(r2:RelV v2 u2) :
  wpAny (model X.prog X.w) (X.A.under<|.builtin "type.__call__" ⟨.ref C::[u1,u2],[]⟩) (call (.ref fI) (.ref e::[u1,u2])) (λr s'=>r= .none/\Laid C e f1 f2 v1 v2 s s') E {s with heap:=h1}:=by
 obtain⟨oc,od,nm,qual,params,scope,kV,doc,pm,an,cdv,ct,osl,x0,x1,x2,p1,p2,p3,p4,p5,p6,p7,p8,rfl,lk,_,hcd,S,l0,l1,l2,d0,d1,d2,hb⟩:=T.ex;obtain⟨cd,hc,hm,hdct⟩:=T.cls;have I1:Inv X pins σ H {s with heap:=h1}:=I.kept mk.keeps;have e0:=I1.env0.make C [u1,u2] [];have rm:=hr.make C [u1,u2] [];have KX:=I1.kIn;have lim:=I1.nolimit
 have us:Vals [V.ref e,v1,v2] [Value.ref e,u1,u2]:= .cons rfl (.cons r1<|.cons r2 .nil);have hkind: ∀y∈[x0,x1,x2].zip [Value.ref e,u1,u2],scope.names.lookup y.1=some .local\/(scope.names.lookup y.1=some .cell/\((cellsFrom (h1.objs.size+1) scope.names []).lookup y.1).isSome=true):=λ⟨n,v⟩ hy=>by
  have:=(yC hy).1;simp at this;rcases this with rfl|rfl|rfl
  ·exact .inl l0
  ·exact .inl l1
  ·exact .inl l2
 refine tQ ?_
 have bd:=hb {s with heap:=h1} [Value.ref e,u1,u2] KX rfl;rw[iE]at bd;refine codeAny_call_function rm.depth (KX _ _ lk) rfl S.co S.gen rfl (PySem.W.codeRec_of KX hcd) (bd _ _ _ _ ?_);refine wpAny_newFunctionEnv_cells S.kind hkind λenv he s2 x=> ?_
 subst he;refine⟨lim.keeps x.toInCall.keep,codeAny_func ?_⟩;have J:Inv (tV CX0 X.prog X.w X.K X.mg X.base [x0,x1,x2] qual scope fI cdv (X.A.under<|.builtin "type.__call__" ⟨.ref C::[u1,u2],[]⟩) X.stack {s with heap:=h1} H E0) [] (start [x0,x1,x2] [V.ref e,v1,v2]) H s2:=bC7 S rm.hd e0 rfl us x;obtain⟨m,hn,hl⟩:=J.loc
 have look: ∀(i:Nat) (y:Str) (v:V),[x0,x1,x2][i]? =some y->(start [x0,x1,x2] [V.ref e,v1,v2])[i]? =some (some v)->scope.names.lookup y=some .local-> ∃u,RelV v u/\m y=some u:=λi y v q1 q2 q3=>by
  obtain⟨u,r,lo⟩:=hl i y v q1 q2 (.inl q3);rcases lo with⟨_,hm⟩| ⟨z,_⟩
  ·exact⟨u,r,hm⟩
  ·have z':scope.names.lookup y=some .cell\/scope.names.lookup y=some .free:=z;rw[q3]at z';rcases z' with z'|z'<;>cases z'
 obtain⟨w0,q0,m0⟩:=look 0 x0 (.ref e) rfl rfl l0;obtain⟨w1,q1,m1⟩:=look 1 x1 v1 rfl rfl l1;obtain⟨w2,q2,m2⟩:=look 2 x2 v2 rfl rfl l2;obtain rfl:w0=Value.ref e:=q0;have kk:=J.ok.kind;have kin:X.K.In s2.heap:=KX.keeps x.toInCall.keep;obtain⟨t,t1,t2,t3⟩:=mk.there;have ge:s2.heap.get? e=some {cls:= .ref C,data:= .fields #[.ref t,.none,.none,.none,.bool false,.none]}:=x.toInCall.keep _ _ t1
 have eL:e≠h1.objs.size:=bK (aQ t1);have in0:s2.heap.Inst e C (λ_=>none):=⟨_,ge,rfl,(λc z=>by cases z),.inl ⟨rfl,λ_=>rfl⟩⟩
 refine tE (aD0<|nN (pF kk l1 hn m1<|nN (pF kk l0 hn m0 ?_) d0) d1)
 refine xset kin hc hm hdct T.sa T.n1 in0 (ns:=[]) (λn z=>absurd rfl z) ae λh3 tk3 in3 kp3 ob3=> ?_
 obtain⟨o3,g3,c3,dt3,dd3⟩:=ob3 _ ge;have keep3: ∀b o,b≠e->s2.heap.get? b=some o->h3.get? b=some o:=λb o n q=>kp3 b o n (λo0 dx z1 z2=>by rw[ge]at z1;cases z1;cases z2) q
 have hn3:h3.Ns h1.objs.size m:=by
  obtain⟨o,es,ep,z1,z2⟩:=hn;exact⟨o,es,ep,keep3 _ _ (Ne.symm eL) z1,z2⟩
 have keep3': ∀b o,s.heap.get? b=some o->h3.get? b=some o:=λb o q=>keep3 b o (λz=>by rw[z,mk.new]at q;cases q) (x.toInCall.keep _ _<|mk.keeps b o q)
 have kin3:X.K.In h3:=I.kIn.keeps keep3';refine tE (aD0<|nN (pF kk l2 hn3 m2<|nN (pF kk l0 hn3 m0 ?_) d0) d2);refine xset kin3 hc hm hdct T.sa T.n2 in3 (ns:=[f1]) (λn z=> ?_) ae λh4 tk4 in4 kp4 ob4=> ?_
 ·by_cases c:n=f1
  ·simp[c]
  ·rw[a6 c]at z;exact absurd rfl z
 obtain⟨o4,g4,c4,dt4,dd4⟩:=ob4 _ g3;refine nG ?_;obtain⟨o5,g5,_,_,dd5⟩:=in4;rw[g4]at g5;cases g5;rcases dd5 with⟨_,no⟩| ⟨d,ed,de,nd⟩
 ·have:=no f2;simp at this
 have dn:s.heap.get? d=none:=by
  cases q:s.heap.get? d with
  | none=>rfl
  | some o=>
   exfalso
   have a3:=aQ (keep3' d o q);have a2:=aQ (x.toInCall.keep _ _<|mk.keeps d o q);rcases dd4 d ed with z|z
   ·rcases dd3 d z with z|z
    ·cases z
    ·exact absurd (aX a2 z) (dI _)
   ·exact absurd (aX a3 z) (dI _)
 refine⟨rfl,J.os,J.bare,λb o q=> ?_,o4,t,d,w1,w2,g4,?_,?_,ed,de,dn,q1,q2,nd⟩
 ·refine kp4 b o (λz=>by rw[z,mk.new]at q;cases q) (λo0 dx z1 z2=> ?_) (keep3' b o q)
  rw[g3]at z1;cases z1;rcases dd3 dx z2 with z|z
  ·cases z
  ·intro z';have:=aQ (x.toInCall.keep _ _<|mk.keeps b o q);rw[z']at this;exact absurd (aX this z) (dI _)
 ·rw[c4,c3]
 ·rw[dt4,dt3]
end
noncomputable def aB2 (K:Frag)(C fI:Addr)(bmB:List Value)(newId:String):Bool:=match K.lookup C with
 | some ⟨.type "type",_,.cls ck,sl⟩=>(match ck.mro,sl.toList with
  | .ref C2::tail,[_,_,_,_,some<|.builtin nid,_]=>C2==C&&nid==newId&& !ck.hasDel&&PySem.W.tailIn K bmB tail&&PySem.W.nsOkIn K ck.ns&&nsIn K ck.ns "__init__"==some (some<|.ref fI)
  | _,_=>false)
 | _=>false
theorem d59 {K:Frag}{h:Heap}{N:Addr}{mg:Str->Option Value}{n:Str}{v:Value}(X:K.In h)(G:h.Ns N mg)(e:nsIn K N n=some (some v)):mg n=some v:=by
 obtain⟨ob,ents,np,look0,dat,_,find0⟩:=G;unfold nsIn at e;split at e
 ·rename_i look
  have same:=X _ _ look;rw[look0]at same;cases same;cases dat;split at e
  ·rename_i en found
   cases e;rw[<-find0];unfold nsFind findBy;rw[<-Array.find?_toList,found];rfl
  ·split at e<;>cases e
 ·cases e
structure XClsI (h:Heap)(C fI:Addr)(bmB bm:List Value)(newId:String):Prop where
 ex: ∃(nm q:Str) (N:Addr) (bs:List Value) (hd:Bool) (sn:List Str) (sub:List Value) (ab:Bool) (col:Option Bool) (dd:Option Addr) (k0 k1 k2 k3 k5:Option Value) (mN:Str->Option Value),
  h.get? C=some (excClassObj nm q C N bs bm hd sn sub ab col dd k0 k1 k2 k3 k5 newId)/\h.Ns N mN/\mN "__init__"=some (.ref fI)
 tl:OwnTail h bmB bm
theorem bS6 {K:Frag}{h:Heap}{C fI:Addr}{bmB:List Value}{newId:String}(X:K.In h)(q:aB2 K C fI bmB newId=true): ∃bm,XClsI h C fI bmB bm newId:=by
 unfold aB2 at q;split at q
 ·rename_i od ck slots look
  split at q
  ·rename_i C2 tail a0 a1 a2 a3 nid a5 em es
   simp only[dS,gJ,aG1]at q;obtain⟨⟨⟨⟨⟨rfl,rfl⟩,nodel⟩,tk⟩,nk⟩,ni⟩:=q;obtain⟨c1,c2,c3,c4,c5,c6,c7,c8,c9,c10,c11⟩:=ck;dsimp only at em nodel nk ni;subst em nodel;obtain⟨sll⟩:=slots;simp only at es;subst es;have nsk:h.Ns c4 (h.nsMap c4):= .of_isNs (PySem.W.isNs_of_in X nk);exact⟨tail,⟨⟨_,_,_,_,_,_,_,_,_,_,_,_,_,_,_,_,X _ _ look,nsk,d59 X nsk ni⟩,PySem.W.tail_of_in X tk⟩⟩
  ·cases q
 ·cases q
section
variable {M:Model}{A:Around}{E:Value->Shared->Prop}{s:Shared}{env:Env}
variable {nm qn:Str}{C N:Addr}{bs bm:List Value}{hdd:Bool}{sn:List Str}{sub:List Value}{ab:Bool}{col:Option Bool}{dd:Option Addr}{k0 k1 k2 k3 k5:Option Value}{newId:String}
theorem xraise {x:Sem Value}{Q:Flow->Shared->Prop}(hbase:bm.contains (.type "BaseException")=true)(hh:A.handled=none)
  (h:wpAny M A x (λv s1=> ∃e oe vs,v= .ref e/\s1.heap.get? C=some (excClassObj nm qn C N bs bm hdd sn sub ab col dd k0 k1 k2 k3 k5 newId)/\s1.heap.get? e=some oe/\oe.cls= .ref C/\oe.data= .fields vs/\vs[1]? =some .none/\E (.ref e) s1) E s) :
  wpAny M A (raiseStmt env (some x) none) Q E s:=by
 have has:(Value.ref C::bm).contains (.type "BaseException")=true:=by rw[aF6,hbase,Bool.or_true]
 unfold raiseStmt;refine a8 (bL h (λv s1 z=> ?_) λ_ _ y=>y)
 obtain⟨e,oe,vs,rfl,hC,he,hcl,hdt,h1,hE⟩:=z;obtain⟨hp,gn,dr,tn,os⟩:=s1;obtain⟨oc,od,odt,osl⟩:=oe;dsimp only at hcl hdt;subst hcl hdt
 repeat (first
  | with_reducible refine n8 he ?_
  | with_reducible refine n8 hC ?_
  | (with_reducible refine xY hC ?_;rw[has])
  | wp_step)
 rw[h1];refine aI (aI ?_);exact wpAny_raiseNew_none hh hE
end
section
variable {P:Program}{w:World}{H:Hp}{h h':Heap}{a:Addr}{o:HO}{fs ex:List Addr}
theorem HOk.laidN (x:HOk P w H h)(k: ∀b u,h.get? b=some u->h'.get? b=some u)(hn:H a=none)(new:qX P w (upd H a o) h' a o):HOk P w (upd H a o) h':=λb u e=>by
 by_cases hb:b=a
 ·subst hb;rw[iT]at e;cases e;exact new
 ·rw[cE hb]at e;exact(x b u e).stay (λc v _ q=>k c v q) (λc q=>by rw[cE<|d8 q hn];exact q) λc xs q=>by rw[cE<|d8 q hn];exact q
theorem Un.laidN (k: ∀b u,h.get? b=some u->h'.get? b=some u)(hp:h.get? a=none)(hn:H a=none):Un fs ex H (upd H a o) h h' where
 keep:=λb u q _ _ _=>k b u q
 slot:=λb u q _ _ _=>⟨u.slots,k b u q⟩
 free:=λb u q n _=>by rw[cE (λz=>by rw[z,hp]at q;cases q)];exact n
 there:=λb u q _=>⟨u,k b u q⟩
 tups:=λb xs q=>by rw[cE<|d8 q hn];exact q
 frzs:=λb u xs q=>by rw[cE<|d8 q hn];exact q
 tbls:=λb ps q=>⟨#[],by rw[cE<|d8 q hn,q];simp⟩
end
section
variable {X:Cx}{E:XK}{C fI:Addr}
def d60 (C:Addr)(f1 f2:Str)(E:XK)(ta:TA):TS:=λ_ σ H=>ta σ H λvs H1=> ∃v1 v2,vs=[v1,v2]/\ ∀d,H1 d=none->E (.ref C) (some d) (upd H1 d<|.xd [(f1,v1),(f2,v2)])
theorem cG9 {x:Str}{np cpos pos:Pos}{e1 e2:Expr}{ta:TA}{B newId initId:String}{bmB:List Value}{fd:FuncData}{f1 f2:Str}{k:Nat}(FB:ExcBaseFacts B newId initId bmB)(q:aB2 X.K C fI bmB newId=true)(T:bS5 X.K C fI fd f1 f2)(hr:hZ (k+1) X.A)(hg:Gl X x)(hm:X.mg x=some (.ref C))(hc:X.calm=true)(ha:PA X [e1,e2] ta)(th:b12 X E C)(hne:f1≠f2)
  (he:starEach [e1,e2] X.env=(false,eval e1 X.env)::starEach [e2] X.env:=by rfl) (hpl:(backTo cpos<|starEach [e2] X.env).any (·.1)=false:=by rfl) (hd:(x==("__debug__":Str))=false:=by decide) (hex:X.ex=[]:=by rfl) :
  PS X (.Raise (some<|.Call (.Name x np) [e1,e2] [] cpos) none pos) (d60 C f1 f2 E ta):=by
 intro pins s σ H D I h;obtain⟨bm,⟨⟨nm,qn,N,bs,hdd,sn,sub,ab,col,dd,k0,k1,k2,k3,k5,mN,hC,hN,hni⟩,tl⟩⟩:=bS6 I.mod.kin q;have keepS: ∀{pins:List (Addr×Obj)} {σ:St} {H:Hp} {s2:Shared},Inv X pins σ H s2-> ∀b o,X.base.get? b=some o->s2.heap.get? b=some o:=λJ=>J.bk
 rw[arm_exec_Raise];refine a8 (pT<|xraise (C:=C) (nm:=nm) (qn:=qn) (N:=N) (bs:=bs) (bm:=bm) (hdd:=hdd) (sn:=sn) (sub:=sub) (ab:=ab) (col:=col) (dd:=dd) (k0:=k0) (k1:=k1) (k2:=k2) (k3:=k3) (k5:=k5) (newId:=newId) (tl.hasType FB.hasBase) (I.ok.hd hc) ?_);refine a8 (bL (wpAny_Call_ofName<|v8 I hg hm ?_ hd) (λv s3 h3=>a8 (pT<|aI h3)) λ_ _ z=>z)
 have plain:(backTo cpos<|starEach [e1,e2] X.env).any (·.1)=false:=by
  rw[he];show(false||(backTo cpos<|starEach [e2] X.env).any (·.1))=false;rw[hpl];rfl
 have hh:=ha cpos pins s σ H _ I h;unfold callWith;rw[he]at hh plain⊢;refine a8 (j4<|aE7<|bL hh (λus s2 z=>a8 (pT ?_)) λ_ _ z=>z)
 obtain⟨vs,H1,I1,r1,w1,w2,rfl,hE⟩:=z;simp only[plain];have hC2:=keepS I1 _ _ hC;obtain⟨u1,u2,rfl⟩: ∃u1 u2,us=[u1,u2]:=by
  have e:=r1.length
  match us,e with
  | [a,b],_=>exact⟨a,b,rfl⟩
 obtain⟨q1,q2⟩:RelV w1 u1/\RelV w2 u2:=by
  cases r1 with
  | cons a r=>
   cases r with
   | cons b _=>exact⟨a,b⟩
 obtain⟨oc,od,_,_,_,_,_,_,_,_,_,_,osl,_,_,_,_,_,_,_,_,_,_,_,efd,lk,oce,_⟩:=T.ex;have gf:=I1.kIn _ _ lk;obtain⟨hp,gn,dr,tn,os⟩:=s2;refine a8 (wpAny_keeperOf_exc hC2 ?_);refine a8 (xcall FB (tl.keeps<|keepS I1) hC2 (hN.keeps<|keepS I1) hni gf oce (λh' a mk=> ?_) (by simp;decide))
 refine bL (cG8 T I1 hr mk q1 q2) (λr s' z=> ?_) λ_ _ z=>z
 obtain⟨rfl,z1,z2,z3,oe,t,d,y1,y2,z4,z5,z6,ed,de,dn,x1,x2,nd⟩:=z;refine⟨rfl,a8<|j4<|wpAny_point<|aI ?_⟩;have dH:H1 d=none:=I1.hok.there dn;have I2:Inv X pins σ (upd H1 d<|.xd [(f1,w1),(f2,w2)]) s':=by
  obtain⟨hp',gn',dr',tn',os'⟩:=s';obtain rfl:os'=os:=z1;refine I1.call (h':=hp') (g':=gn') (d':=dr') (t':=tn') (ch:=[]) (Un.laidN z3 dn dH) (I1.hok.laidN z3 dH ?_) z2 (λb z=>absurd z ae)
  refine⟨_,nd,λf=> ?_⟩
  simp only[d5,List.lookup_nil]
  by_cases c1:f=f1
  ·subst c1;rw[aG6,a6 hne,a7 rfl];exact x1
  ·rw[show(f==f1)=false from pH.mpr c1]
   by_cases c2:f=f2
   ·subst c2;rw[aG6,a7 rfl];exact x2
   ·rw[show(f==f2)=false from pH.mpr c2,a6 c2,a6 c1]
    exact trivial
 refine⟨a,oe,_,rfl,z3 _ _ hC2,z4,z5,z6,rfl,?_⟩
 refine th pins σ _ s' a oe _ (.ref t) (some d) I2 z4 z5 z6 rfl rfl (by rw[cE<|Ne.symm de];exact I1.hok.there mk.new) ?_ (λd' e=>by cases e;exact⟨oe,z4,ed⟩) (hE d dH)
 cases r:X.s₀.heap.get? a with
 | none=>rfl
 | some o=>
  obtain⟨o',q'⟩:=I1.base.there a o r (by rw[hex];simp)
  rw[mk.new]at q';cases q'
end
end L2
end
section
namespace M
open PySem PySem.Spec PyProof.Rows L2
abbrev XP:=Str->List D->Prop
abbrev ΦX:=List D->(B->Prop)->XP->Prop
noncomputable def bE4 (n:Str):List Str:=if n="FallsApart" then ["left","right"]else if n="NotWhole" then ["prime","number"]else []
noncomputable def XR (K:Frag)(A:AS)(H:Hp)(n:Str)(ds:List D):Option Addr->Prop
 | none=>bE4 n=[]
 | some d=> ∃vs,¬A d/\H d=some (.xd<|(bE4 n).zip vs)/\(bE4 n).length=vs.length/\bS K A H ds vs
theorem XR.mono {K:Frag}{A A':AS}{H H':Hp}{n:Str}{ds:List D}(p:mJ A H A' H'): ∀{o:Option Addr},XR K A H n ds o->XR K A' H' n ds o
 | none,h=>h
 | some d,⟨vs,h1,h2,h3,h4⟩=>⟨vs,(p d _ h1 h2).1,(p d _ h1 h2).2,h3,h4.mono p⟩
noncomputable def spX (K:Frag)(mg:Str->Option Value)(φ:ΦX):Sp:=λvs H Q E=> ∃A ds Q0 Ex,(∀a,A a->H a≠none)/\bS K A H ds vs/\φ ds Q0 Ex/\(∀b v H',Q0 b->iB H H'->uZ K A H H' b v->Q v H')/\ ∀n C es o H',Ex n es->mg n=some (.ref C)->iB H H'->XR K A H' n es o->E (.ref C) o H'
structure FnX (P:Program)(w:World)(K:Frag)(mg:Str->Option Value)(base:Heap)(x:Str)(ps:List Str)(k:Nat)(φ:ΦX):Prop where
 ex: ∃f fd,sL P w K mg base (CXr P w base) k f fd ps (spX K mg φ)/\Binds K fd ps []/\keepIn K (.ref f)=true/\mg x=some (.ref f)
abbrev USX:=XP->US
def lSX (K:Frag)(mg:Str->Option Value)(E:XK)(t:USX):TS:=λD σ H=> ∃C ρ D0 Ex,EOk K C ρ σ H/\t Ex D0 ρ/\DOk K C D0 D/\ ∀n Cl es o H',Ex n es->mg n=some (.ref Cl)->iB C.H0 H'->XR K C.A0 H' n es o->E (.ref Cl) o H'
def bJ4 (X:Cx)(E:XK)(st:Stmt)(t:USX):Prop:=PS X st (lSX X.K X.mg E t)
def a09 (X:Cx)(E:XK)(sts:List Stmt)(t:USX):Prop:=PSs X sts (lSX X.K X.mg E t)
section
variable {X:Cx}{E:XK}{st:Stmt}{sts:List Stmt}{t u:USX}{e:Expr}{es:List Expr}{pos:Pos}
theorem aL6 {t:US}(h:PUS X st t):bJ4 X E st (λ_=>t):=sE h λD σ H ⟨C,ρ,D0,Ex,I,h,k,_⟩=>⟨C,ρ,D0,I,h,k⟩
theorem cR5 {t:US}(h:rN X sts t):a09 X E sts (λ_=>t):=b00 h λD σ H ⟨C,ρ,D0,Ex,I,h,k,_⟩=>⟨C,ρ,D0,I,h,k⟩
theorem bJ5 (h1:bJ4 X E st t)(h2:a09 X E sts u):a09 X E (st::sts) (λEx=>aS (t Ex) (u Ex)):=
 b00 (wX h1 h2) λD σ H ⟨C,ρ,D0,Ex,I,h,k,kx⟩=>⟨C,ρ,{D0 with nx:=u Ex D0},Ex,I,h,⟨λρ' σ' H' q I'=>⟨C,ρ',D0,Ex,I',q,k,kx⟩,k.rt,k.bk,k.ct⟩,kx⟩
theorem b14 (h1:bJ4 X E st t):a09 X E [st] t:=bG6 h1
theorem c38:a09 X E [] (λ_=>fQ):=cR5 bH7
theorem cR6 {c:Expr}{a b:List Stmt}{tc:UT}(hc:PUT X c tc)(ha:a09 X E a t)(hb:a09 X E b u):bJ4 X E (.If c a b pos) (λEx=>iO tc (t Ex) (u Ex)):=
 sE (dC9 hc ha hb) λD σ H ⟨C,ρ,D0,Ex,I,h,k,kx⟩=>⟨C,ρ,_,I,h,λc ρ1 H1 q f s=>by
  have I1:=(I.frz f).same s;cases c with
  | true=>
   dsimp only at q⊢;rw[a7 rfl]at q⊢;exact⟨C,ρ1,D0,Ex,I1,q,k,kx⟩
  | false=>
   dsimp only at q⊢;rw[a6 ac]at q⊢
   exact⟨C,ρ1,D0,Ex,I1,q,k,kx⟩⟩
def bJ6 (φ:ΦX)(t:UA)(Ex:XP):UE:=λρ Q=>t ρ λds ρ1=>φ ds (λb=>Q b ρ1) Ex
theorem spX_of {φ:ΦX}{C:C0}{ρ ρ1:Ev}{σ:L2.St}{H H1:Hp}{ds:List D}{vs:List V}{Q0:B->Prop}{Ex:XP}{Q:VK}(I:EOk X.K C ρ σ H)(f:Frz ρ ρ1)(s:iB H H1)(r:bS X.K (Av C ρ1 σ) H1 ds vs)(q:φ ds Q0 Ex)(kq: ∀b v H',Q0 b->iB H1 H'->uZ X.K (Av C ρ1 σ) H1 H' b v->Q v H')(kx: ∀n Cl es o H',Ex n es->X.mg n=some (.ref Cl)->iB C.H0 H'->XR X.K C.A0 H' n es o->E (.ref Cl) o H'):spX X.K X.mg φ (vs++[]) H1 Q E:=by
 have I1:=(I.frz f).same s;rw[iE];exact⟨Av C ρ1 σ,ds,Q0,Ex,λa z=>I1.avSome z,r,q,kq,λn Cl es o H' ex hm s' x=>kx n Cl es o H' ex hm (I1.ext.trans s') (x.mono<|.sub (.refl _) λa z=> .inl z)⟩
theorem c98 {k k':Nat}{ps:List Str}{φ:ΦX}{x:Str}{p cpos:Pos}{t:UA}(F:FnX X.prog X.w X.K X.mg X.base x ps k φ)(hr:hZ k' X.A)(hk:k<=k')(hp:vS (CXr X.prog X.w X.base) X E)(hg:Gl X x)(ha:PUA X (e::es) t)(hdb:(x==("__debug__":Str))=false:=by decide)
  (he:starEach (e::es) X.env=(false,eval e X.env)::starEach es X.env:=by rfl) (hpl:(backTo cpos<|starEach es X.env).any (·.1)=false:=by rfl) (hs:swapsWith (.Call (.Name x p) (e::es) [] cpos) none pos.line X.env=pure false:=by rfl) :
  bJ4 X E (.Expr (.Call (.Name x p) (e::es) [] cpos) pos) (λEx=>aL1 (bJ6 φ t Ex)):=by
 obtain⟨f,fd,G,b,kp,m⟩:=F.ex;exact sE (bG7 (c85 G (hr.mono hk) hg m kp b .nil hp ha hdb he hpl) hs) λD σ H ⟨C,ρ,D0,Ex,I,h,k,kx⟩=>⟨C,ρ,_,I,h,λds ρ1 vs H1 q f s r=>spX_of I f s r q (λb v H' q' s' r'=>k.nx _ _ _ q' (((I.frz f).same s).same s')) kx⟩
def bJ7 (x:Str)(t:UA)(Ex:XP):US:=λ_ ρ=>t ρ λds _=>ds.length<=sizeLine/\Ex x []
theorem lRaise {x:Str}{C:Addr}{t:UA}(hm:X.mg x=some (.ref C))(hk:bE4 x=[])(D:b90)(σ:L2.St)(H:Hp)(h:lSX X.K X.mg E (λEx=>bJ7 x t Ex) D σ H):cR3 C E (lA X.K t) D σ H:=by
 obtain⟨C0,ρ,D0,Ex,I,h,k,kx⟩:=h;exact⟨C0,ρ,_,I,h,λds ρ1 vs H1 q f s r=>⟨by rw[<-r.length];exact q.1,kx x C [] none H1 q.2 hm (I.ext.trans s) hk⟩⟩
def aL7 (x:Str)(t1 t2:UE)(Ex:XP):US:=λ_ ρ=>t1 ρ λa ρ1=>t2 ρ1 λb _=>Ex x [a.d,b.d]
theorem cR7 {C:Addr}{x:Str}{np cpos:Pos}{t:UA}{B newId initId:String}{bmB:List Value}(FB:ExcBaseFacts B newId initId bmB)(q:excIn X.K C bmB newId=true)(hg:Gl X x)(hm:X.mg x=some (.ref C))(hc:X.calm=true)(ha:PUA X (e::es) t)(th:b12 X E C)(hk:bE4 x=[])
  (he:starEach (e::es) X.env=(false,eval e X.env)::starEach es X.env:=by rfl) (hpl:(backTo cpos<|starEach es X.env).any (·.1)=false:=by rfl) (hd:(x==("__debug__":Str))=false:=by decide) (hex:X.ex=[]:=by rfl) :
  bJ4 X E (.Raise (some<|.Call (.Name x np) (e::es) [] cpos) none pos) (λEx=>bJ7 x t Ex):=sE (cR4 FB q hg hm hc ha th he hpl hd hex) (lRaise hm hk)
theorem bE5 {C fI:Addr}{x:Str}{np cpos:Pos}{e1 e2:Expr}{t1 t2:UE}{B newId initId:String}{bmB:List Value}{fd:FuncData}{f1 f2:Str}{k:Nat}(FB:ExcBaseFacts B newId initId bmB)(q:aB2 X.K C fI bmB newId=true)(T:bS5 X.K C fI fd f1 f2)(hr:hZ (k+1) X.A)(hg:Gl X x)(hm:X.mg x=some (.ref C))(hc:X.calm=true)(ha:PUA X [e1,e2] (a9 t1<|a9 t2 aM))(th:b12 X E C)(hk:bE4 x=[f1,f2])(hne:f1≠f2)
  (he:starEach [e1,e2] X.env=(false,eval e1 X.env)::starEach [e2] X.env:=by rfl) (hpl:(backTo cpos<|starEach [e2] X.env).any (·.1)=false:=by rfl) (hd:(x==("__debug__":Str))=false:=by decide) (hex:X.ex=[]:=by rfl) :
  bJ4 X E (.Raise (some<|.Call (.Name x np) [e1,e2] [] cpos) none pos) (λEx=>aL7 x t1 t2 Ex):=by
 refine sE (cG9 FB q T hr hg hm hc ha th hne he hpl hd hex) λD σ H ⟨C0,ρ,D0,Ex,I,h,k,kx⟩=> ?_
 refine⟨C0,ρ,λds _=> ∃a b,ds=[a,b]/\Ex x ds,I,?_,λds ρ' vs H' ⟨a,b,q1,q2⟩ f s r=> ?_⟩
 ·have e9: ∀(z y:M.B) (ρ2:Ev),(∃a b,[z.d,y.d]=[a,b]/\Ex x [z.d,y.d])=Ex x [z.d,y.d]:=λz y ρ2=>propext ⟨λ⟨_,_,_,w⟩=>w,λw=>⟨_,_,rfl,w⟩⟩
  show t1 ρ λz ρ1=>t2 ρ1 λy ρ2=> ∃a b,[z.d,y.d]=[a,b]/\Ex x [z.d,y.d]
  have:=h;unfold aL7 at this;simp only[e9 _ _ ρ];exact this
 ·subst q1;obtain⟨v1,vr,rfl,r1,r2⟩:=r.uncons;obtain⟨v2,vr2,rfl,r3,r4⟩:=r2.uncons;cases r4.unnil;refine⟨v1,v2,rfl,λd hd=> ?_⟩
  have I1:=(I.frz f).same s;have s2:iB H' (upd H' d<|.xd [(f1,v1),(f2,v2)]):=λb o z=>by rw[cE<|d8 z hd];exact z
  have na: ∀a,C0.A0 a->a≠d:=λa z e=>I1.avSome (.inl z) (by rw[e];exact hd)
  refine kx x C _ (some d) _ q2 hm (I1.ext.trans s2) ⟨[v1,v2],λz=>na d z rfl,?_,by rw[hk];rfl,(bS.cons r1<|.cons r3 .nil).mono λb o n z=>⟨λw=>n (.inl w),s2 b o z⟩⟩
  rw[iT,hk];rfl
theorem cR8 {P:Program}{w:World}{K:Frag}{mg:Str->Option Value}{base:Heap}{x qual:Str}{st:Stmt}{f:Addr}{fd:FuncData}{N ps:List Str}{k:Nat}{φ:ΦX}(F:Fun K x qual st f fd)(S:b6 N ps (aE st))
  (len: ∀ds Q Ex,φ ds Q Ex->ds.length=ps.length) {t:USX}
  (der: ∀(cdv:Value) (A:Around) (outer:List Env) (s:Shared) (H:Hp) (E:XK),hZ k (A.deeper<|envOfC qual (aE st) s.heap.objs.size f cdv)->a09 (tV (CXr P w base) P w K mg base N qual (aE st) f cdv A outer s H E) E (dQ st) t)
  (rd: ∀ds Q Ex,φ ds Q Ex->t Ex {nx:=λ_=>Q (.pu .non),rt:=Q} (init N ds)) :
  sL P w K mg base (CXr P w base) (k+1) f fd ps (spX K mg φ):=by
 obtain⟨oc,od,kV,doc,pm,an,cdv,ct,osl,rfl,lk,hcd⟩:=F.ex;refine cM4 lk hcd S (λvs H Q E h=> ?_) λA outer s H vs Q E hr h=> ?_
 ·obtain⟨A,ds,Q0,Ex,_,r,h,_⟩:=h;rw[<-r.length];exact len ds Q0 Ex h
 ·obtain⟨A',ds,Q0,Ex,hA,r,h,q,qx⟩:=h;refine⟨_,der cdv A outer s H E hr,⟨H,A'⟩,init N ds,_,Ex,bI2 hA r,rd ds Q0 Ex h,⟨λρ σ H' z I=> ?_,λb v H' z s r=>q b v H' z s r,λ_ _ _ z=>z.elim,λ_ _ _ z=>z.elim⟩,qx⟩
  exact q _ _ H' z I.ext (show Rep _ _ _ _ _ by simp only[Rep])
theorem FnX.mk' {P:Program}{w:World}{K:Frag}{mg:Str->Option Value}{base:Heap}{x qual:Str}{st:Stmt}{f:Addr}{fd:FuncData}{N ps:List Str}{k:Nat}{φ:ΦX}(F:Fun K x qual st f fd)(m:mg x=some (.ref f))(b:Binds K fd ps [])(S:b6 N ps (aE st))
  (len: ∀ds Q Ex,φ ds Q Ex->ds.length=ps.length) {t:USX}
  (der: ∀(cdv:Value) (A:Around) (outer:List Env) (s:Shared) (H:Hp) (E:XK),hZ k (A.deeper<|envOfC qual (aE st) s.heap.objs.size f cdv)->a09 (tV (CXr P w base) P w K mg base N qual (aE st) f cdv A outer s H E) E (dQ st) t)
  (rd: ∀ds Q Ex,φ ds Q Ex->t Ex {nx:=λ_=>Q (.pu .non),rt:=Q} (init N ds)):FnX P w K mg base x ps (k+1) φ:=
 ⟨f,fd,cR8 F S len der rd,b,F.kp,m⟩
end
end M
end
section
namespace L2
open PySem PySem.Spec PyProof.Rows
section
variable {X:Cx}{pins:List (Addr×Obj)}{σ:St}{H:Hp}{s:Shared}{h':Heap}{e:Addr}
theorem Inv.past {g:Heap}(I:Inv X pins σ H s)(p:b96 (frs X.stack) e s.heap h')(hstk:X.stack=X.env::X.outer)(hfr:X.env.frame=some X.env.locals)(hex:X.ex=[])(gs: ∀b o,X.s₀.heap.get? b=some o-> ∃o',g.get? b=some o')(gp: ∀q∈X.pn++pins,∃o',g.get? q.1=some o')(ne:g.get? e=none)(nt: ∀T,Tr s.heap e T->g.get? T=none)(he:H e=none)(ht: ∀T,Tr s.heap e T->H T=none):Inv X pins σ H {s with heap:=h'}:=by
 have none0: ∀b,g.get? b=none->X.s₀.heap.get? b=none:=λb q=>by
  cases r:X.s₀.heap.get? b with
  | none=>rfl
  | some o=>obtain⟨o',q'⟩:=gs b o r;rw[q]at q';cases q'
 have fm: ∀b∈frs X.stack,b=X.env.locals\/b∈X.fs:=λb hb=>by
  rw[hstk]at hb;unfold Cx.fs;unfold frs at hb⊢;rw[jO,hfr]at hb;exact aY.mp hb
 have hL:X.s₀.heap.get? X.env.locals=none:=kP I.ok.above;have hd: ∀b∈X.fs,∀o,s.heap.get? b=some o-> ∀vs,o.data≠ .fields vs:=λb hb o q=>by
  have fl:=I.stack;rw[hstk]at fl;obtain⟨_,o',q',n⟩:=fl.mem (b:=b) (by
   unfold Cx.fs frs at hb;rw[jO,hfr];exact aY.mpr (.inr hb))
  rw[q]at q';cases q';exact n
 have hb0:=I.base;rw[hex]at hb0;have un:=hb0.past p fm hL (none0 e ne) (λT q=>none0 T (nt T q)) hd
 have cellS: ∀c v,s.heap.IsCell c v->h'.IsCell c v:=λc v ⟨o,q1,q2⟩=>by
  obtain⟨sl,q3⟩:=p.slot c o q1 (λvs z=>by rw[q2]at z;cases z)
  exact⟨_,q3,q2⟩
 refine⟨I.ok,I.os,I.bare,by rw[hex];exact un,?_,λx c q=> ?_,I.free,I.freeC,λq hq=> ?_,I.hok.past p I.stkFree he ht,I.len⟩
 ·obtain⟨m,hn,hl⟩:=I.loc;refine⟨m,p.slot.ns hn,λi x v a b c=> ?_⟩
  obtain⟨u,r,lo⟩:=hl i x v a b c;refine⟨u,r,?_⟩;rcases lo with z| ⟨z1,c,z2,z3⟩
  ·exact .inl z
  ·exact .inr ⟨z1,c,z2,cellS c _ z3⟩
 ·obtain⟨v,z⟩:=I.cell x c q;exact⟨v,cellS c v z⟩
 ·obtain⟨z1,z2,z3,z4,z5⟩:=I.pin q hq;obtain⟨o',g1⟩:=gp q hq;refine⟨p.keep q.1 q.2 z1 (λz=> ?_) (λz=>by rw[z,ne]at g1;cases g1) (λz=>by rw[nt _ z]at g1;cases g1),z2,z3,z4,z5⟩
  rcases fm _ z with y|y
  ·exact z3 y
  ·exact z4 y
end
noncomputable abbrev Cx.inX (X:Cx)(e:Addr):Cx:={X with A:=X.A.mark (some<|.ref e),calm:=false,xe:=λ_ _=>False}
theorem Cx.Ok.inX {X:Cx}(ok:X.Ok)(e:Addr):(X.inX e).Ok:=
 ⟨ok.mod,ok.kind,ok.glob,ok.blt,ok.above,ok.inj,ok.has,ok.cab,(λz=>by cases z),ok.frames,ok.stk,ok.exf,ok.bs,ok.bsz,ok.noex,ok.exfs,ok.funs,ok.frf⟩
section
variable {X:Cx}{pins:List (Addr×Obj)}{σ:St}{H:Hp}{s:Shared}{e:Addr}
theorem Inv.inX (I:Inv X pins σ H s)(e:Addr):Inv (X.inX e) pins σ H s:=⟨I.ok.inX e,I.os,I.bare,I.base,I.loc,I.cell,I.free,I.freeC,I.pin,I.hok,I.len⟩
theorem Cx.Ok.outX {X:Cx}{Y:Cx}(okY:Y.Ok){e:Addr}(ok:(X.inX e).Ok)(hd:X.calm=true->X.A.handled=none):X.Ok:=
 ⟨ok.mod,ok.kind,ok.glob,ok.blt,ok.above,ok.inj,ok.has,ok.cab,hd,ok.frames,ok.stk,ok.exf,ok.bs,ok.bsz,ok.noex,ok.exfs,ok.funs,ok.frf⟩
theorem Inv.outX (I:Inv (X.inX e) pins σ H s)(hd:X.calm=true->X.A.handled=none):Inv X pins σ H s:=⟨I.ok.outX I.ok hd,I.os,I.bare,I.base,I.loc,I.cell,I.free,I.freeC,I.pin,I.hok,I.len⟩
theorem SP.outX {D:b90}{f:Flow}{s':Shared}(h:SP (X.inX e) pins D f s')(hd:X.calm=true->X.A.handled=none):SP X pins D f s':=by
 cases f with
 | next=>obtain⟨σ',H',I,q⟩:=h;exact⟨σ',H',I.outX hd,q⟩
 | brk=>obtain⟨σ',H',I,q⟩:=h;exact⟨σ',H',I.outX hd,q⟩
 | cont=>obtain⟨σ',H',I,q⟩:=h;exact⟨σ',H',I.outX hd,q⟩
 | ret u=>obtain⟨v,σ',H',I,r,q⟩:=h;exact⟨v,σ',H',I.outX hd,r,q⟩
theorem cR9 {M:Model}{A:Around}{E:Value->Shared->Prop}{hp:Heap}{gn:Array GenState}{dr:Drawn}{tn:Nat}{os:OsState}{C R:Addr}{oe:Obj}{Q:Bool->Shared->Prop}
  {nm qn:Str} {N:Addr} {bs bm:List Value} {hdd:Bool} {sn:List Str} {sub:List Value} {ab:Bool} {col:Option Bool} {dd:Option Addr} {k0 k1 k2 k3 k5:Option Value} {newId:String}
  {nm' qn':Str} {N':Addr} {bs' bm':List Value} {hdd':Bool} {sn':List Str} {sub':List Value} {ab':Bool} {col':Option Bool} {dd':Option Addr} {k0' k1' k2' k3' k5':Option Value} {newId':String}
  (hC:hp.get? C=some (excClassObj nm qn C N bs bm hdd sn sub ab col dd k0 k1 k2 k3 k5 newId)) (hR:hp.get? R=some (excClassObj nm' qn' R N' bs' bm' hdd' sn' sub' ab' col' dd' k0' k1' k2' k3' k5' newId'))
  (he:hp.get? e=some oe) (hcl:oe.cls= .ref C) (hb:bm'.contains (.type "BaseException")=true) (hr:(Value.ref C::bm).contains (.ref R)=true) (hq:Q true ⟨hp,gn,dr,tn,os⟩) :
  wpAny M A (excMatches (.ref e)<|.ref R) Q E ⟨hp,gn,dr,tn,os⟩:=by
 have t1:(Value.ref R::bm').contains (.type "BaseException")=true:=by rw[aF6,hb,Bool.or_true]
 have t2:=tc_notTuple;unfold excMatches
 repeat (first
  | (with_reducible refine n8 he ?_;rw[hcl])
  | with_reducible refine n8 hR ?_
  | (with_reducible refine xY hR ?_;rw[t1])
  | (with_reducible refine xY hC ?_;rw[hr])
  | wp_step)
 exact hq
end
theorem bE3.past {g h h':Heap}{fs:List Addr}{e:Addr}(n:bE3 g e h)(p:b96 fs e h h')(gh: ∀b o,g.get? b=some o-> ∃o',h.get? b=some o')(hf: ∀b∈fs,∀o,h'.get? b=some o-> ∀vs,o.data≠ .fields vs):bE3 g e h':=by
 refine⟨n.he,λT q=> ?_⟩
 rcases p.tr T q with z|z|z|z
 ·obtain⟨o,vs,q1,q2⟩:=p.rcd T q;exact absurd q2 (hf T z o q1 vs)
 ·rw[z];exact n.he
 ·exact n.ht T z
 ·cases r:g.get? T with
  | none=>rfl
  | some o=>obtain⟨o',q'⟩:=gh T o r;rw[z]at q';cases q'
theorem b15 {g h h':Heap}{fs:List Addr}{e:Addr}(n:bE3 g e h)(p:b96 fs e h h')(gh: ∀b o,g.get? b=some o-> ∃o',h.get? b=some o')(hf: ∀b∈fs,∀o,h.get? b=some o-> ∀vs,o.data≠ .fields vs): ∀b o,g.get? b=some o-> ∃o',h'.get? b=some o':=λb o q=>by
 obtain⟨o',q'⟩:=gh b o q
 by_cases c:b∈fs
 ·obtain⟨sl,z⟩:=p.slot b o' q' (hf b c o' q');exact⟨_,z⟩
 ·exact⟨o',p.keep b o' q' c (λz=>by rw[z,n.he]at q;cases q) λz=>by rw[n.ht b z]at q;cases q⟩
theorem d61 {h base:Heap}{l:List Env}(f:h.FunFrames base l): ∀b∈frs l,∀o,h.get? b=some o-> ∀vs,o.data≠ .fields vs:=λb hb o q=>by
 obtain⟨_,o',q',n⟩:=f.mem (b:=b) hb;rw[q]at q';cases q';exact n
def aL8 (CX:CXT)(X:Cx)(E:XK)(pins:List (Addr×Obj))(σ:St):Prop:= ∀(H:Hp) (s:Shared) (e:Value) (s':Shared),Inv X pins σ H s->CX X.stack H s E e s'->X.xe e s'
def aQ8 (K:Frag)(R C:Addr)(bmB:List Value)(newId:String):Prop:=(excIn K C bmB newId=true\/ ∃fI,aB2 K C fI bmB newId=true)/\ ∃cd,clsIn K C=some cd/\cd.mro.contains (.ref R)=true
theorem underX {K:Frag}{h:Heap}{R C:Addr}{bmB:List Value}{newId:String}(X:K.In h)(u:aQ8 K R C bmB newId): ∃(nm q:Str) (N:Addr) (bs bm:List Value) (hd:Bool) (sn:List Str) (sub:List Value) (ab:Bool) (col:Option Bool) (dd:Option Addr) (k0 k1 k2 k3 k5:Option Value),
  h.get? C=some (excClassObj nm q C N bs bm hd sn sub ab col dd k0 k1 k2 k3 k5 newId)/\(Value.ref C::bm).contains (.ref R)=true:=by
 obtain⟨a,cd,hc,hr⟩:=u;have has: ∃(nm q:Str) (N:Addr) (bs bm:List Value) (hd:Bool) (sn:List Str) (sub:List Value) (ab:Bool) (col:Option Bool) (dd:Option Addr) (k0 k1 k2 k3 k5:Option Value),h.get? C=some (excClassObj nm q C N bs bm hd sn sub ab col dd k0 k1 k2 k3 k5 newId):=by
  rcases a with a| ⟨fI,a⟩
  ·obtain⟨bm,⟨⟨nm,qn,N,bs,hdd,sn,sub,ab,col,dd,k0,k1,k2,k3,k5,mN,hC,_⟩,_⟩⟩:=bJ3 X a;exact⟨nm,qn,N,bs,bm,hdd,sn,sub,ab,col,dd,k0,k1,k2,k3,k5,hC⟩
  ·obtain⟨bm,⟨⟨nm,qn,N,bs,hdd,sn,sub,ab,col,dd,k0,k1,k2,k3,k5,mN,hC,_⟩,_⟩⟩:=bS6 X a;exact⟨nm,qn,N,bs,bm,hdd,sn,sub,ab,col,dd,k0,k1,k2,k3,k5,hC⟩
 obtain⟨nm,qn,N,bs,bm,hdd,sn,sub,ab,col,dd,k0,k1,k2,k3,k5,hC⟩:=has;refine⟨nm,qn,N,bs,bm,hdd,sn,sub,ab,col,dd,k0,k1,k2,k3,k5,hC,?_⟩;unfold clsIn at hc;split at hc
 ·rename_i look
  have same:=X _ _ look;rw[hC]at same;cases hc
  injection same with same
  injection same with _ _ same _
  injection same with same
  rw[<-same]at hr;exact hr
 ·cases hc
section
variable {X:Cx}
def tTry (K:Frag)(R:Addr)(bmB:List Value)(newId:String)(tb:XK->TS)(th:TS):TS:=λD σ H=> ∃E,tb E D σ H/\ ∀C o H',E (.ref C) o H'->aQ8 K R C bmB newId/\th D σ H'
theorem ps_try {body:List Stmt}{b0:Stmt}{suite:List Stmt}{r:Str}{rp hpos pos:Pos}{R:Addr}{B newId initId:String}{bmB:List Value}{tb:XK->TS}{th:TS}(FB:ExcBaseFacts B newId initId bmB)(hstk:X.stack=X.env::X.outer)(hfr:X.env.frame=some X.env.locals)(hex:X.ex=[])(hc:X.calm=true)
  (hbody: ∀(xe:Value->Shared->Prop) (E:XK) (pins:List (Addr×Obj)) (s:Shared) (σ:St) (H:Hp) (D:b90),Inv (X.wish xe) pins σ H s->aL8 (CXr X.prog X.w X.base) (X.wish xe) E pins σ->tb E D σ H->wpAny (model X.prog X.w) X.A (execs body X.env) (SP (X.wish xe) pins D) xe s)
  (hsuite: ∀a,PSs (X.inX a) (b0::suite) th) (hg:Gl X r) (hm:X.mg r=some (.ref R)) (hR:excIn X.K R bmB newId=true) (hd:(r==("__debug__":Str))=false:=by decide) :
  PS X (.Try body [.ExceptHandler (some<|.Name r rp) none (b0::suite) hpos] [] [] pos) (tTry X.K R bmB newId tb th):=by
 rintro pins s σ H D I ⟨E,hb,hx⟩;refine wpAny_Try_except ?_;have goX:aL8 (CXr X.prog X.w X.base) (X.wish λe s1=>wpAny (model X.prog X.w) X.A (noteFrame e X.env) (λ_ s2=>wpAny (model X.prog X.w) X.A (setFlight e none) (λ_ s3=>wpAny (model X.prog X.w) X.A (handleBy e X.env [.ExceptHandler (some<|.Name r rp) none (b0::suite) hpos]) (SP X pins D) X.xe s3) X.xe s2) X.xe s1) E pins σ:=by
  rintro H1 s1 e s' J ⟨a,C,o',H',rfl,ho,hbr,un,hok,⟨⟨a0,fl⟩,fe,ft⟩,nw,_,hE⟩;have J0:=J.unwish;have J1:Inv X pins σ H' s':=J0.call' ho un hok hbr (λb z=>absurd z ae)
  obtain⟨under,hth⟩:=hx C o' H' hE;have fl':FlyingW X.base X.stack a (.ref C) a0 s'.heap:=fl;have frs':=J1.ok.frames;have g0: ∀b o,s1.heap.get? b=some o-> ∃o',s'.heap.get? b=some o':=λb o q=>un.there b o q ae
  have gs: ∀b o,X.s₀.heap.get? b=some o-> ∃o',s1.heap.get? b=some o':=λb o q=>J0.base.there b o q (by rw[hex];simp)
  have gp: ∀q∈X.pn++pins,∃o',s1.heap.get? q.1=some o':=λq hq=>⟨_,(J0.pin q hq).1⟩
  show wpAny _ _ (noteFrame (.ref a) X.env) _ _ s'
  rw[hstk]at fl' frs';refine cR1 frs' hfr fl' λh2 held p2=> ?_
  rw[<-hstk]at p2 held fl';have J2:=J1.past (g:=s1.heap) p2 hstk hfr hex gs gp nw.he nw.ht fe ft;have n2:=nw.past p2 g0 (d61 held.2.2.1);have g2:=b15 nw p2 g0 (d61 fl'.2.2.1);have t2:=aY4 J1.hok p2 J1.stkFree fe ft;refine bS3 held λh3 fl3 p3=> ?_
  have J3:=J2.past (g:=s1.heap) p3 hstk hfr hex gs gp n2.he n2.ht fe t2;have n3:=n2.past p3 g2 (d61 fl3.2.2.1);have g3:=b15 n2 p3 g2 (d61 held.2.2.1);have t3:=aY4 J2.hok p3 J2.stkFree fe t2;obtain⟨oe,he,hcl⟩:=fl3.there;obtain⟨nm,qn,N,bs,bm,hdd,sn,sub,ab,col,dd,k0,k1,k2,k3,k5,hC,hin⟩:=underX J3.kIn under
  obtain⟨bm',⟨⟨nm',qn',N',bs',hdd',sn',sub',ab',col',dd',k0',k1',k2',k3',k5',mN',hRo,_⟩,tl'⟩⟩:=bJ3 J3.kIn hR;refine wpAny_handleBy_cons (codeAny_handlers_test<|v8 (X:=X.inX a) (J3.inX a) hg hm ?_ hd) (by intro q;cases q)
  refine cR9 hC hRo he hcl (tl'.hasType FB.hasBase) hin ?_
  refine codeAny_handlers_suite (bS3 fl3 λh4 fl4 p4=> ?_)
  have J4:=J3.past (g:=s1.heap) p4 hstk hfr hex gs gp n3.he n3.ht fe t3;exact bL (hsuite a pins _ σ H' D (J4.inX a) hth) (λf s2 q=>q.outX λ_=>J4.ok.hd hc) λ_ _ z=>z.elim
 refine bL (hbody _ E pins s σ H D (I.wish _) goX hb) (λf s1 q=> ?_) λ_ _ z=>z
 have q':=q.unwish;cases f with
 | next=>exact nG q'
 | ret v=>exact q'
 | brk=>exact q'
 | cont=>exact q'
end
end L2
end
section
namespace L2
open PySem PySem.Spec PyProof.Rows
section
variable {X:Cx}{CX:CXT}{k:Nat}{f C:Addr}{fd:FuncData}{ps:List Str}{sp:Sp}{dvs:List V}{ds:List Value}{E:XK}{x:Str}{p pos:Pos}{e:Expr}{es:List Expr}{t:TA}
theorem cH0 {pins:List (Addr×Obj)}{σ:St}{H:Hp}{s:Shared}{Q:VK}{us:List Value}{vs:List V}(M:Mk X.K C f)(F:sL X.prog X.w X.K X.mg X.base CX k f fd ps sp)(hr:hZ (k+1) X.A)(hb:Binds X.K fd ps [])
  (hx:aL8 CX X E pins σ) (I:Inv X pins σ H s) (r:Vals vs us)
  (h: ∀x dx,H x=none->H dx=none->dx≠x->sp (.ref x::vs) (upd (upd H dx<|.own x) x<|.ins C dx []) (λv H2=>v= .non/\Q (.ref x) H2) E) :
  wpAny (model X.prog X.w) X.A (call (.ref C) us) (EP X pins σ Q) X.xe s:=by
 have hq:=h (s.heap.objs.size+1) s.heap.objs.size (I.hok.fresh<|tO _) (I.hok.fresh<|aB _) (bK<|pQ _);have I2:=Inv.made (C:=C) I;have r2:Vals (V.ref (s.heap.objs.size+1)::vs) (Value.ref (s.heap.objs.size+1)::us):= .cons rfl r;have hl:(Value.ref (s.heap.objs.size+1)::us++[]).length=ps.length:=by
  have e:=r2.length;rw[F.len _ _ _ _ hq]at e;rw[iE];exact e.symm
 have bd:=hb (s:={s with heap:=(s.heap.push {cls:= .type "dict",data:= .dict #[]}).push (instObj C s.heap.objs.size)}) (Value.ref (s.heap.objs.size+1)::us) I2.kIn hl;rw[iE]at bd;refine tQ (bP8 (f:=f) I.kIn M.makes M.init (gJ.mp M.fn) (tM (F.run _ X.stack _ _ ⟨Value.ref (s.heap.objs.size+1)::us,[]⟩ (Value.ref (s.heap.objs.size+1)::us) _ _ E (hr.make C us [])
  (I2.env0.make C us []) bd r2 hq) λr s' hq'=> ?_))
 cases r with
 | error e=>exact hx _ _ e s' I2 hq'
 | ok fl=>
  cases fl with
  | ret u=>
   obtain⟨v,H',I3,rv,ev,q3⟩:=I2.after hq';subst ev;exact⟨rv,⟨V.ref<|s.heap.objs.size+1,H',I3,rfl,q3⟩⟩
  | next=>exact False.elim hq'
  | brk=>exact False.elim hq'
  | cont=>exact False.elim hq'
theorem d62 {pins:List (Addr×Obj)}{σ:St}{H:Hp}{s:Shared}{Q:VK}(M:Mk X.K C f)(F:sL X.prog X.w X.K X.mg X.base CX k f fd ps sp)(hr:hZ (k+1) X.A)(hg:Gl X x)(hm:X.mg x=some (.ref C))(hb:Binds X.K fd ps [])(hx:aL8 CX X E pins σ)
  (ha:PA X (e::es) t) (I:Inv X pins σ H s) (h:c84 C sp [] E t σ H Q) (hdb:(x==("__debug__":Str))=false) (he:starEach (e::es) X.env=(false,eval e X.env)::starEach es X.env) (hpl:(backTo pos<|starEach es X.env).any (·.1)=false) :
  wpAny (model X.prog X.w) X.A (eval (.Call (.Name x p) (e::es) [] pos) X.env) (EP X pins σ Q) X.xe s:=by
 refine pL (v8 I hg hm ?_ hdb)
 refine aF4 (h₀:=X.base) I.ok.mod.kin M.kp (thn (ha pos pins s σ H _ I h) λus s1 ⟨vs,H1,I1,r,q⟩=>⟨I1.kIn,?_⟩) he hpl
 exact cH0 M F hr hb hx I1 r λx dx a b c=>by have:=q x dx a b c;rw[iE]at this;exact this
end
end L2
namespace M
open PySem PySem.Spec PyProof.Rows L2
section
variable {X:Cx}{e:Expr}{es:List Expr}{pos:Pos}{te:UE}{K:Frag}{A:AS}{H:Hp}
def c39 (f:Str)(t:UE):UE:=λρ Q=>t ρ λb ρ1=>match b.d with
 | .obj _ ks l=>(match(ks.zip l).lookup f with
  | some d=>Q (.pu d) ρ1
  | none=>False)
 | _=>False
theorem bS.field {f:Str}{d:D}: ∀{ks:List Str} {l:List D} {vs:List V},bS K A H l vs->(ks.zip l).lookup f=some d-> ∃v,(ks.zip vs).lookup f=some v/\Rep K A H d v/\f∈ks
 | [],_,_,_,h=>by simp at h
 | _::_,[],_,_,h=>by simp at h
 | q::ks,a::l,vs,r,h=>by
  obtain⟨v,vr,rfl,r1,r2⟩:=r.uncons;rw[aF5,d5]at h;rw[aF5,d5];cases c:f==q with
  | true=>
   rw[c]at h;cases h;exact⟨v,rfl,r1,by rw[gJ.mp c];simp⟩
  | false=>
   rw[c]at h;obtain⟨w,h1,h2,h3⟩:=bS.field r2 h;exact⟨w,h1,h2,bF _ h3⟩
theorem cS0 {f:Str}(he:PU X e te)(hb:attributeBase e f X.env (eval e X.env)=eval e X.env:=by rfl):PU X (.Attribute e f pos) (c39 f te):=
 kC (pe_fld he hb) λσ H Q ⟨C,ρ,Q0,I,h,k⟩=>⟨C,ρ,_,I,h,λb ρ1 v H1 q fz s r=>by
  have rr:=r.rep λa z=>I.avF fz z
  cases ed:b.d with
  | obj C' ks l=>
   rw[ed]at rr q;dsimp only at q;cases el:(ks.zip l).lookup f with
   | none=>rw[el]at q;exact q.elim
   | some d=>
    rw[el]at q;simp only[Rep]at rr;obtain⟨a,dx,vs,rfl,n,c,hl,rl,ok⟩:=rr;obtain⟨w,h1,h2,h3⟩:=rl.field el;exact⟨a,C',dx,ks.zip vs,w,rfl,c,ok.1,ok.2 f h3,h1,k _ ρ1 w H1 q fz s h2⟩
  | _=>rw[ed]at q;exact q.elim⟩
abbrev ΦM:=List D->(List D->Prop)->XP->Prop
noncomputable def spI (K:Frag)(mg:Str->Option Value)(C:Addr)(ks:List Str)(φ:ΦM):Sp:=λvs H Q E=> ∃(x dx:Addr) (vs':List V) (A:AS) (ds:List D) (Q0:List D->Prop) (Ex:XP),vs=V.ref x::vs'/\H x=some (.ins C dx [])/\H dx=some (.own x)/\ ¬A x/\ ¬A dx/\(∀a,A a->H a≠none)/\bS K (λb=>A b\/b=x) H ds vs'/\φ ds Q0 Ex/\
 (∀l ws H',Q0 l->(∀b o,b≠x->H b=some o->H' b=some o)->H' x=some (.ins C dx<|ks.zip ws)->ks.length=ws.length->bS K (λb=>A b\/b=x) H' l ws->Q .non H')/\
 ∀n Cl es o H',Ex n es->mg n=some (.ref Cl)->(∀b o,b≠x->H b=some o->H' b=some o)->XR K A H' n es o->E (.ref Cl) o H'
structure MkX (P:Program)(w:World)(K:Frag)(mg:Str->Option Value)(base:Heap)(x:Str)(k:Nat)(ks:List Str)(φ:ΦM):Prop where
 ex: ∃C f fd ps,Mk K C f/\OkC K C ks/\sL P w K mg base (CXr P w base) k f fd ps (spI K mg C ks φ)/\Binds K fd ps []/\mg x=some (.ref C)
theorem dD8 {C:Addr}{ks:List Str}{φ:ΦM}{t:UA}{E:XK}{C0:C0}{ρ:Ev}{σ:L2.St}{Q:VK}{Q0:Ev->List D->Prop}{Ex:Ev->XP}(ok:OkC X.K C ks)(I:EOk X.K C0 ρ σ H)(h:t ρ λds ρ1=>φ ds (Q0 ρ1) (Ex ρ1))
  (kq: ∀l ρ1 v H',Q0 ρ1 l->Frz ρ ρ1->iB H H'->Rep X.K (Av C0 ρ1 σ) H' (.obj C ks l) v->Q v H') (kx: ∀n Cl ρ1 es o H',Ex ρ1 n es->X.mg n=some (.ref Cl)->EOk X.K C0 ρ1 σ H'->XR X.K (Av C0 ρ1 σ) H' n es o->E (.ref Cl) o H') :
  c84 C (spI X.K X.mg C ks φ) [] E (lA X.K t) σ H Q:=by
 refine⟨C0,ρ,_,I,h,λds ρ1 vs H1 q f s r x dx nx nd ne=> ?_⟩
 have I1:=(I.frz f).same s;have hA: ∀a,Av C0 ρ1 σ a->H1 a≠none:=λa z=>I1.avSome z
 have s3:iB H1 (upd (upd H1 dx<|.own x) x<|.ins C dx []):=λb o z=>by
  rw[cE<|d8 z nx,cE<|d8 z nd];exact z
 have back: ∀H',(∀b o,b≠x->upd (upd H1 dx<|.own x) x (.ins C dx []) b=some o->H' b=some o)->iB H1 H':=λH' z b o q'=>z b o (d8 q' nx) (s3 b o q')
 rw[iE];refine⟨x,dx,vs,Av C0 ρ1 σ,ds,Q0 ρ1,Ex ρ1,rfl,iT,by rw[cE ne];exact iT,λz=>hA x z nx,λz=>hA dx z nd,λa z q'=> ?_,r.mono<|mJ.fresh s3 nx,q,λl ws H' q0 kp hx hl rl=>⟨rfl,?_⟩,λn Cl es o H' ex hm kp xr=> ?_⟩
 ·cases e':H1 a with
  | none=>exact hA a z e'
  | some o=>rw[s3 a o e']at q';cases q'
 ·refine kq l ρ1 _ H' q0 f (s.trans<|back H' kp) ?_
  simp only[Rep];exact⟨x,dx,ws,rfl,λz=>hA x z nx,hx,hl,rl.mono<|.sub (.refl _) λa z=> .inl z,ok⟩
 ·exact kx n Cl ρ1 es o H' ex hm (I1.same<|back H' kp) xr
def cS1 (ks:List Str)(φ:ΦM)(t:UA):UE:=λρ Q=>t ρ λds ρ1=>φ ds (λl=> ∀C,Q (.pu<|.obj C ks l) ρ1) λ_ _=>False
theorem d63 {k k':Nat}{ks:List Str}{φ:ΦM}{x:Str}{p:Pos}{t:UA}(F:MkX X.prog X.w X.K X.mg X.base x k ks φ)(hr:hZ (k'+1) X.A)(hk:k<=k')(hg:Gl X x)(ha:PUA X (e::es) t)(hdb:(x==("__debug__":Str))=false:=by decide)
  (he:starEach (e::es) X.env=(false,eval e X.env)::starEach es X.env:=by rfl) (hpl:(backTo pos<|starEach es X.env).any (·.1)=false:=by rfl):PU X (.Call (.Name x p) (e::es) [] pos) (cS1 ks φ t):=by
 obtain⟨C,f,fd,ps,M,ok,G,b,m⟩:=F.ex;have hp:vS (CXr X.prog X.w X.base) X (λ_ _ _=>False):=by
  rintro pins σ H s e s' I ⟨_,_,_,_,_,_,_,_,_,_,_,_,z⟩;exact z.elim
 refine kC (d19 M (G.mono hk) hr hg m b .nil hp ha hdb he hpl) λσ H Q ⟨C0,ρ,Q0,I,h,k⟩=> ?_
 exact dD8 (Q0:=λρ1 l=> ∀C,Q0 (.pu<|.obj C ks l) ρ1) (Ex:=λ_ _ _=>False) ok I h (λl ρ1 v H' q f s r=>k _ ρ1 v H' (q C) f s r) λn Cl ρ1 es o H' z=>z.elim
def cS2 (i:Nat)(ks:List Str)(φ:ΦM)(t:UA)(names:List Str)(th:US):US:=λE ρ=>t ρ λds ρ1=>φ ds (λl=> ∀C,E.nx<|ρ1.set i<|some<|.pu<|.obj C ks l) λn _=>n∈names/\th E ρ1
theorem d64 {k k':Nat}{ks:List Str}{φ:ΦM}{x y r:Str}{p cpos apos py rp hpos:Pos}{t:UA}{b0:Stmt}{suite:List Stmt}{th:US}{R:Addr}{B newId initId:String}{bmB:List Value}(i:Nat)(names:List Str)(FB:ExcBaseFacts B newId initId bmB)(F:MkX X.prog X.w X.K X.mg X.base x k ks φ)(hr:hZ (k'+1) X.A)(hk:k<=k')(hstk:X.stack=X.env::X.outer)(hfr:X.env.frame=some X.env.locals)(hex:X.ex=[])(hc:X.calm=true)
  (hg:Gl X x) (ha: ∀xe,PUA (X.wish xe) (e::es) t) (hN:X.N.Nodup) (hi:X.N[i]? =some y) (hy:Loc X.env.scope y) (hsuite: ∀a,rN (X.inX a) (b0::suite) th) (hgr:Gl X r) (hmr:X.mg r=some (.ref R)) (hR:excIn X.K R bmB newId=true) (hu: ∀n∈names,∀C,X.mg n=some (.ref C)->aQ8 X.K R C bmB newId)
  (hl: ∀pins σ H s,Inv X pins σ H s->i<σ.length) (hdb:(x==("__debug__":Str))=false:=by decide) (hd:(r==("__debug__":Str))=false:=by decide)
  (he:starEach (e::es) X.env=(false,eval e X.env)::starEach es X.env:=by rfl) (hpl:(backTo cpos<|starEach es X.env).any (·.1)=false:=by rfl) (hs:swapsWith (.Call (.Name x p) (e::es) [] cpos) (some<|.Name y py) apos.line X.env=pure false:=by rfl) (hf:X.fn y=true\/X.env.scope.names.lookup y=some .local:=by walk_at "z") :
  PUS X (.Try [.Assign [.Name y py] (.Call (.Name x p) (e::es) [] cpos) apos] [.ExceptHandler (some<|.Name r rp) none (b0::suite) hpos] [] [] pos) (cS2 i ks φ t names th):=by
 obtain⟨C,f,fd,ps,M,ok,G,b,m⟩:=F.ex;intro pins s σ H D J q;refine ps_try (R:=R) (tb:=λE=>d09 (c84 C (spI X.K X.mg C ks φ) [] E<|lA X.K t) (aK6 i)) (th:=lS X.K th) FB hstk hfr hex hc (λxe E pins s σ H D I pa h=> ?_) hsuite hgr hmr hR hd pins s σ H D J ?_
 ·refine tE (wpAny_Assign_Name (thn (d62 (X:=X.wish xe) M (G.mono hk) hr hg m b pa (ha xe) I h hdb he hpl) λv s1 ⟨y',H1,I1,r1,q1⟩=> ?_) hs)
  exact aK5 (X:=X.wish xe) I1 hN hi hy r1 (λs2 I2=>nG ⟨_,H1,I2,q1⟩) hf
 ·obtain⟨C0,ρ,D0,I,h,k⟩:=q;refine⟨λcls _ H'=> ∃n Cl ρ1,cls=Value.ref Cl/\X.mg n=some (.ref Cl)/\n∈names/\th D0 ρ1/\EOk X.K C0 ρ1 σ H',?_,?_⟩
  ·exact dD8 (Q0:=λρ1 l=> ∀C,D0.nx<|ρ1.set i<|some<|.pu<|.obj C ks l) (Ex:=λρ1 n _=>n∈names/\th D0 ρ1) ok I h
    (λl ρ1 v H' q f s1 r=>k.nx _ _ _ (q C) ((I.frz f).store s1 (show uZ X.K (Av C0 ρ1 σ) H H' (.pu<|.obj C ks l) v from r)<|hl pins σ H s J)) λn Cl ρ1 es o H' z hm' I' _=>⟨n,Cl,ρ1,rfl,hm',z.1,z.2,I'⟩
  ·rintro Cl o H' ⟨n,Cl',ρ1,e1,hm',hn,ht,I'⟩;cases e1;exact⟨hu n hn Cl hm',C0,ρ1,D0,I',ht,k⟩
end
end M
end
section
namespace M
open PySem PySem.Spec PyProof.Rows L2
section
variable {K:Frag}{C:C0}{ρ ρ':Ev}{σ:L2.St}{H H':Hp}
theorem EOk.poke {x:Addr}{o:HO}(I:EOk K C ρ σ H)(ax:C.A0 x)(hx: ∀vs,C.H0 x≠some (.lst vs)):EOk K ⟨λb=>if b=x then some o else C.H0 b,C.A0⟩ ρ σ (upd H x o):=by
 have ne: ∀a,C.H0 a=none->a≠x:=λa z e=>by subst e;exact I.a0 a ax z
 have P:mJ (Av C ρ σ) H (Av ⟨λb=>if b=x then some o else C.H0 b,C.A0⟩ ρ σ) (upd H x o):=λb u nb e=>⟨nb,by rw[cE λz=>nb (by subst z;exact .inl ax)];exact e⟩
 refine⟨I.len,?_,?_,I.inj,?_,?_,?_⟩
 ·intro i d h;obtain⟨v,h1,h2⟩:=I.pu i d h;exact⟨v,h1,h2.mono P⟩
 ·intro i l h;obtain⟨a,vs,h1,h2,h3,h4⟩:=I.ow i l h;have na:=ne a h3;exact⟨a,vs,h1,by rw[cE na];exact h2,by show(if a=x then some o else C.H0 a)=none;rw[a6 na];exact h3,h4.mono P⟩
 ·intro i l h;obtain⟨a,vs,h1,h2,h3,h4⟩:=I.bo i l h;have na:a≠x:=λz=>by subst z;exact hx vs h3
  exact⟨a,vs,h1,h2,by show(if a=x then some o else C.H0 a)=_;rw[a6 na];exact h3,h4.mono P⟩
 ·intro b u h
  by_cases c:b=x
  ·subst c;have h':(if b=b then some o else C.H0 b)=some u:=h;rw[a7 rfl]at h';rw[iT];exact h'
  ·have h':(if b=x then some o else C.H0 b)=some u:=h;rw[a6 c]at h';rw[cE c];exact I.ext b u h'
 ·intro a z;show(if a=x then some o else C.H0 a)≠none;split
  ·simp
  ·exact I.a0 a z
theorem b16 {x Cl dx:Addr}{fs:List (Str×V)}{f:Str}{te:UE}{Q0:B->Ev->Prop}{D:b90}(I:EOk K C ρ σ H)(ax:C.A0 x)(hx:H x=some (.ins Cl dx fs))(h0:ρ[0]? =some (some<|.pu<|.adr x))(cl:Cls K Cl)(na:a25 K Cl f)(hf:fs.length<1000)(h:te ρ Q0)
  (k: ∀b ρ1 w H',Q0 b ρ1->ρ1[0]? =some (some<|.pu<|.adr x)->(∀a o,a≠x->H a=some o->H' a=some o)->H' x=some (.ins Cl dx<|uY f w fs)->(∃C1:C0,C1.A0=C.A0/\EOk K C1 ρ1 σ H')->Rep K C.A0 H' b.d w->(∀d v,Rep K C.A0 H d v->Rep K C.A0 H' d v)->D.nx σ H') :
  cL9 K (aG9 0) (lE K te) f D σ H:=by
 refine⟨C,ρ,Q0,I,h,λb ρ1 w H1 q fz s r=> ?_⟩
 have I1:=(I.frz fz).same s;have h1:ρ1[0]? =some (some<|.pu<|.adr x):=by
  rcases fz.2 0 with z| ⟨l,z,_⟩
  ·rw[z];exact h0
  ·rw[h0]at z;cases z
 obtain⟨v,e1,e2⟩:=I1.pu 0 _ h1;simp only[Rep]at e2;subst e2;have hx1:=s _ _ hx;have nl: ∀vs,C.H0 x≠some (.lst vs):=λvs z=>by
  have:=I.ext x _ z;rw[hx]at this;cases this
 have P:mJ C.A0 H1 C.A0 (upd H1 x<|.ins Cl dx<|uY f w fs):=mJ.upd ax;refine⟨.ref x,e1,x,Cl,dx,fs,rfl,hx1,cl,na,hf,k b ρ1 w _ q h1 (λa o ne e=>by rw[cE ne];exact s a o e) iT ⟨⟨λb=>if b=x then some (.ins Cl dx<|uY f w fs)else C.H0 b,C.A0⟩,rfl,I1.poke (o:= .ins Cl dx (uY f w fs)) ax nl⟩ ?_ λd v r'=> ?_⟩
 ·exact((r.rep λa z=>I.avF fz z).mono<|.sub (.refl _) λa z=> .inl z).mono P
 ·exact(r'.mono<|.same s).mono P
end
section
variable {X:Cx}{E:XK}{st:Stmt}{sts:List Stmt}{t u:USX}{tS:TS}
theorem d65 (h1:bJ4 X E st t)(h2:PSs X sts tS):PSs X (st::sts) (λD=>lSX X.K X.mg E t {D with nx:=tS D}):=wX h1 h2
theorem aY5 (h1:bJ4 X E st t)(h2:PSs X sts (λD=>lSX X.K X.mg E u {D with nx:=tS D})):PSs X (st::sts) (λD=>lSX X.K X.mg E (λEx=>aS (t Ex) (u Ex)) {D with nx:=tS D}):=
 b00 (wX h1 h2) λD σ H ⟨C,ρ,D0,Ex,I,h,k,kx⟩=>⟨C,ρ,{D0 with nx:=u Ex D0},Ex,I,h,⟨λρ' σ' H' q I'=>⟨C,ρ',D0,Ex,I',q,k,kx⟩,k.rt,k.bk,k.ct⟩,kx⟩
def tS3 (K:Frag)(f1 f2 f3:Str)(t1 t2 t3:UE):TS:=tSeq (cL9 K (aG9 0) (lE K t1) f1) (tSeq (cL9 K (aG9 0) (lE K t2) f2)<|cL9 K (aG9 0) (lE K t3) f3)
end
theorem cS3 {P:Program}{w:World}{K:Frag}{mg:Str->Option Value}{base:Heap}{x qual:Str}{st:Stmt}{f Cl:Addr}{fd:FuncData}{N ps:List Str}{k:Nat}{φ:ΦM}{f1 f2 f3:Str}{t1 t2 t3:UE}(F:Fun K x qual st f fd)(S:b6 N ps (aE st))(ok:OkC K Cl [f1,f2,f3])(n1:f1≠f2)(n2:f1≠f3)(n3:f2≠f3)
  (len: ∀ds Q Ex,φ ds Q Ex->ds.length+1=ps.length) (hN:N≠[]) {t:USX}
  (der: ∀(cdv:Value) (A:Around) (outer:List Env) (s:Shared) (H:Hp) (E:XK),hZ k (A.deeper<|envOfC qual (aE st) s.heap.objs.size f cdv)->
   PSs (tV (CXr P w base) P w K mg base N qual (aE st) f cdv A outer s H E) (dQ st) (λD=>lSX K mg E t {D with nx:=tS3 K f1 f2 f3 t1 t2 t3 D}))
  (rd: ∀a ds Q Ex,φ ds Q Ex->t Ex {nx:=λρ=>ρ[0]? =some (some<|.pu<|.adr a)/\t1 ρ λb1 ρ1=>t2 ρ1 λb2 ρ2=>t3 ρ2 λb3 _=>Q [b1.d,b2.d,b3.d],rt:=λ_=>False} (init N (.adr a::ds))) :
  sL P w K mg base (CXr P w base) (k+1) f fd ps (spI K mg Cl [f1,f2,f3] φ):=by
 obtain⟨oc,od,kV,doc,pm,an,cdv,ct,osl,rfl,lk,hcd⟩:=F.ex;refine cM4 lk hcd S (λvs H Q E h=> ?_) λA outer s H vs Q E hr h=> ?_
 ·obtain⟨x,dx,vs',A,ds,Q0,Ex,rfl,_,_,_,_,_,r,h,_⟩:=h;have:=len ds Q0 Ex h;rw[j1,<-r.length];exact this
 ·obtain⟨x,dx,vs',A',ds,Q0,Ex,rfl,hx,hdx,nx,nd,hA,r,h,q,qx⟩:=h;have hA2: ∀a,(A' a\/a=x)->H a≠none:=λa z=>by
   rcases z with z|rfl
   ·exact hA a z
   ·rw[hx];simp
  have r2:bS K (λb=>A' b\/b=x) H (.adr x::ds) (.ref x::vs'):= .cons (by simp only[Rep]) r
  refine⟨_,der cdv A outer s H E hr,⟨H,λb=>A' b\/b=x⟩,init N (.adr x::ds),_,Ex,bI2 hA2 r2,rd x ds Q0 Ex h,⟨λρ σ H' z I=> ?_,λ_ _ _ z=>z.elim,λ_ _ _ z=>z.elim,λ_ _ _ z=>z.elim⟩,λn Cl' es o H' ex hm sm xr=>qx n Cl' es o H' ex hm (λb o _ e=>sm b o e) (xr.mono<|.sub (.refl _) λa z=> .inl z)⟩
  obtain⟨z0,z⟩:=z;have hx':H' x=some (.ins Cl dx []):=I.ext x _ hx;refine b16 (C:=⟨H,λb=>A' b\/b=x⟩) I (.inr rfl) hx' z0 ok.1 (ok.2 f1 ae) ac z ?_
  rintro b1 ρ1 w1 H1 z1 z0 k1 x1 ⟨C1,a1,I1⟩ r1 m1;refine b16 (C:=C1) I1 (by rw[a1];exact .inr rfl) x1 z0 ok.1 (ok.2 f2 ae) (show 1<1000 by decide) z1 ?_
  rintro b2 ρ2 w2 H2 z2 z0 k2 x2 ⟨C2,a2,I2⟩ r2 m2;refine b16 (C:=C2) I2 (by rw[a2,a1];exact .inr rfl) x2 z0 ok.1 (ok.2 f3 ae) (by simp[uY,n1]) z2 ?_
  rintro b3 ρ3 w3 H3 z3 z0 k3 x3 ⟨C3,a3,I3⟩ r3 m3;rw[a1]at m2 r2;rw[a2,a1]at m3 r3;refine q [b1.d,b2.d,b3.d] [w1,w2,w3] H3 z3 (λb o ne e=>k3 b o ne (k2 b o ne<|k1 b o ne<|I.ext b o e)) ?_ rfl (.cons (m3 _ _<|m2 _ _ r1)<|.cons (m3 _ _ r2)<|.cons r3 .nil)
  rw[x3];simp[uY,n1,n2,n3]
noncomputable def bJ8 (s:Stmt):List Stmt:=match s with
 | .ClassDef _ _ _ b _ _ _ _ _ _ _=>b
 | _=>[]
section
variable {P:Program}{w:World}{K:Frag}{mg:Str->Option Value}{base:Heap}
theorem c99 {C fI:Addr}{od an:Option Addr}{osl:Array (Option Value)}{kV doc pm cdv ct:Value}{nm qual:Str}{st:Stmt}{x0 x1 x2 f1 f2:Str}{p1 p2 p3 p4 p5 p6 p7 p8:Pos}
  (l:K.lookup fI=some ⟨.type "function",od,.func<|fnOf nm qual (k7 st) (dQ st) (aE st) .none kV doc pm an cdv ct,osl⟩) (c:codeIn K cdv qual=true) (k:keepIn K (.ref fI)=true)
  (hb:dQ st=[.Assign [.Attribute (.Name x0 p1) f1 p2] (.Name x1 p3) p4,.Assign [.Attribute (.Name x0 p5) f2 p6] (.Name x2 p7) p8]) (S:b6 [x0,x1,x2] [x0,x1,x2] (aE st))
  (l0:(aE st).names.lookup x0=some .local) (l1:(aE st).names.lookup x1=some .local) (l2:(aE st).names.lookup x2=some .local) (d0:(x0==("__debug__":Str))=false) (d1:(x1==("__debug__":Str))=false) (d2:(x2==("__debug__":Str))=false)
  (bd: ∀(kV doc pm:Value) (an:Option Addr) (cdv ct:Value) (us:List Value),us.length=[x0,x1,x2].length->bindArgs (fnOf nm qual (k7 st) (dQ st) (aE st) .none kV doc pm an cdv ct) ⟨us,[]⟩=pure ([x0,x1,x2].zip us))
  {cd:ClassData} (hc:clsIn K C=some cd) (hm:u4 cd.mro=true) (hd:cd.hasDict=true) (sa:findIn K (.ref C) "__setattr__"=some (some<|.builtin "object.__setattr__")) (n1:findIn K (.ref C) f1=some none) (n2:findIn K (.ref C) f2=some none) :
  bS5 K C fI (fnOf nm qual (k7 st) (dQ st) (aE st) .none kV doc pm an cdv ct) f1 f2:=
 ⟨⟨_,od,nm,qual,k7 st,aE st,kV,doc,pm,an,cdv,ct,osl,x0,x1,x2,p1,p2,p3,p4,p5,p6,p7,p8,by rw[hb],l,rfl,c,S,l0,l1,l2,d0,d1,d2,(aQ0 (st:=st) l c k).binds bd⟩,⟨cd,hc,hm,hd⟩,sa,n1,n2⟩
theorem aQ9 {R C:Addr}{bmB:List Value}{newId:String}{cd:ClassData}(h:excIn K C bmB newId=true\/ ∃fI,aB2 K C fI bmB newId=true)(hc:clsIn K C=some cd)(hm:cd.mro.contains (.ref R)=true):aQ8 K R C bmB newId:=⟨h,cd,hc,hm⟩
theorem Fn.mkA {x y qual:Str}{st:Stmt}{f:Addr}{fd:FuncData}{N ps:List Str}{k:Nat}{φ:Φ}(F:Fun K y qual st f fd)(m:mg x=some (.ref f))(b:Binds K fd ps [])(S:b6 N ps (aE st))
  (len: ∀ds Q,φ ds Q->ds.length=ps.length) {t:US}
  (der: ∀(cdv:Value) (A:Around) (outer:List Env) (s:Shared) (H:Hp) (E:XK),hZ k (A.deeper<|envOfC qual (aE st) s.heap.objs.size f cdv)->rN (tV CX0 P w K mg base N qual (aE st) f cdv A outer s H E).nox (dQ st) t)
  (rd: ∀ds Q,φ ds Q->t {nx:=λ_=>Q (.pu .non),rt:=Q} (init N ds)):Fn P w K mg base x ps (k+1) φ:=
 ⟨f,fd,bI3 F S len λcdv A outer s H E hr=>⟨t,der cdv A outer s H E hr,rd⟩,b,F.kp,m⟩
end
end M
end
section
open PySem L2 M
local macro_rules| `(tactic| walk_at "u")=> `(tactic| simp only[uSlT,gSlT,cQ6,c96,b95,D.isN,c30,bJ7,aL7,bJ6,aS,bX,fP,qY,iO,fX,uOp,uC,aD,aA5,aV,bQ6,uV,uIx,gIx,kA,oS,aW,a9,aM,jD,k8,aH0,nX,v4,i4,M.gSub,hG,b92,o8,d35,gI2,sN,kX,isB,B.d,bQ7,uOr,uNot,cM,fQ,bQ9,uSl,mM,lK,gSl,cO4,gMax,gMin,bI0,fM,aL0,g1,g2,d36,b03,uIf,cF3,gSum,aL1,cN7,vB,gQ,v9,jA,aA7,bR3,cP8,uZip,cP7,iJ,d40,sF,a31,d41,bind_some,Option.bind_none,Option.map_some,Option.map_none,Option.join,pA,aD6,aC8,aC9,j1,List.length_nil,fV,nJ,pU,aG1,aD7,eU,iI,reduceCtorEq])
namespace M
def a37:Φ:=λds Q=> ∃c k p:Int,ds=[.int c,.int k,.int p]/\0<=k/\k<4294967296/\0<p/\ ∀r:Int,0<=r->r<p->Q (.pu<|.int r)
def b17:US:=(aS (bX 3<|uOp o8 (uOp hG (uOp i4 (uOp i4 (uOp i4 (aD 0)<|uOp hG (uOp hG (uC<|.int 7)<|aD 1)<|aD 1)<|uOp hG (uC<|.int 13)<|aD 1)<|uC<|.int 5)<|uC<|.int 48271)<|uC<|.int 2147483647)<|aS (bX 3<|uOp o8 (uOp hG (aD 3)<|aD 3)<|uC<|.int 2147483629)<|fP<|uOp o8 (uOp hG (aD 3)<|uC<|.int 39373)<|aD 2)
theorem dL (i:Int){j:Int}(h:0<j):i.fmod j=i%j:=Int.fmod_eq_emod_of_nonneg i (Int.le_of_lt h)
theorem xB (i:Int){j:Int}(h:0<j):i.fdiv j=i/j:=Int.fdiv_eq_ediv_of_nonneg i (Int.le_of_lt h)
theorem cmR {i j:Int}(h1: -18446744073709551616<j)(h2:j<18446744073709551616):c03 i j\/(Sm i/\Sm j):= .inl (.inr ⟨h1,h2⟩)
theorem cmL {i j:Int}(h1: -18446744073709551616<i)(h2:i<18446744073709551616):c03 i j\/(Sm i/\Sm j):= .inl (.inl ⟨h1,h2⟩)
theorem cS4: ∀ds Q,a37 ds Q->b17 {nx:=λ_=>Q (.pu .non),rt:=Q} (init ["c","k","p","f"] ds):=by
 rintro ds Q ⟨c,k,p,rfl,h0,h1,hp,h⟩;unfold b17;show(aS _ _:US) _ [some<|.pu<|.int c,some<|.pu<|.int k,some<|.pu<|.int p,none];walk_at "u";rw[dL _ (by decide:(0:Int)<2147483647),dL _ (by decide:(0:Int)<2147483629),dL _ hp]
 refine⟨cmL ac ac,cmR aa aa,cmL ac ac,cmR ac ac,ac,cmR aa aa,ac,cmR ac ac,aa,?_⟩
 exact h _ (cR _ aa) (cP _ hp)
theorem bQ {ui:UI}{g:UG}{tb:US}{D:UD}{ρ:Ev}(n:Nat)(it:Nat->M.D)(ρ1:Ev)(hui: ∀Q:Nat->(Nat->M.D)->Ev->Prop,Q n it ρ1->ui ρ Q)(Pv:Nat->Ev->Prop)(h0:Pv 0 ρ1)
  (hs: ∀i ρ,i<n->Pv i ρ->g (.pu<|it i) ρ λρ2=>tb {D with nx:=Pv (i+1),ct:=Pv (i+1),bk:=D.nx} ρ2) (hd: ∀ρ,Pv n ρ->D.nx ρ):jL ui g tb D ρ:=hui _ ⟨Pv,h0,hs,hd⟩
theorem bJ9 {ws:List Int}{i:Nat}(h:i<ws.length):atI (ws.map D.int) (0+(i:Int))=some (.int ws[i]):=by
 rw[bN];exact cW (by rw[bJ,aJ h];rfl)
def Below (xs ws:List Int):Prop:=xs.length=ws.length/\ ∀(j:Nat) (x w:Int),xs[j]? =some x->ws[j]? =some w->0<=x/\x<w
theorem cpl {i j:Int}(h1:0<=j)(h2:j<=1000000)(h3:i.natAbs<2^64):d12 i j:=⟨h1,h2,h3⟩
def oE:Φ:=λds Q=> ∃(c:Int) (ws:List Int) (p:Int),ds=[.int c,.lst<|ws.map .int,.int p]/\ws.length<=1000/\0<p/\(∀w∈ws,0<w/\w<18446744073709551616)/\ ∀xs:List Int,Below xs ws->Q (.ow<|xs.map .int)
def b18:US:=(aS (bX 3<|uC<|.int 0)<|aS (iO (fX<|uOp (sN λi j=>decide (j<=i)) (aD 0)<|uOp d35 (uC<|.int 10)<|uC<|.int 18) (bX 3<|uOp M.gSub (aD 0)<|uOp d35 (uC<|.int 10)<|uC<|.int 18) fQ)<|aS (bX 4<|jD aM)<|aS (jL (jA<|a9 (kA<|aV 1) aM) (cM 5)<|iO (fX<|uOp (sN λi j=>decide (j<i)) (aD 3)<|uC<|.int 1) (aS (aH0 4<|uOp o8 (aD 3)<|uIx (aV 1)<|aD 5)<|bX 3<|uOp b92 (aD 3)<|uIx (aV 1)<|aD 5)<|aH0 4<|uOp o8 (aW a37<|a9 (aD 0)<|a9 (aD 5)<|a9 (aD 2) aM)<|uIx (aV 1)<|aD 5)<|qY 4)
theorem b19 {i:Int}(h1: -18446744073709551616<i)(h2:i<18446744073709551616):Sm i:=by
 unfold Sm;have h3:i.natAbs<18446744073709551616:=aa
 exact aX h3 af
theorem b20 {xs ws:List Int}{x:Int}(h: ∀(j:Nat) (x w:Int),xs[j]? =some x->ws[j]? =some w->0<=x/\x<w)(hl:xs.length<ws.length)(h0:0<=x)(h1:x<ws[xs.length]) :
  ∀(j:Nat) (y w:Int),(xs++[x])[j]? =some y->ws[j]? =some w->0<=y/\y<w:=by
 intro j y w e1 e2
 by_cases hj:j<xs.length
 ·rw[xO hj]at e1;exact h j y w e1 e2
 ·rw[sY ad]at e1
  by_cases hj':j=xs.length
  ·subst hj';simp at e1;subst e1;rw[aJ hl]at e2;cases e2;exact⟨h0,h1⟩
  ·have:j-xs.length≠0:=ad
   cases e:j-xs.length with
   | zero=>lia
   | succ n=>rw[e]at e1;simp at e1
theorem cS5: ∀ds Q,oE ds Q->b18 {nx:=λ_=>Q (.pu .non),rt:=Q} (init ["c","w","p","l","f","k"] ds):=by
 rintro ds Q ⟨c,ws,p,rfl,hlen,hp,hw,h⟩;unfold b18;have tail: ∀left:Int,(aS (bX 4<|jD aM) (aS (jL (jA<|a9 (kA<|aV 1) aM) (cM 5)<|iO (fX<|uOp (sN λi j=>decide (j<i)) (aD 3)<|uC<|.int 1) (aS (aH0 4<|uOp o8 (aD 3)<|uIx (aV 1)<|aD 5)<|bX 3<|uOp b92 (aD 3)<|uIx (aV 1)<|aD 5)<|aH0 4<|uOp o8 (aW a37<|a9 (aD 0)<|a9 (aD 5)<|a9 (aD 2) aM)<|uIx (aV 1)<|aD 5)<|qY 4):US)
   {nx:=λ_=>Q (.pu .non),rt:=Q} [some<|.pu<|.int c,some<|.pu<|.lst<|ws.map .int,some<|.pu<|.int p,some<|.pu<|.int left,none,none]:=by
  intro left;rw[aS];walk_at "u";refine⟨ac,?_⟩
  refine bQ ws.length (λi=> .int (0+i)) [some<|.pu<|.int c,some<|.pu<|.lst<|ws.map .int,some<|.pu<|.int p,some<|.pu<|.int left,some<|.ow [],none] ?_
   (λi ρ=> ∃(l:Int) (xs:List Int) (kk:Option B),ρ=[some<|.pu<|.int c,some<|.pu<|.lst<|ws.map .int,some<|.pu<|.int p,some<|.pu<|.int l,some<|.ow<|xs.map .int,kk]/\xs.length=i/\ ∀(j:Nat) (x w:Int),xs[j]? =some x->ws[j]? =some w->0<=x/\x<w)
   ⟨left,[],none,rfl,rfl,λj x w e=>by simp at e⟩ ?_ ?_
  ·intro Q q;simp only[jA];walk_at "u";rw[aC];refine⟨⟨ad,ad⟩,?_⟩
   rw[cZ];exact q
  ·rintro i ρ hi ⟨l,xs,kk,rfl,hl,hb⟩;subst hl;obtain⟨w0,w1⟩:=hw _ (bT hi);walk_at "u";refine⟨ac,?_⟩
   by_cases hc:1<l
   ·rw[a7 hc];simp only[bJ9 hi];rw[dL _ w0,xB _ w0];refine⟨ad,?_,⟨ad,b19 ad w1⟩,_,xs++[l%ws[xs.length]],_,by rw[bM];rfl,ae,b20 hb hi (cR _ ad)<|cP _ w0⟩
    rw[aC];exact aX hi (aL hlen ac)
   ·rw[a6 hc];refine⟨c,(0+(xs.length:Int)),p,rfl,ad,ad,hp,λr r0 r1=> ?_⟩
    simp only[bJ9 hi];rw[dL _ w0];refine⟨ad,?_,l,xs++[r%ws[xs.length]],_,by rw[bM];rfl,ae,b20 hb hi (cR _ ad)<|cP _ w0⟩
    rw[aC];exact aX hi (aL hlen ac)
  ·rintro ρ ⟨l,xs,kk,rfl,hl,hb⟩;walk_at "u";exact h xs ⟨hl,hb⟩
 show(aS _ _:US) _ [some<|.pu<|.int c,some<|.pu<|.lst<|ws.map .int,some<|.pu<|.int p,none,none,none]
 refine(show d12 10 18/\(if decide ((10:Int)^(18:Int).toNat<=c)=true then _ else _)from⟨cpl ac ac ac,?_⟩)
 split
 ·exact⟨cpl ac ac ac,tail _⟩
 ·exact tail _
theorem aL9 {d:D}{l:List D}:atI (d::l) 0=some d:=cW (j:=0) rfl
theorem u5 (k:Nat)(z:Int):(replicate k [D.int z]).flatten=(replicate k z).map .int:=by
 induction k with
 | zero=>rfl
 | succ k ih=>rw[jP,n6,ih,jP];rfl
def aM0:Φ:=λds Q=> ∃(ns:List Int) (k:Int),ds=[.rol<|ns.map .int,.int k]/\ns.length<=63/\0<=k/\k<4294967296/\ ∀r:Int,Q (.pu<|.int r)
def bK0:US:=(aS (iO (fX<|uOp (kX false) (kA<|aV 0)<|uC<|.int 0) (fP<|uOp hG (uC<|.int 7919)<|uOp i4 (aD 1)<|uC<|.int 1) fQ)<|aS (iO (fX<|uOp (sN λi j=>decide (i<j)) (aD 1)<|kA<|aV 0) (fP<|uIx (aV 0)<|aD 1) fQ)<|fP<|uOp i4 (uIx (aV 0)<|uOp o8 (aD 1)<|kA<|aV 0)<|uOp hG (uC<|.int 104729)<|aD 1)
theorem cS6 {ns:List Int}{k:Int}(h0:0<=k)(h1:k<ns.length): ∃z,atI (ns.map D.int) k=some (.int z):=by
 obtain⟨i,rfl⟩: ∃i:Nat,k=(i:Int):=⟨k.toNat,ad⟩
 have hi:i<ns.length:=ad
 exact⟨ns[i],cW (by rw[bJ,aJ hi];rfl)⟩
theorem d66: ∀ds Q,aM0 ds Q->bK0 {nx:=λ_=>Q (.pu .non),rt:=Q} (init ["s","k"] ds):=by
 rintro ds Q ⟨ns,k,rfl,hl,k0,k1,h⟩;unfold bK0;show(aS _ _:US) _ [some<|.pu<|.rol<|ns.map .int,some<|.pu<|.int k];walk_at "u";rw[aC];split
 ·exact⟨cmL ac ac,h _⟩
 ·split
  ·obtain⟨z,hz⟩:=cS6 (ns:=ns) k0 ad
   rw[hz];exact h z
  ·refine⟨ad,?_⟩
   rw[dL _ ad]
   obtain⟨z,hz⟩:=cS6 (ns:=ns) (k:=k%ns.length) (cR _ ad) (cP _ ad)
   rw[hz];exact⟨cmL ac ac,h _⟩
theorem c40:bootBuiltins "abs"=some (.builtin "abs"):=af
theorem bt_max:bootBuiltins "max"=some (.builtin "max"):=af
theorem bt_min:bootBuiltins "min"=some (.builtin "min"):=af
theorem bt_int:bootBuiltins "int"=some (.type "int"):=af
theorem jF:bootBuiltins "tuple"=some (.type "tuple"):=af
theorem bK1:bootBuiltins "list"=some (.type "list"):=af
theorem d67: ∀ds Q,bD1 ds Q->ds.length=1:=by rintro ds Q ⟨i,rfl,_⟩;rfl
theorem qS (t:UE)(D:UD)(ρ:Ev):fP t D ρ=t ρ (λb _=>D.rt b):=rfl
theorem iV (φ:Φ)(t:UA)(ρ:Ev)(Q:B->Ev->Prop):aW φ t ρ Q=t ρ λds ρ1=>φ ds λb=>Q b ρ1:=rfl
theorem iW (t:UE)(u:UA)(ρ:Ev)(Q:List D->Ev->Prop):a9 t u ρ Q=t ρ λx ρ1=>u ρ1 λxs ρ2=>Q (x.d::xs) ρ2:=rfl
theorem aN (t u:US)(D:UD)(ρ:Ev):aS t u D ρ=t {D with nx:=u D} ρ:=rfl
theorem mT (i:Nat)(t:UE)(D:UD)(ρ:Ev):bX i t D ρ=t ρ λb ρ1=>D.nx (ρ1.set i<|some b):=rfl
theorem gL {js:List Nat}{cap:List (Option Nat)}{last t0:Nat}{ui:UI}{te:UE}{ρ:Ev}{Q:B->Ev->Prop}(n:Nat)(it:Nat->D)(ρ1:Ev)(hui: ∀Q:Nat->(Nat->D)->Ev->Prop,Q n it ρ1->ui ρ Q)(hn:n<=1000000)
  (G:Option B->List D->Ev) (x0:Option B) (h0:sF (a31 ρ1 js) cap last=G x0 []) (h1: ∀x l b,(G x l).set t0 (some b)=G (some b) l) (h1': ∀x l,t0< (G x l).length) (h2: ∀x l (Q:List D->Prop),Q l->nX (G x l) last Q) (h3: ∀x l l',(G x l).set last (some<|.ow l')=G x l')
  (f:Nat->D) (hte: ∀i l (Q':B->Ev->Prop),i<n->Q' (.pu<|f i) (G (some<|.pu<|it i) l)->te (G (some<|.pu<|it i) l) Q') (hq:Q (.ow<|(List.range n).map f) (a31 ρ1 js)) :
  gD js cap last ui (cM t0) (λρ Q=>Q true ρ) te ρ Q:=by
 refine hui _ ⟨λi ρ'=> ∃x,ρ'=G x ((List.range i).map f),⟨x0,h0⟩,?_,?_⟩
 ·rintro i ρ' hi ⟨x,rfl⟩;refine⟨h1' _ _,?_⟩;rw[h1];dsimp only;rw[a7 rfl];refine hte i _ _ hi (h2 _ _ _ ⟨?_,some<|.pu<|it i,?_⟩)
  ·rw[aC,nA];exact aX hi (aL hn ac)
  ·rw[h3,aT,bM];rfl
 ·rintro ρ' ⟨x,rfl⟩;exact h2 _ _ _ hq
noncomputable def aP (r:List Int):D:= .tup (r.map .int)
noncomputable def c41 (t:List (List Int)):D:= .tup (t.map aP)
theorem bK2 (l:List D)(i:Nat)(h:i<=l.length):cutD l none (some (i:Int))=l.take i:=by
 unfold cutD;rw[HT.sIx_none,HT.sIx_nat,tH h];simp
theorem xC (l:List D)(i:Nat)(h:i<=l.length):cutD l (some (i:Int)) none=l.drop i:=by
 unfold cutD;rw[HT.sIx_none,HT.sIx_nat,tH h];rw[xS (by rw[nB];exact aB _)]
def zC:Φ:=λds Q=> ∃(t:List (List Int)) (i:Nat),ds=[c41 t,.int (i:Int)]/\i<t.length/\2<=t.length/\t.length<=1000/\(∀r∈t,1<=r.length)/\Q (.pu<|c41<|(t.eraseIdx i).map List.tail)
def zD:US:=(fP<|aW fM<|a9 (gD [] [none,none] 1 (iJ<|uOp i4 (uSl (aV 0) lK<|mM<|aD 1)<|uSl (aV 0) (mM<|uOp i4 (aD 1)<|uC<|.int 1) lK) (cM 0) (λρ Q=>Q true ρ)<|uSl (aV 0) (mM<|uC<|.int 1) lK) aM)
theorem bK3: ∀ds Q,zC ds Q->zD {nx:=λ_=>Q (.pu .non),rt:=Q} (init ["t","i"] ds):=by
 rintro ds Q ⟨t,i,rfl,hi,h2,h1000,hr,h⟩;unfold zD;show(fP _:US) _ [some<|.pu<|c41 t,some<|.pu<|.int (i:Int)];have hl:(t.map aP).length=t.length:=aC _;have e1:cutD (t.map aP) none (some (i:Int))=(t.take i).map aP:=by rw[bK2 _ _ ad,pX]
 have e2:cutD (t.map aP) (some<|(i:Int)+1) none=(t.drop<|i+1).map aP:=by
  have:=xC (t.map aP) (i+1) ad
  rw[tL]
  exact_mod_cast this
 have e3:(t.take i).map aP++(t.drop<|i+1).map aP=(t.eraseIdx i).map aP:=by rw[<-bM,<-List.eraseIdx_eq_take_drop_succ]
 have le:(t.eraseIdx i).length=t.length-1:=xM hi;rw[qS,iV,iW];refine gL (t0:=0) ((t.eraseIdx i).map aP).length (λk=>((t.eraseIdx i).map aP).getD k .non) [some<|.pu<|c41 t,some<|.pu<|.int (i:Int)] ?_ (by rw[aC];lia)
  (λx l=>[x,some<|.ow l]) none rfl (λ_ _ _=>rfl) (λ_ _=>cQ _) (λ_ _ _ q=>q) (λ_ _ _=>rfl) (λk=>aP (((t.eraseIdx i).getD k []).tail)) ?_ ?_
 ·intro Q' q;simp only[iJ,c41];walk_at "u";refine⟨?_,?_,?_,?_⟩
  ·rw[hl,HT.sIx_none,HT.sIx_nat];lia
  ·rw[hl,HT.sIx_none];have:HT.sIx t.length 0 (some<|(i:Int)+1)=min (i+1) t.length:=by exact_mod_cast HT.sIx_nat t.length 0 (i+1)
   rw[this];lia
  ·rw[e1,e2,aC,aC,pR,nB];exact aL (show _<=2000 by lia) ac
  ·rw[e1,e2,e3];exact q
 ·intro k l Q' hk q;rw[aC]at hk;have ek:((t.eraseIdx i).map aP).getD k .non=aP ((t.eraseIdx i).getD k []):=by
   rw[aG,aG,bJ,aJ hk];rfl
  have hm:1<=((t.eraseIdx i).getD k []).length:=by
   rw[aG,aJ hk];exact hr _ (xQ<|bT hk)
  rw[ek]at q⊢;generalize (t.eraseIdx i).getD k []=r at hm q;simp only[aP]at q⊢;walk_at "u";have lr:(r.map D.int).length=r.length:=aC _;have ec:cutD (r.map D.int) (some 1) none=r.tail.map D.int:=by
   have:=xC (r.map D.int) 1 ad
   rw[show((1:Nat):Int)=1 from rfl]at this
   rw[this,<-tL,drop_one]
  refine⟨?_,by rw[ec];exact q⟩
  rw[lr];have:HT.sIx r.length 0 (some 1)=min 1 r.length:=HT.sIx_nat r.length 0 1;rw[this];lia
 ·have em:(List.range ((t.eraseIdx i).map aP).length).map (λk=>aP (((t.eraseIdx i).getD k []).tail))=((t.eraseIdx i).map List.tail).map aP:=by
   rw[aC];apply jT
   ·simp
   ·intro k h1 h2;simp at h1;simp[h1,aG]
  rw[em];exact h
noncomputable def dM:Nat->List (List Int)->Int
 | 0,_=>0
 | n+1,t=>if t.length=1 then(t.getD 0 []).getD 0 0 else((List.range t.length).map λi=>(if i%2=0 then 1 else -1)*(t.getD i []).getD 0 0*dM n ((t.eraseIdx i).map List.tail)).sum
structure Sq (n:Nat)(t:List (List Int)):Prop where
 pos:1<=t.length
 le:t.length<=n
 row: ∀r∈t,r.length=t.length
 small: ∀r∈t,∀x∈r,x.natAbs<2^2000
def gS (n:Nat):Φ:=λds Q=> ∃t:List (List Int),ds=[c41 t]/\Sq n t/\Q (.pu<|.int<|dM n t)
def b21 (gS:Φ):US:=(aS (iO (fX<|uOp (kX false) (kA<|aV 0)<|uC<|.int 1) (fP<|uIx (uV<|uIx (aV 0)<|uC<|.int 0)<|uC<|.int 0) fQ)<|aS (bX 1<|uC<|.int 0)<|aS (bX 2<|uC<|.int 1)<|aS (jL (jA<|a9 (kA<|aV 0) aM) (cM 3)<|aS (bQ9 1 (gI2 λi j Q=>Q (.pu<|.int<|i+j))<|uOp hG (uOp hG (aD 2)<|uIx (uV<|uIx (aV 0)<|aD 3)<|uC<|.int 0)<|aW gS<|a9 (aW zC<|a9 (aD 0)<|a9 (aD 3) aM) aM)<|bX 2<|v4<|aD 2)<|qY 1)
theorem a89 (n:Nat): ∀ds Q,gS n ds Q->ds.length=1:=by rintro ds Q ⟨a,rfl,_⟩;rfl
theorem Sq.less {n:Nat}{t:List (List Int)}{i:Nat}(h:Sq (n+1) t)(h2:t.length≠1)(hi:i<t.length):Sq n ((t.eraseIdx i).map List.tail):=by
 have le:(t.eraseIdx i).length=t.length-1:=xM hi;have hp:=h.pos;have hl:=h.le;refine⟨by rw[aC];lia,by rw[aC];lia,λr hr=> ?_,λr hr x hx=> ?_⟩
 ·obtain⟨r',hr',rfl⟩:=dU.mp hr;rw[aC,List.length_tail,h.row r'<|xQ hr',le]
 ·obtain⟨r',hr',rfl⟩:=dU.mp hr;exact h.small r' (xQ hr') x (List.mem_of_mem_tail hx)
theorem aR0 (f:Nat->Int)(b:Nat): ∀n:Nat,(∀i,i<n->(f i).natAbs<=b)->(((List.range n).map f).sum).natAbs<=n*b
 | 0,_=>ae
 | n+1,h=>by
  rw[aT,bM,yG];have h1:=aR0 f b n λi hi=>h i (kQ hi)
  have h2:=h n (pQ n);have h3:((List.map f [n]).sum)=f n:=ae
  rw[h3,Nat.succ_mul];omega
theorem aR1: ∀(n:Nat) (t:List (List Int)),n<=4->Sq n t->(dM n t).natAbs<=2^(2010*n)
 | 0,t,_,h=>by have:=h.pos;have:=h.le;lia
 | n+1,t,hn,h=>by
  have entry: ∀i,i<t.length->((t.getD i []).getD 0 0).natAbs<=2^2000:=λi hi=>by
   have eg:t.getD i []=t[i]:=by rw[aG,aJ hi];rfl
   rw[eg];have hr:=h.row _ (bT hi);have hp:=h.pos;have h0:0< (t[i]).length:=ad
   rw[aG,aJ h0];exact nM (h.small _ (bT hi) _<|bT h0)
  unfold dM;split
  ·have:=entry 0 (by have:=h.pos;lia)
   exact aL this (pG ac ad)
  ·rename_i h1
   refine aL (aR0 _ (2^2000*2^(2010*n)) _ λi hi=> ?_) ?_
   ·rw[fW,fW];have e1:(if i%2=0 then(1:Int)else -1).natAbs=1:=by split<;>rfl
    rw[e1,one_mul];exact jV (entry i hi) (aR1 n _ ad<|h.less h1 hi)
   ·have hl:=h.le;have e:2^(2010*(n+1))=2^10*(2^2000*2^(2010*n)):=by
     rw[<-kT,<-kT];congr 1;lia
    rw[e];exact xW _ ad
theorem Sm.pow {i:Int}{k:Nat}(h:i.natAbs<=2^k)(hk:k<9000):Sm i:=mY h (aE9 ac hk)
theorem cA0 {t:List (List Int)}{i:Nat}(h:i<t.length):atI (t.map aP) (0+(i:Int))=some (aP<|t.getD i []):=by
 rw[bN];refine cW ?_;rw[bJ,aJ h,aG,aJ h];rfl
theorem a38 {r:List Int}(h:0<r.length):atI (r.map D.int) 0=some (.int<|r.getD 0 0):=by
 refine cW (j:=0) ?_
 rw[bJ,aJ h,aG,aJ h];rfl
theorem aM1 (n:Nat)(hn:n<4): ∀ds Q,gS (n+1) ds Q->b21 (gS n) {nx:=λ_=>Q (.pu .non),rt:=Q} (init ["t","o","s","i"] ds):=by
 rintro ds Q ⟨t,rfl,sq,h⟩;have hp:=sq.pos;have hle:=sq.le;have lt:(t.map aP).length=t.length:=aC _;have lrow: ∀i,i<t.length->0< (t.getD i []).length:=λi hi=>by
  rw[aG,aJ hi];have:=sq.row _ (bT hi);show 0< (t[i]).length
  lia
 unfold b21;show(aS _ _:US) _ [some<|.pu<|.tup<|t.map aP,none,none,none];walk_at "u";rw[lt];split
 ·rename_i h1
  have h1':t.length=1:=ad
  have:=cA0 (t:=t) (i:=0) ad
  rw[show(0:Int)+((0:Nat):Int)=0 from rfl]at this
  rw[this];simp only[aP];rw[a38<|lrow 0 ad]
  unfold dM at h;rw[a7 h1']at h;exact h
 ·rename_i h1
  have h1':t.length≠1:=ad
  unfold dM at h;rw[a6 h1']at h;refine bQ t.length (λi=> .int (0+i)) [some<|.pu<|.tup<|t.map aP,some<|.pu<|.int 0,some<|.pu<|.int 1,none] ?_ (λi ρ=> ∃x,ρ=[some<|.pu<|.tup<|t.map aP,some<|.pu<|.int ((List.range i).map λi=>(if i%2=0 then 1 else -1)*(t.getD i []).getD 0 0*dM n ((t.eraseIdx i).map List.tail)).sum,some<|.pu<|.int<|if i%2=0 then 1 else -1,x]) ?_ ?_ ?_
  ·intro Q' q;simp only[jA];walk_at "u";rw[lt];refine⟨⟨ad,ad⟩,?_⟩
   rw[cZ];exact q
  ·exact⟨none,rfl⟩
  ·rintro i ρ hi ⟨x,rfl⟩;walk_at "u";refine⟨ac,?_⟩
   rw[cA0 hi];simp only[aP];rw[a38<|lrow i hi];have sg:Sm (if i%2=0 then(1:Int)else -1):=by split<;>exact b19 ac ac
   have eg:t.getD i []=t[i]:=by rw[aG,aJ hi];rfl
   have en:((t.getD i []).getD 0 0).natAbs<=2^2000:=by
    have h0:=lrow i hi;rw[eg]at h0⊢;rw[aG,aJ h0];exact nM (sq.small _ (bT hi) _<|bT h0)
   have se:Sm ((t.getD i []).getD 0 0):=Sm.pow en ac
   refine⟨.inr ⟨sg,se⟩,t,i,by rw[bN];rfl,hi,ad,ad,λr hr=>by rw[sq.row r hr];exact hp,?_⟩
   refine⟨_,rfl,sq.less h1' hi,?_⟩
   have sd:Sm (dM n<|(t.eraseIdx i).map List.tail):=Sm.pow (aR1 n _ ad<|sq.less h1' hi) ad
   have sp:Sm ((if i%2=0 then(1:Int)else -1)*(t.getD i []).getD 0 0):=by
    refine Sm.pow (k:=2000) ?_ ac
    rw[fW];have e1:(if i%2=0 then(1:Int)else -1).natAbs=1:=by split<;>rfl
    rw[e1,one_mul];exact en
   walk_at "u"
   refine⟨.inr ⟨sp,sd⟩,some<|.pu<|.int<|0+(i:Int),?_⟩
   have e2: -(if i%2=0 then(1:Int)else -1)=(if(i+1)%2=0 then 1 else -1):=by
    by_cases q:i%2=0
    ·rw[a7 q,a6 ad]
    ·rw[a6 q,a7 ad];rfl
   rw[e2,aT,bM,yG];simp
  ·rintro ρ ⟨x,rfl⟩;walk_at "u";exact h
noncomputable def iK (p:List Int)(k:Nat)(sums:List Int):Int:=
 -(((List.range<|min (k-1)<|p.length-1).map λi=>p.getD (p.length-1-(i+1)) 0*sums.getD (k-(i+1)) 0).sum+(if k<=p.length-1 then(k:Int)*p.getD (p.length-1-k) 0 else 0))
noncomputable def cV (p:List Int):Nat->List Int
 | 0=>[((p.length-1:Nat):Int)]
 | k+1=>cV p k++[iK p (k+1)<|cV p k]
theorem u6 (p:List Int): ∀k,(cV p k).length=k+1
 | 0=>rfl
 | k+1=>by unfold cV;rw[cY,u6 p k];rfl
structure aY6 (p:List Int):Prop where
 lo:3<=p.length
 hi:p.length<=5
 small: ∀x∈p,x.natAbs<=499
theorem gM {l:List Int}{b:Nat}(h: ∀x∈l,x.natAbs<=b)(i:Nat):(l.getD i 0).natAbs<=b:=by
 rw[aG];cases e:l[i]? with
 | none=>exact eO _
 | some x=>exact h x (aE6 e)
theorem zE {p:List Int}(hp:aY6 p): ∀k,k<=6-> ∀x∈cV p k,x.natAbs<=2^(15*k+3)
 | 0,_,x,hx=>by
  have:=hp.hi;have e:x=((p.length-1:Nat):Int):=by simpa[cV]using hx
  rw[e,Int.natAbs_natCast];have:(2:Nat)^(15*0+3)=8:=rfl;omega
 | k+1,hk,x,hx=>by
  have ih:=zE hp k aa
  have ep:(2:Nat)^(15*(k+1)+3)=32768*2^(15*k+3):=by
   rw[show 15*(k+1)+3=15+(15*k+3)by omega,kT]
  have hb:8<=2^(15*k+3):=by
   rw[kT];have:1<=2^(15*k):=Nat.one_le_two_pow;omega
  unfold cV at hx;rcases bC.mp hx with hx|hx
  ·have:=ih x hx;omega
  ·have e:x=iK p (k+1) (cV p k):=by simpa using hx
   rw[e];unfold iK;rw[natAbs_neg];have hl:=hp.hi;have s1:=aR0 (λi=>p.getD (p.length-1-(i+1)) 0*(cV p k).getD (k+1-(i+1)) 0) (499*2^(15*k+3)) (min (k+1-1)<|p.length-1) λi _=>by
    rw[fW];exact jV (gM hp.small _) (gM ih _)
   have s2:(if k+1<=p.length-1 then((k+1:Nat):Int)*p.getD (p.length-1-(k+1)) 0 else 0).natAbs<=4*499:=by
    split
    ·rw[fW,Int.natAbs_natCast];exact jV aa (gM hp.small _)
    ·exact eO _
   have s3:min (k+1-1) (p.length-1)*(499*2^(15*k+3))<=4*(499*2^(15*k+3)):=xW _ aa
   have s4:=yA (((List.range<|min (k+1-1)<|p.length-1).map λi=>p.getD (p.length-1-(i+1)) 0*(cV p k).getD (k+1-(i+1)) 0).sum) (if k+1<=p.length-1 then((k+1:Nat):Int)*p.getD (p.length-1-(k+1)) 0 else 0)
   omega
def u7:Φ:=λds Q=> ∃(p:List Int) (m:Nat),ds=[aP p,.int (m:Int)]/\aY6 p/\1<=m/\m<=7/\Q (.ow<|(cV p<|m-1).map .int)
def u8:US:=(aS (bX 2<|uOp M.gSub (kA<|aV 0)<|uC<|.int 1)<|aS (bX 3<|jD<|a9 (aD 2) aM)<|aS (jL (aA7<|a9 (uC<|.int 1)<|a9 (aD 1) aM) (cM 4)<|aS (bX 5<|aW gSum<|a9 (gD [2,4] [none,some 0,some 2,some 3,some 4,none] 5 (aA7<|a9 (uC<|.int 1)<|a9 (uOp i4 (aW gMin<|a9 (uOp M.gSub (aD 4)<|uC<|.int 1)<|a9 (aD 2) aM)<|uC<|.int 1) aM) (cM 0) (λρ Q=>Q true ρ)<|uOp hG (uIx (aV 1)<|uOp M.gSub (aD 2)<|aD 0)<|uIx (aV 3)<|uOp M.gSub (aD 4)<|aD 0) aM)<|aS (iO (fX<|uOp (sN λi j=>decide (i<=j)) (aD 4)<|aD 2) (bQ9 5 (gI2 λi j Q=>Q (.pu<|.int<|i+j))<|uOp hG (aD 4)<|uIx (aV 0)<|uOp M.gSub (aD 2)<|aD 4) fQ)<|aH0 3<|v4<|aD 5)<|qY 3)
theorem a39 {ns:List Int}{k:Nat}(h:k<ns.length):atI (ns.map D.int) (k:Int)=some (.int<|ns.getD k 0):=by
 refine cW ?_
 rw[bJ,aJ h,aG,aJ h];rfl
theorem b22: ∀ds Q,u7 ds Q->u8 {nx:=λ_=>Q (.pu .non),rt:=Q} (init ["p","m","n","s","k","t"] ds):=by
 rintro ds Q ⟨p,m,rfl,hp,m1,m7,h⟩;have hlo:=hp.lo;have hhi:=hp.hi;have lp:(p.map D.int).length=p.length:=aC _;unfold u8;show(aS _ _:US) _ [some<|.pu<|.tup<|p.map .int,some<|.pu<|.int (m:Int),none,none,none,none];rw[aN,mT];walk_at "u";rw[lp];refine⟨ac,?_⟩
 have en:(p.length:Int)-1=((p.length-1:Nat):Int):=ad
 rw[en];refine bQ (m-1) (λi=> .int (1+i)) [some<|.pu<|.tup<|p.map .int,some<|.pu<|.int (m:Int),some<|.pu<|.int ((p.length-1:Nat):Int),some<|.ow<|(cV p 0).map .int,none,none] ?_
  (λi ρ=> ∃x4 x5,ρ=[some<|.pu<|.tup<|p.map .int,some<|.pu<|.int (m:Int),some<|.pu<|.int ((p.length-1:Nat):Int),some<|.ow<|(cV p i).map .int,x4,x5]) ⟨none,none,rfl⟩ ?_ ?_
 ·intro Q' q;simp only[aA7];walk_at "u";refine⟨ad,?_⟩
  rw[show((m:Int)-1).toNat=m-1 by lia]
  exact q
 ·rintro i ρ hi ⟨x4,x5,rfl⟩;have bn:=zE hp i ad
  refine⟨by show 4<6;decide,?_⟩
  dsimp only[set_cons_succ,set_cons_zero];rw[aN,mT,iV,iW];refine gL (t0:=0) (min i<|p.length-1) (λj=> .int (1+j)) [some<|.pu<|.tup<|p.map .int,some<|.pu<|.int (m:Int),some<|.pu<|.int ((p.length-1:Nat):Int),some<|.ow<|(cV p i).map .int,some<|.pu<|.int<|1+(i:Int),x5] ?_ ad
   (λx l=>[x,some<|.pu<|.tup<|p.map .int,some<|.pu<|.int ((p.length-1:Nat):Int),some<|.bo<|(cV p i).map .int,some<|.pu<|.int<|1+(i:Int),some<|.ow l]) none rfl (λ_ _ _=>rfl) (λ_ _=>cQ _) (λ_ _ _ q=>q) (λ_ _ _=>rfl)
   (λj=> .int (p.getD (p.length-1-(j+1)) 0*(cV p i).getD (i+1-(j+1)) 0)) ?_ ?_
  ·intro Q' q;simp only[aA7];walk_at "u";have e:(if((p.length-1:Nat):Int)<1+(i:Int)-1 then((p.length-1:Nat):Int)else 1+(i:Int)-1)=((min i (p.length-1):Nat):Int):=by split<;>lia
   rw[e];refine⟨ad,?_⟩
   rw[show(((min i (p.length-1):Nat):Int)+1-1).toNat=min i (p.length-1)by lia]
   exact q
  ·intro j l Q' hj q;have hj1:j<i:=ad
   have hj2:j<p.length-1:=ad
   walk_at "u"
   rw[show((p.length-1:Nat):Int)-(1+(j:Int))=((p.length-1-(j+1):Nat):Int)by lia,show 1+(i:Int)-(1+(j:Int))=((i+1-(j+1):Nat):Int)by lia]
   rw[a39 ad,a39 (by rw[u6];lia)]
   exact⟨.inr ⟨Sm.pow (k:=9) (aL (gM hp.small _) ac) ac,Sm.pow (gM bn _) ad⟩,q⟩
  ·have es:((List.range<|min i<|p.length-1).map λj=>D.int (p.getD (p.length-1-(j+1)) 0*(cV p i).getD (i+1-(j+1)) 0))=((List.range<|min i<|p.length-1).map λj=>p.getD (p.length-1-(j+1)) 0*(cV p i).getD (i+1-(j+1)) 0).map D.int:=by
    rw[gU];rfl
   rw[es];generalize hT:((List.range<|min i<|p.length-1).map λj=>p.getD (p.length-1-(j+1)) 0*(cV p i).getD (i+1-(j+1)) 0)=T
   walk_at "u"
   rw[cF2];dsimp only;have last: ∀z:Int,z= -(iK p (i+1)<|cV p i)->(cV p i).map D.int++[D.int<|-z]=(cV p<|i+1).map D.int:=λz hz=>by
    rw[hz]
    conv=>rhs;unfold cV
    rw[bM];simp
   have lz:((cV p i).map D.int).length<sizeLine:=by
    rw[aC,u6];exact aX (show _<100 by lia) ac
   by_cases hk:i+1<=p.length-1
   ·rw[a7 ad]
    rw[show((p.length-1:Nat):Int)-(1+(i:Int))=((p.length-1-(i+1):Nat):Int)by lia,a39 ad]
    have hz1:T.sum+(1+(i:Int))*p.getD (p.length-1-(i+1)) 0= -(iK p (i+1)<|cV p i):=by
     unfold iK;rw[neg_neg,a7 hk,<-hT];rw[show i+1-1=i from rfl,show((i+1:Nat):Int)=1+(i:Int)by lia]
    dsimp only;rw[last _ hz1];exact⟨.inr ⟨b19 ad ad,Sm.pow (k:=9) (aL (gM hp.small _) ac) ac⟩,lz,_,_,rfl⟩
   ·rw[a6 ad]
    have hz1:T.sum= -(iK p (i+1)<|cV p i):=by
     unfold iK;rw[neg_neg,a6 hk,<-hT,gH];rfl
    rw[last _ hz1];exact⟨lz,_,_,rfl⟩
 ·rintro ρ ⟨x4,x5,rfl⟩;walk_at "u";exact h
theorem c42: ∀ds Q,¬gS 0 ds Q:=by
 rintro ds Q ⟨t,rfl,sq,_⟩;have:=sq.pos;have:=sq.le;omega
theorem cS7 (t:UE)(D:UD)(ρ:Ev):aL1 t D ρ=t ρ (λ_ ρ1=>D.nx ρ1):=rfl
structure eE (p:List Int):Prop where
 ok:aY6 p
 one: ∃q,p=q++[1]
noncomputable def bS7 (c:Int):Bool:=decide ((if c<0 then -c else c)<=499)
noncomputable def d68 (p:List Int):Bool:=decide (3<=p.length)&&(decide (p.length<=5)&&(decide (p.getD (p.length-1) 0=1)&&p.all bS7))
theorem aR2: ∀(q:List Int) (x:Int),(q++[x]).getD ((q++[x]).length-1) 0=x:=λq x=>by
 rw[cY,aG,sY ae]
 simp
theorem cS8 (p:List Int):d68 p=true↔eE p:=by
 unfold d68;simp only[dS,fV,dD];constructor
 ·rintro⟨h1,h2,h3,h4⟩;refine⟨⟨h1,h2,λx hx=> ?_⟩,?_⟩
  ·have:=pP (h4 x hx);split at this<;>lia
  ·rcases List.eq_nil_or_concat p with rfl| ⟨q,x,rfl⟩
   ·simp at h1
   ·rw[List.concat_eq_append]at h3⊢;rw[aR2]at h3;exact⟨q,by rw[h3]⟩
 ·intro h;refine⟨h.ok.lo,h.ok.hi,?_,λx hx=>gG ?_⟩
  ·obtain⟨q,rfl⟩:=h.one;exact aR2 q 1
  ·have:=h.ok.small x hx;split<;>lia
theorem cH1 {p:List Int}(h:0<p.length):atI (p.map D.int) (-1)=some (.int<|p.getD (p.length-1) 0):=by
 rcases List.eq_nil_or_concat p with rfl| ⟨q,x,rfl⟩
 ·simp at h
 ·rw[List.concat_eq_append,aR2,bM];exact cM7 _ _
def oF:Φ:=λds Q=> ∃p:List Int,ds=[aP p]/\p.length<=1000/\Q (.pu<|.bl<|d68 p)
def u9:US:=(fP<|aW cF3<|a9 (gD [] [none,none] 1 (iJ<|aD 0) (cM 0) (λρ Q=>Q true ρ)<|uOp (sN λi j=>decide (i<=j)) (aW cO4<|a9 (aD 0) aM)<|uC<|.int 499) aM)
def oG:US:=(aS (iO (uOr (fX<|uOp (sN λi j=>decide (i<j)) (kA<|aV 0)<|uC<|.int 3)<|uOr (fX<|uOp (sN λi j=>decide (j<i)) (kA<|aV 0)<|uC<|.int 5)<|fX<|uOp (kX true) (uIx (aV 0)<|v4<|uC<|.int 1)<|uC<|.int 1) (fP<|uC<|.bl false) fQ) u9)
theorem aM2: ∀ds Q,oF ds Q->oG {nx:=λ_=>Q (.pu .non),rt:=Q} (init ["r"] ds):=by
 rintro ds Q ⟨p,rfl,hn,h⟩;have lp:(p.map D.int).length=p.length:=aC _;unfold oG;simp only[aP];show(aS _ _:US) _ [some<|.pu<|.tup<|p.map .int];rw[aN];walk_at "u";rw[lp];unfold d68 at h
 by_cases h3:(p.length:Int)<3
 ·rw[a7 h3];rw[fF ad]at h
  exact h
 rw[a6 h3];rw[gG<|show 3<=p.length by lia,yK]at h
 by_cases h5:(5:Int)< (p.length:Int)
 ·rw[a7 h5];rw[fF<|show ¬p.length<=5 by lia]at h
  exact h
 rw[a6 h5];rw[gG<|show p.length<=5 by lia,yK]at h
 rw[cH1 ad]
 dsimp only
 by_cases h1:p.getD (p.length-1) 0=1
 ·rw[gG h1,yK]at h;rw[a6 λz=>z h1]
  unfold u9;rw[qS,iV,iW];refine gL (t0:=0) p.length (λk=>(p.map D.int).getD k .non) [some<|.pu<|.tup<|p.map .int] ?_ ad (λx l=>[x,some<|.ow l]) none rfl (λ_ _ _=>rfl) (λ_ _=>cQ _) (λ_ _ _ q=>q) (λ_ _ _=>rfl) (λk=> .bl (bS7<|p.getD k 0)) ?_ ?_
  ·intro Q' q;simp only[iJ];walk_at "u";rw[lp];exact q
  ·intro k l Q' hk q;have ek:(p.map D.int).getD k .non= .int (p.getD k 0):=by
    rw[aG,bJ,aG,aJ hk];rfl
   rw[ek]at q⊢;walk_at "u";exact q
  ·have e:((List.range p.length).map λk=>D.bl (bS7<|p.getD k 0))=(p.map bS7).map D.bl:=by
    rw[gU];refine jT ae λi h1 h2=> ?_
    simp at h1
    simp[h1]
   rw[e];walk_at "u";rw[aH3];show Q (.pu<|.bl<|(p.map bS7).all id);rw[all_map];exact h
 ·rw[fF h1]at h;rw[a7 h1];exact h
def hV:Φ:=λds Q=> ∃p:List Int,ds=[aP p]/\eE p/\Q (.pu .non)
def lZ:US:=(iO (uNot<|fX<|aW oF<|a9 (aD 0) aM) (λ_ _=>False) fQ)
theorem a99: ∀ds Q,hV ds Q->lZ {nx:=λ_=>Q (.pu .non),rt:=Q} (init ["r"] ds):=by
 rintro ds Q ⟨p,rfl,hp,h⟩;have hi:=hp.ok.hi;unfold lZ;show(iO _ _ _:US) _ [some<|.pu<|aP p];walk_at "u";refine⟨p,rfl,ad,?_⟩
 rw[(cS8 p).mpr hp]
 simpa using h
noncomputable def cO (p:List Int):List (List Int):=(List.range<|p.length-1).map λi=>((cV p<|2*(p.length-1)-2).drop i).take (p.length-1)
def zF:Φ:=λds Q=> ∃p:List Int,ds=[aP p]/\eE p/\Q (.pu<|.int<|dM 4<|cO p)
def zG:US:=(aS (aL1<|aW hV<|a9 (aD 0) aM)<|aS (bX 1<|uOp M.gSub (kA<|aV 0)<|uC<|.int 1)<|aS (bX 2<|aW u7<|a9 (aD 0)<|a9 (uOp M.gSub (uOp hG (uC<|.int 2)<|aD 1)<|uC<|.int 1) aM)<|fP<|aW (gS 4)<|a9 (aW fM<|a9 (gD [1] [none,some 2,some 1,none] 3 (jA<|a9 (aD 1) aM) (cM 0) (λρ Q=>Q true ρ)<|aW fM<|a9 (uSl (aV 1) (mM<|aD 0)<|mM<|uOp i4 (aD 0)<|aD 2) aM) aM) aM)
theorem cH2 {p:List Int}(hp:aY6 p):Sq 4 (cO p):=by
 have hlo:=hp.lo;have hhi:=hp.hi;have bn:=zE hp (2*(p.length-1)-2) aa
 have nl:=u6 p (2*(p.length-1)-2);have hl:(cO p).length=p.length-1:=by unfold cO;simp
 refine⟨aa,aa,λr hr=> ?_,λr hr x hx=> ?_⟩
 ·unfold cO at hr;obtain⟨i,hi,rfl⟩:=dU.mp hr;have:=dE.mp hi;rw[hl,pR,nB,nl];omega
 ·unfold cO at hr;obtain⟨i,hi,rfl⟩:=dU.mp hr;refine mY (bn x<|List.mem_of_mem_drop<|List.mem_of_mem_take hx) ?_;exact aE9 ac aa
theorem cA1 (l:List D)(i n:Nat)(h:i+n<=l.length):cutD l (some (i:Int)) (some ((i+n:Nat):Int))=(l.drop i).take n:=by
 unfold cutD;rw[HT.sIx_nat,HT.sIx_nat,tH<|show i<=l.length by lia,tH h]
 congr 1
 lia
theorem bK4: ∀ds Q,zF ds Q->zG {nx:=λ_=>Q (.pu .non),rt:=Q} (init ["p","n","s"] ds):=by
 rintro ds Q ⟨p,rfl,hp,h⟩;have hlo:=hp.ok.lo;have hhi:=hp.ok.hi;have lp:(p.map D.int).length=p.length:=aC _;have en:(p.length:Int)-1=((p.length-1:Nat):Int):=ad
 have nl:=u6 p (2*(p.length-1)-2);have fin:(fP (aW (gS 4)<|a9 (aW fM<|a9 (gD [1] [none,some 2,some 1,none] 3 (jA<|a9 (aD 1) aM) (cM 0) (λρ Q=>Q true ρ)<|aW fM<|a9 (uSl (aV 1) (mM<|aD 0)<|mM<|uOp i4 (aD 0)<|aD 2) aM) aM) aM):US) {nx:=λ_=>Q (.pu .non),rt:=Q}
   [some<|.pu<|.tup<|p.map .int,some<|.pu<|.int ((p.length-1:Nat):Int),some<|.ow<|(cV p<|2*(p.length-1)-2).map .int]:=by
  rw[qS,iV,iW,iV,iW];refine gL (t0:=0) (p.length-1) (λi=> .int (0+i)) [some<|.pu<|.tup<|p.map .int,some<|.pu<|.int ((p.length-1:Nat):Int),some<|.ow<|(cV p<|2*(p.length-1)-2).map .int] ?_ ad
   (λx l=>[x,some<|.bo<|(cV p<|2*(p.length-1)-2).map .int,some<|.pu<|.int ((p.length-1:Nat):Int),some<|.ow l]) none rfl (λ_ _ _=>rfl) (λ_ _=>cQ _) (λ_ _ _ q=>q) (λ_ _ _=>rfl)
   (λi=>aP (((cV p<|2*(p.length-1)-2).drop i).take<|p.length-1)) ?_ ?_
  ·intro Q' q;simp only[jA];walk_at "u";refine⟨ad,?_⟩
   rw[cZ];exact q
  ·intro i l Q' hi q;walk_at "u";have e:cutD ((cV p<|2*(p.length-1)-2).map D.int) (some<|0+(i:Int)) (some<|0+(i:Int)+((p.length-1:Nat):Int))=(((cV p<|2*(p.length-1)-2).drop i).take<|p.length-1).map D.int:=by
    rw[bN,show(i:Int)+((p.length-1:Nat):Int)=((i+(p.length-1):Nat):Int)by lia,cA1 _ _ _ (by rw[aC,nl];lia),pX,tL]
   rw[e];exact q
  ·simp only[fM,g1,B.d,aM,oS];refine⟨cO p,?_,cH2 hp.ok,h⟩;unfold c41 cO;rw[gU];rfl
 unfold zG;show(aS _ _:US) _ [some<|.pu<|.tup<|p.map .int,none,none];rw[aN,cS7,iV,iW];simp only[aD,aA5,aM,B.d,pA];refine⟨p,rfl,hp,?_⟩;rw[aN,mT];simp only[uOp,kA,aV,bQ6,uC,oS,M.gSub,gI2,B.d,pA,lp,aC9,aC8,en];rw[aN,mT,iV];simp only[a9,aM,uOp,aD,aA5,uC,M.gSub,hG,gI2,B.d,pA,aD6];refine⟨cmL ac ac,?_⟩
 refine⟨p,2*(p.length-1)-1,?_,hp.ok,ad,ad,?_⟩
 ·rw[show(2:Int)*((p.length-1:Nat):Int)-1=((2*(p.length-1)-1:Nat):Int)by lia];rfl
 ·rw[show 2*(p.length-1)-1-1=2*(p.length-1)-2 by lia]
  exact fin
noncomputable def one4 (e d c b:Int):Int:=12*e-3*b*d+c*c
noncomputable def two4 (e d c b:Int):Int:=72*c*e+9*b*c*d-27*d*d-27*b*b*e-2*c*c*c
noncomputable def d69:List Int->Int
 | [c0,c1,_]=>c1*c1-4*c0
 | [d,c,b,_]=>b*b*c*c-4*c*c*c-4*b*b*b*d-27*d*d+18*b*c*d
 | [e,d,c,b,_]=>(4*one4 e d c b*one4 e d c b*one4 e d c b-two4 e d c b*two4 e d c b).fdiv 27
 | _=>0
theorem eE.cases {p:List Int}(h:eE p):(∃a b:Int,p=[a,b,1]/\a.natAbs<=499/\b.natAbs<=499)\/(∃a b c:Int,p=[a,b,c,1]/\a.natAbs<=499/\b.natAbs<=499/\c.natAbs<=499)\/
  ∃a b c d:Int,p=[a,b,c,d,1]/\a.natAbs<=499/\b.natAbs<=499/\c.natAbs<=499/\d.natAbs<=499:=by
 obtain⟨q,rfl⟩:=h.one;have lo:=h.ok.lo;have hi:=h.ok.hi;have sm: ∀x∈q,x.natAbs<=499:=λx hx=>h.ok.small x (xV _ hx)
 rw[cY,aE4]at lo hi
 match q,lo,hi,sm with
 | [a,b],_,_,sm=>exact .inl ⟨a,b,rfl,sm a ae,sm b ae⟩
 | [a,b,c],_,_,sm=>exact .inr (.inl ⟨a,b,c,rfl,sm a ae,sm b ae,sm c ae⟩)
 | [a,b,c,d],_,_,sm=>exact .inr (.inr ⟨a,b,c,d,rfl,sm a ae,sm b ae,sm c ae,sm d ae⟩)
 | [],lo,_,_=>simp at lo
 | [_],lo,_,_=>simp at lo
 | _::_::_::_::_::_,_,hi,_=>simp at hi
noncomputable def cH3 (a b c:Int):Int:=1*a*c+(-1*b*b+0)
noncomputable def d70 (s t u v w:Int):Int:=1*s*cH3 u v w+(-1*t*(1*t*w+(-1*v*u+0))+(1*u*(1*t*v+(-1*u*u+0))+0))
theorem hk2 (c b:Int):dM 4 (cO [c,b,1])=cH3 2 (-(0+1*b)) (-((b* -(0+1*b)+0)+2*c)):=by kernel_rfl
theorem id2 (c0 c1:Int):dM 4 (cO [c0,c1,1])=c1*c1-4*c0:=by
 rw[hk2];unfold cH3;grind
noncomputable def bK5 (b:Int):Int:= -(0+1*b)
noncomputable def bK6 (c b:Int):Int:= -((b*bK5 b+0)+2*c)
noncomputable def bS8 (d c b:Int):Int:= -((b*bK6 c b+(c*bK5 b+0))+3*d)
noncomputable def hkNd (d c b:Int):Int:= -((b*bS8 d c b+(c*bK6 c b+(d*bK5 b+0)))+0)
theorem hk3 (d c b:Int):dM 4 (cO [d,c,b,1])=d70 3 (bK5 b) (bK6 c b) (bS8 d c b) (hkNd d c b):=by kernel_rfl
theorem id3 (d c b:Int):dM 4 (cO [d,c,b,1])=b*b*c*c-4*c*c*c-4*b*b*b*d-27*d*d+18*b*c*d:=by
 rw[hk3];unfold d70 cH3 hkNd bS8 bK6 bK5;grind
noncomputable def d71 (e d c b:Int):Int:= -((b*bS8 d c b+(c*bK6 c b+(d*bK5 b+0)))+4*e)
noncomputable def hkMe (e d c b:Int):Int:= -((b*d71 e d c b+(c*bS8 d c b+(d*bK6 c b+(e*bK5 b+0))))+0)
noncomputable def hkMf (e d c b:Int):Int:= -((b*hkMe e d c b+(c*d71 e d c b+(d*bS8 d c b+(e*bK6 c b+0))))+0)
noncomputable def hkD4 (s0 s1 s2 s3 s4 s5 s6:Int):Int:=1*s0*d70 s2 s3 s4 s5 s6+(-1*s1*(1*s1*cH3 s4 s5 s6+(-1*s3*(1*s2*s6+(-1*s5*s3+0))+(1*s4*(1*s2*s5+(-1*s4*s3+0))+0)))+(1*s2*(1*s1*(1*s3*s6+(-1*s5*s4+0))+(-1*s2*(1*s2*s6+(-1*s5*s3+0))+(1*s4*(1*s2*s4+(-1*s3*s3+0))+0)))+(-1*s3*(1*s1*(1*s3*s5+(-1*s4*s4+0))+(-1*s2*(1*s2*s5+(-1*s4*s3+0))+(1*s3*(1*s2*s4+(-1*s3*s3+0))+0)))+0)))
theorem hk4 (e d c b:Int):dM 4 (cO [e,d,c,b,1])=hkD4 4 (bK5 b) (bK6 c b) (bS8 d c b) (d71 e d c b) (hkMe e d c b) (hkMf e d c b):=by kernel_rfl
theorem id4 (e d c b:Int):27*dM 4 (cO [e,d,c,b,1])=4*(12*e-3*b*d+c*c)*(12*e-3*b*d+c*c)*(12*e-3*b*d+c*c)-(72*c*e+9*b*c*d-27*d*d-27*b*b*e-2*c*c*c)*(72*c*e+9*b*c*d-27*d*d-27*b*b*e-2*c*c*c):=by
 rw[hk4];unfold hkD4 d70 cH3 hkMf hkMe d71 bS8 bK6 bK5;grind
noncomputable def rts3 (a b c:Int):List Int:=[-(a*b*c),a*b+a*c+b*c,-a-b-c]
noncomputable def sqIn (rs:List Int)(i:Nat)(t:Int):Nat->Int
 | 0=>t
 | j+1=>sqIn rs i t j*(rs.getD i 0-rs.getD j 0)*(rs.getD i 0-rs.getD j 0)
noncomputable def sqK (rs:List Int):Nat->Int
 | 0=>1
 | i+1=>sqIn rs i (sqK rs i) i
noncomputable def okR (q rs:List Int):Bool:=(q.all λx=>decide (x.natAbs<=499))&&decide (d69 (q++[1])=sqK rs rs.length)
noncomputable def sh3 (a b c s:Int):List Int:=[a+s*b+s*s*c+s*s*s,b+2*s*c+3*s*s,c+3*s]
noncomputable def sh4 (a b c d s:Int):List Int:=[a+s*b+s*s*c+s*s*s*d+s*s*s*s,b+2*s*c+3*s*s*d+4*s*s*s,c+3*s*d+6*s*s,d+4*s]
noncomputable def d72 (row:List Int)(r:Int):Nat->List Int
 | 0=>0::row
 | k+1=>(d72 row r k).set k ((d72 row r k).getD k 0-r*row.getD k 0)
noncomputable def dD9 (rs:List Int):List Int:=rs.foldl (λrow r=>d72 row r row.length) [1]
theorem fr3 (a b c:Int):dD9 [a,b,c]=rts3 a b c++[1]:=by
 simp[dD9,d72,rts3]
 grind
noncomputable def aR3 (row:List Int)(s:Int):Nat->List Int
 | 0=>row
 | k+1=>(aR3 row s k).set (row.length-2-k) ((aR3 row s k).getD (row.length-2-k) 0+s*(aR3 row s k).getD (row.length-1-k) 0)
noncomputable def shK (p:List Int)(s:Int):Nat->List Int
 | 0=>p
 | low+1=>aR3 (shK p s low) s (p.length-1-low)
theorem she3 (a b c s:Int):shK [a,b,c,1] s 3=sh3 a b c s++[1]:=by
 simp[shK,aR3,sh3]
 grind
theorem she4 (a b c d s:Int):shK [a,b,c,d,1] s 4=sh4 a b c d s++[1]:=by
 simp[shK,aR3,sh4]
 grind
theorem c43 {js:List Nat}{cap:List (Option Nat)}{last t0 t1:Nat}{ui:UI}{te:UE}{ρ:Ev}{Q:B->Ev->Prop}(n:Nat)(i1 i2:Nat->D)(ρ1:Ev)(hui: ∀Q:Nat->(Nat->D)->Ev->Prop,Q n (λi=> .tup [i1 i,i2 i]) ρ1->ui ρ Q)(hn:n<=1000000)
  (G:Option B->Option B->List D->Ev) (x0 y0:Option B) (h0:sF (a31 ρ1 js) cap last=G x0 y0 []) (h1: ∀x y l b c,((G x y l).set t0<|some b).set t1 (some c)=G (some b) (some c) l) (h1': ∀x y l,t0< (G x y l).length/\t1< (G x y l).length)
  (h2: ∀x y l (Q:List D->Prop),Q l->nX (G x y l) last Q) (h3: ∀x y l l',(G x y l).set last (some<|.ow l')=G x y l')
  (f:Nat->D) (hte: ∀i l (Q':B->Ev->Prop),i<n->Q' (.pu<|f i) (G (some<|.pu<|i1 i) (some<|.pu<|i2 i) l)->te (G (some<|.pu<|i1 i) (some<|.pu<|i2 i) l) Q') (hq:Q (.ow<|(List.range n).map f) (a31 ρ1 js)) :
  gD js cap last ui (vB<|gQ t0<|gQ t1 v9) (λρ Q=>Q true ρ) te ρ Q:=by
 refine hui _ ⟨λi ρ'=> ∃x y,ρ'=G x y ((List.range i).map f),⟨x0,y0,h0⟩,?_,?_⟩
 ·rintro i ρ' hi ⟨x,y,rfl⟩;refine⟨(h1' _ _ _).1,by rw[fG];exact(h1' _ _ _).2,rfl,?_⟩
  rw[h1];dsimp only;rw[a7 rfl];refine hte i _ _ hi (h2 _ _ _ _ ⟨?_,some<|.pu<|i1 i,some<|.pu<|i2 i,?_⟩)
  ·rw[aC,nA];exact aX hi (aL hn ac)
  ·rw[h3,aT,bM];rfl
 ·rintro ρ' ⟨x,y,rfl⟩;exact h2 _ _ _ _ hq
noncomputable def rwF (n:Nat)(f:Nat->Int):List Int:=(List.range n).map f
theorem a90 (n:Nat)(f:Nat->Int):(rwF n f).length=n:=by simp[rwF]
theorem aY7 {n i:Nat}{f:Nat->Int}(h:i<n):(rwF n f)[i]? =some (f i):=by simp[rwF,h]
theorem eK (n:Nat)(f:Nat->Int):((rwF n f).map D.int).length=n:=by simp[rwF]
theorem r8 {n i:Nat}{f:Nat->Int}(h:i<n):((rwF n f).map D.int)[i]? =some (.int<|f i):=by simp[rwF,h]
theorem aM3 {n i:Nat}{f:Nat->Int}(h:i<n):((rwF n f).map D.int).getD i .non= .int (f i):=by rw[aG,r8 h];rfl
theorem oH {n i:Nat}{f:Nat->Int}(h:i<n):atI ((rwF n f).map D.int) (i:Int)=some (.int<|f i):=cW (r8 h)
theorem aM4 {n j:Nat}{f:Nat->Int}{v:Int}(h:j<n):((rwF n f).map D.int).set j (.int v)=(rwF n λx=>if x=j then v else f x).map D.int:=by
 apply List.ext_getElem?
 intro k
 by_cases hk:k<n
 ·rw[r8 hk]
  by_cases e:j=k
  ·subst e;rw[j8 (by rw[eK];exact hk),a7 rfl]
  ·rw[get_set_ne e,r8 hk,a6 λz=>e z.symm]
 ·rw[mW (by rw[fG,eK];omega),mW (by rw[eK];omega)]
theorem iC {n:Nat}{f g:Nat->Int}(h: ∀i,i<n->f i=g i):rwF n f=rwF n g:=by
 unfold rwF;apply t9;intro i hi;exact h i (dE.mp hi)
theorem c44 (r:List Int):r=rwF r.length (λj=>r.getD j 0):=by
 apply List.ext_getElem?
 intro k
 by_cases hk:k<r.length
 ·rw[aY7 hk,aJ hk,aG,aJ hk];rfl
 ·rw[mW aa,mW (by rw[a90];omega)]
theorem a40 (n:Nat)(f:Nat->Int):(List.range n).map (λk=>D.int (f k))=(rwF n f).map D.int:=by
 unfold rwF;rw[gU];rfl
noncomputable def tbF (n m:Nat)(t:Nat->Nat->Int):List D:=(List.range n).map λi=>aP (rwF m<|t i)
theorem d73 (n m:Nat)(t:Nat->Nat->Int):(tbF n m t).length=n:=by simp[tbF]
theorem d74 {n m i:Nat}{t:Nat->Nat->Int}(h:i<n):(tbF n m t)[i]? =some (aP<|rwF m<|t i):=by simp[tbF,h]
theorem tbF_at {n m i:Nat}{t:Nat->Nat->Int}(h:i<n):atI (tbF n m t) (i:Int)=some (aP<|rwF m<|t i):=cW (d74 h)
theorem bK7 {n i:Nat}(h:i<n):ixN n (i:Int)=some i:=by
 unfold ixN;have h2:(i:Int)< (n:Int):=aa
 simp[h,h2]
theorem c45 (g:D->D->(B->Prop)->Prop)(ta tb:UE)(ρ:Ev)(Q:B->Ev->Prop):uOp g ta tb ρ Q=ta ρ λx ρ1=>tb ρ1 λy ρ2=>g x.d y.d λb=>Q b ρ2:=rfl
theorem cA2 (c:UT)(t u:US)(E:UD)(ρ:Ev):iO c t u E ρ=c ρ λb ρ1=>if b=true then t E ρ1 else u E ρ1:=rfl
theorem bK8 {ρ:Ev}{i:Nat}{d:D}{Q:B->Ev->Prop}(h:ρ[i]? =some (some<|.pu d)):aD i ρ Q=Q (.pu d) ρ:=by unfold aD aA5;rw[h]
theorem d75 {ρ:Ev}{i:Nat}{l:List D}{Q:B->Ev->Prop}(h:ρ[i]? =some (some<|.ow l)):aD i ρ Q=Q (.pu<|.lst l) (ρ.set i<|some<|.pu<|.lst l):=by unfold aD aA5;rw[h]
theorem bS9: ∀r:List Int,pdL (r.map D.int)=some (r.map PyData.int)
 | []=>by simp[pdL]
 | a::r=>by simp[pdL,pd,bS9 r]
theorem cS9 (r:List Int):pd (aP r)=some (.tuple<|r.map .int):=by simp[aP,pd,bS9]
theorem bT0: ∀r:List Int,PyData.depthAll (r.map PyData.int)=0
 | []=>by simp[PyData.depthAll]
 | a::r=>by simp[PyData.depthAll,PyData.depth,bT0 r]
theorem d76 (r:List Int):(PyData.tuple<|r.map .int).depth<=60:=by simp[PyData.depth,bT0]
theorem d77 (a b:List Int):(PyData.tuple<|a.map .int).eqv (.tuple<|b.map .int)=decide (a=b):=by simp only[PyData.eqv];exact PySem.W.ked_eqvAll a b
theorem cT0 {neg:Bool}{a b:List Int}{Q:B->Prop}(h:Q (.pu<|.bl<|neg ^^ decide (a=b))):gEqD neg (aP a) (aP b) Q:=⟨_,_,cS9 a,cS9 b,d76 a,by rw[d77];exact h⟩
noncomputable def gP (f:Nat->Int):Nat->Nat
 | 0=>0
 | n+1=>if f n=0 then gP f n else n+1
theorem zH (f:Nat->Int): ∀n,gP f n<=n
 | 0=>aB _
 | n+1=>by
  unfold gP;split
  ·have:=zH f n;lia
  ·exact aB _
theorem bE6 (f:Nat->Int): ∀n,gP f n=0\/f (gP f n-1)≠0
 | 0=> .inl rfl
 | n+1=>by
  unfold gP;split
  ·exact bE6 f n
  ·rename_i h
   exact .inr (by simpa using h)
theorem bE7 (f:Nat->Int): ∀n m,gP f n<=m->m<n->f m=0
 | n+1,m,h1,h2=>by
  unfold gP at h1;split at h1
  ·rename_i h
   by_cases e:m=n
   ·rw[e];exact h
   ·exact bE7 f n m h1 ad
  ·lia
theorem sO {f:Nat->Int}{k:Nat}: ∀{n:Nat},k<=n->(∀m,k<=m->m<n->f m=0)->(k=0\/f (k-1)≠0)->gP f n=k
 | 0,h,_,_=>by have:k=0:=ad
               rw[this];rfl
 | n+1,h,hz,hl=>by
  unfold gP
  by_cases e:k=n+1
  ·subst e;rw[a6];rcases hl with h0|h0
   ·lia
   ·simpa using h0
  ·rw[a7<|hz n ad ad]
   exact sO ad (λm h1 h2=>hz m h1 ad) hl
theorem b23 {f g:Nat->Int}: ∀{n:Nat},(∀m,m<n->f m=g m)->gP f n=gP g n
 | 0,_=>rfl
 | n+1,h=>by
  unfold gP;rw[h n<|pQ n,b23 λm hm=>h m (kQ hm)]
theorem bT1 (n k:Nat)(f:Nat->Int)(h:k<=n):(rwF n f).take k=rwF k f:=by
 unfold rwF;rw[<-pX,List.take_range,tH h]
def a41:Φ:=λds Q=> ∃(n:Nat) (f:Nat->Int),ds=[aP<|rwF n f]/\n<=1000/\Q (.pu<|aP<|rwF (gP f n) f)
def b24:US:=(aS (bX 1<|kA<|aV 0)<|aS (bH8 (bQ7 (fX<|uOp (sN λi j=>decide (j<i)) (aD 1)<|uC<|.int 0)<|fX<|uOp (kX false) (uIx (aV 0)<|uOp M.gSub (aD 1)<|uC<|.int 1)<|uC<|.int 0)<|bQ9 1 (gI2 λi j Q=>Q (.pu<|.int<|i-j))<|uC<|.int 1)<|fP<|uSlT (aD 0) lK<|mM<|aD 1)
theorem cT1: ∀ds Q,a41 ds Q->b24 {nx:=λ_=>Q (.pu .non),rt:=Q} (init ["r","s"] ds):=by
 rintro ds Q ⟨n,f,rfl,hn,h⟩;unfold b24;simp only[aP];show(aS _ _:US) _ [some<|.pu<|.tup<|(rwF n f).map .int,none];rw[aN];walk_at "u";rw[eK];refine⟨λm ρ=>ρ=[some<|.pu<|.tup<|(rwF n f).map .int,some<|.pu<|.int (m:Int)]/\m<=n/\gP f m=gP f n,⟨n,rfl,aB _,rfl⟩,?_⟩
 rintro m ρ ⟨rfl,hm,hc⟩;walk_at "u";have fin:gP f m=m->Q (.pu<|.tup<|cutD ((rwF n f).map D.int) none<|some (m:Int)):=λe=>by
  rw[bK2 _ _ (by rw[eK];exact hm),<-pX,bT1 _ _ _ hm]
  rw[<-hc,e]at h;exact h
 split
 ·rename_i h0
  obtain⟨m',rfl⟩: ∃m',m=m'+1:=⟨m-1,ad⟩
  rw[show((m'+1:Nat):Int)-1=(m':Int)by lia,oH<|show m'<n by lia]
  dsimp only;split
  ·rename_i h1
   refine⟨m',ad,?_,ad,?_⟩
   ·simp
   ·rw[<-hc];show _=if f m'=0 then gP f m' else m'+1;rw[a7 h1]
  ·rename_i h1
   refine fin ?_
   show(if f m'=0 then gP f m' else m'+1)=m'+1
   rw[a6 h1]
 ·have:m=0:=ad
  subst this;exact fin rfl
noncomputable def shF (b:Nat->Int)(n m:Nat):Int:=if n<=m then b (m-n)else 0
noncomputable def divS (b:Nat->Int)(d n:Nat)(f:Nat->Int):Nat->Int:=λm=>f m-f (n+d)*shF b n m
noncomputable def divL (b:Nat->Int)(d:Nat):Nat->(Nat->Int)->Nat->Int
 | 0,f=>f
 | n+1,f=>divL b d n (divS b d n f)
noncomputable def divQ (b:Nat->Int)(d:Nat):Nat->(Nat->Int)->Nat->Int
 | 0,_=>λ_=>0
 | n+1,f=>λx=>if x=n then f (n+d)else divQ b d n (divS b d n f) x
structure cT2 (L d a e:Nat)(f b:Nat->Int):Prop where
 L9:L<=100
 d9:d<=100
 one:b d=1
 beyond: ∀j,d<j->b j=0
 fb: ∀m,m<L->(f m).natAbs<=2^a
 bb: ∀j,(b j).natAbs<=2^e
 room:a+(e+1)*L<8000
 e8:e<8000
theorem c46 {b f:Nat->Int}{d n a e L:Nat}(hn:n+d<L)(hf: ∀m,m<L->(f m).natAbs<=2^a)(hb: ∀j,(b j).natAbs<=2^e): ∀m,m<L->(divS b d n f m).natAbs<=2^(a+(e+1)):=by
 intro m hm;unfold divS;have h1:=hf m hm;have h2:=hf (n+d) hn;have h3:(shF b n m).natAbs<=2^e:=by
  unfold shF;split
  ·exact hb _
  ·simp
 have h4:(f (n+d)*shF b n m).natAbs<=2^a*2^e:=by rw[fW];exact jV h2 h3
 have h5:=Int.natAbs_sub_le (f m) (f (n+d)*shF b n m);have e1:2^(a+(e+1))=2^a*2^e+2^a*2^e:=by rw[<-kS,yN,kT];lia
 have h6:2^a<=2^a*2^e:=Nat.le_mul_of_pos_right _ (Nat.pow_pos ac)
 lia
theorem bE8 (k:Nat):(replicate k [D.int 0]).flatten=(rwF k λ_=>0).map .int:=by
 rw[u5]
 congr 1
 apply jT<;>simp[rwF]
def gN:Φ:=λds Q=> ∃(L d a e:Nat) (f b:Nat->Int),ds=[aP<|rwF L f,aP<|rwF (d+1) b]/\cT2 L d a e f b/\
 Q (.pu<|.tup [aP<|rwF (gP (divQ b d (L-d) f)<|L-d)<|divQ b d (L-d) f,aP<|rwF (gP (divL b d (L-d) f) L)<|divL b d (L-d) f])
def vD:US:=(fP<|k8<|a9 (aW a41<|a9 (aW fM<|a9 (aD 5) aM) aM)<|a9 (aW a41<|a9 (aW fM<|a9 (aD 4) aM) aM) aM)
def vE:US:=(aS (jL (cP8<|a9 (aD 3) aM) (cM 6)<|aS (bX 7<|uIx (aV 4)<|uOp i4 (aD 6)<|aD 2)<|aS (b03 5 (aD 7)<|aD 6)<|jL (cP7<|a9 (aD 1) aM) (vB<|gQ 8<|gQ 9 v9)<|cP5 4 (λi j=>i-j) (uOp i4 (aD 6)<|aD 8)<|uOp hG (aD 7)<|aD 9) vD)
def qD:US:=(aS (bX 2<|uOp M.gSub (kA<|aV 1)<|uC<|.int 1)<|aS (bX 3<|aW gMax<|a9 (uC<|.int 0)<|a9 (uOp M.gSub (kA<|aV 0)<|aD 2) aM)<|aS (bX 4<|aW aL0<|a9 (aD 0) aM)<|aS (bX 5<|uOp hG (jD<|a9 (uC<|.int 0) aM)<|aD 3) vE)
theorem aR4: ∀ds Q,gN ds Q->qD {nx:=λ_=>Q (.pu .non),rt:=Q} (init ["f","g","d","s","l","q","a","m","j","c"] ds):=by
 rintro ds Q ⟨L,d,a,e,f,b,rfl,ok,h⟩;have L9:=ok.L9;have d9:=ok.d9;have room:=ok.room;unfold qD;simp only[aP]at h⊢;show(aS _ _:US) _ [some<|.pu<|.tup<|(rwF L f).map .int,some<|.pu<|.tup<|(rwF (d+1) b).map .int,none,none,none,none,none,none,none,none];walk_at "u";rw[eK,eK];obtain⟨N,hN⟩: ∃N:Nat,N=L-d:=⟨_,rfl⟩;have e1:((d+1:Nat):Int)-1=(d:Int):=ad
 have e2:(if(L:Int)-(d:Int)>0 then(L:Int)-(d:Int)else 0)=(N:Int):=by split<;>lia
 rw[e1,e2,cZ,bE8];refine⟨ac,⟨ad,ad,aL (show 1*N<=100 by lia) ac⟩,?_⟩
 unfold vE;rw[aN];rw[<-hN]at h;refine bQ N (λk=> .int (((N:Int))-1-k)) [some<|.pu<|.tup<|(rwF L f).map .int,some<|.pu<|.tup<|(rwF (d+1) b).map .int,some<|.pu<|.int (d:Int),some<|.pu<|.int (N:Int),some<|.ow<|(rwF L f).map .int,some<|.ow<|(rwF N λ_=>0).map .int,none,none,none,none] ?_
  (λk ρ=> ∃g q z6 z7 z8 z9,ρ=[some<|.pu<|.tup<|(rwF L f).map .int,some<|.pu<|.tup<|(rwF (d+1) b).map .int,some<|.pu<|.int (d:Int),some<|.pu<|.int (N:Int),some<|.ow<|(rwF L g).map .int,some<|.ow<|(rwF N q).map .int,z6,z7,z8,z9]/\
   divL b d (N-k) g=divL b d N f/\(∀x,x<N->divQ b d N f x=if x<N-k then divQ b d (N-k) g x else q x)/\ ∀m,m<L->(g m).natAbs<=2^(a+(e+1)*k))
  ⟨f,λ_=>0,none,none,none,none,rfl,rfl,λx hx=>by rw[sub_zero,a7 hx],λm hm=>by simpa using ok.fb m hm⟩ ?_ ?_
 ·intro Q' q;walk_at "u";refine⟨⟨ad,ad⟩,?_⟩
  rw[cZ];exact q
 ·rintro k ρ hk ⟨g,q,z6,z7,z8,z9,rfl,hL,hQ,hb⟩;obtain⟨i,hi⟩: ∃i:Nat,i=N-1-k:=⟨_,rfl⟩;have ei:(N:Int)-1-(k:Int)=(i:Int):=ad
  have hiN:i<N:=ad
  have hid:i+d<L:=ad
  rw[ei];have c1:(i:Int)+(d:Int)=((i+d:Nat):Int):=ad
  walk_at "u"
  rw[c1,oH hid];dsimp only;rw[eK,bK7 hiN];dsimp only;rw[aM4 hiN];refine⟨ae,?_⟩
  have smg:Sm (g<|i+d):=Sm.pow (hb _ hid) (by
   have:(e+1)*k<=(e+1)*L:=pJ _ ad
   lia)
  refine bQ (d+1) (λj=> .tup [.int (j:Int),((rwF (d+1) b).map D.int).getD j .non]) [some<|.pu<|.tup<|(rwF L f).map .int,some<|.pu<|.tup<|(rwF (d+1) b).map .int,some<|.pu<|.int (d:Int),some<|.pu<|.int (N:Int),some<|.ow<|(rwF L g).map .int,some<|.ow<|(rwF N λx=>if x=i then g (i+d)else q x).map .int,some<|.pu<|.int (i:Int),some<|.pu<|.int<|g<|i+d,z8,z9] ?_
   (λj ρ=> ∃z8 z9,ρ=[some<|.pu<|.tup<|(rwF L f).map .int,some<|.pu<|.tup<|(rwF (d+1) b).map .int,some<|.pu<|.int (d:Int),some<|.pu<|.int (N:Int),some<|.ow<|(rwF L λm=>if m<i+j then divS b d i g m else g m).map .int,some<|.ow<|(rwF N λx=>if x=i then g (i+d)else q x).map .int,some<|.pu<|.int (i:Int),some<|.pu<|.int<|g<|i+d,z8,z9]) ⟨z8,z9,?_⟩ ?_ ?_
  ·intro Q' qq;walk_at "u";rw[eK];exact qq
  ·have:(rwF L λm=>if m<i+0 then divS b d i g m else g m)=rwF L g:=by
    apply iC
    intro m hm
    by_cases c:m<i+0
    ·rw[a7 c];unfold divS shF;rw[a6 ad]
     lia
    ·rw[a6 c]
   rw[this]
  ·rintro j ρ hj ⟨z8,z9,rfl⟩;rw[aM3 hj];have hij:i+j<L:=ad
   have c2:(i:Int)+(j:Int)=((i+j:Nat):Int):=ad
   simp only[cP5];walk_at "u";rw[c2,eK];refine⟨ae,ae,trivial,_,i+j,g<|i+j,rfl,bK7 hij,by rw[r8 hij,a6 ad],.inr ⟨smg,Sm.pow (ok.bb j) (by have:=ok.e8;lia)⟩,_,rfl,some<|.pu<|.int (j:Int),some<|.pu<|.int<|b j,?_⟩
   rw[aM4 hij];have:(rwF L λx=>if x=i+j then g (i+j)-g (i+d)*b j else if x<i+j then divS b d i g x else g x)=rwF L λm=>if m<i+(j+1)then divS b d i g m else g m:=by
    apply iC
    intro m hm
    by_cases c:m=i+j
    ·subst c;rw[a7 rfl,a7 ad]
     unfold divS shF;rw[a7 ad,show i+j-i=j by lia]
    ·rw[a6 c]
     by_cases c3:m<i+j
     ·rw[a7 c3,a7 ad]
     ·rw[a6 c3,a6 ad]
   rw[this]
  ·rintro ρ ⟨z8,z9,rfl⟩;have eg:(rwF L λm=>if m<i+(d+1)then divS b d i g m else g m)=rwF L (divS b d i g):=by
    apply iC
    intro m hm
    by_cases c:m<i+(d+1)
    ·rw[a7 c]
    ·rw[a6 c];unfold divS shF;rw[a7 ad,ok.beyond _ ad]
     lia
   rw[eg];have en:N-k=i+1:=ad
   have en2:N-(k+1)=i:=ad
   rw[en]at hL hQ;refine⟨_,_,_,_,_,_,rfl,by rw[en2];exact hL,λx hx=> ?_,?_⟩
   ·rw[en2,hQ x hx]
    by_cases c:x<i
    ·rw[a7 c,a7 ad]
     show(if x=i then _ else divQ b d i (divS b d i g) x)=_
     rw[a6 ad]
    ·rw[a6 c]
     by_cases c2:x=i
     ·subst c2;rw[a7 ad,a7 rfl]
      show(if x=x then _ else _)=_
      rw[a7 rfl]
     ·rw[a6 ad,a6 c2]
   ·have:=c46 hid hb ok.bb;rw[show a+(e+1)*(k+1)=a+(e+1)*k+(e+1)by rw[yO];lia]
    exact this
 ·rintro ρ ⟨g,q,z6,z7,z8,z9,rfl,hL,hQ,hb⟩;dsimp only;unfold vD;rw[pZ]at hL hQ;have hg:g=divL b d N f:=hL;have hq: ∀x,x<N->divQ b d N f x=q x:=λx hx=>by rw[hQ x hx,a6 ad]
  walk_at "u"
  refine⟨N,q,rfl,ad,?_⟩
  refine⟨L,g,rfl,ad,?_⟩
  walk_at "u"
  refine⟨ac,?_⟩
  have e3:gP (divQ b d N f) N=gP q N:=b23 λm hm=>hq m hm
  have e4:rwF (gP q N) (divQ b d N f)=rwF (gP q N) q:=iC λm hm=>hq m (by have:=zH q N;lia)
  rw[e3,e4,<-hg]at h;exact h
noncomputable def conv (u b:Nat->Int):Nat->Nat->Int
 | 0,_=>0
 | n+1,m=>conv u b n m+u n*shF b n m
theorem nY {u b:Nat->Int}{d:Nat}(hb: ∀j,d<j->b j=0): ∀(n m:Nat),n+d<=m->conv u b n m=0
 | 0,m,_=>rfl
 | n+1,m,h=>by
  show conv u b n m+u n*shF b n m=0
  rw[nY hb n m ad]
  unfold shF;rw[a7 ad,hb _ ad]
  lia
theorem b25 {u b low:Nat->Int}{d:Nat}(h1:b d=1)(hb: ∀j,d<j->b j=0)(hl: ∀m,d<=m->low m=0): ∀(n:Nat),divL b d n (λm=>conv u b n m+low m)=low/\ ∀x,x<n->divQ b d n (λm=>conv u b n m+low m) x=u x
 | 0=>⟨by funext m;show 0+low m=low m;lia,λx hx=>ad⟩
 | n+1=>by
  have top:conv u b (n+1) (n+d)+low (n+d)=u n:=by
   show conv u b n (n+d)+u n*shF b n (n+d)+low (n+d)=u n
   rw[nY hb n _<|aB _,hl _ ad]
   unfold shF;rw[a7 ad,show n+d-n=d by lia,h1]
   lia
  have st:divS b d n (λm=>conv u b (n+1) m+low m)=λm=>conv u b n m+low m:=by
   funext m
   show(conv u b (n+1) m+low m)-(conv u b (n+1) (n+d)+low (n+d))*shF b n m=_
   rw[top];show conv u b n m+u n*shF b n m+low m-u n*shF b n m=_
   lia
  obtain⟨i1,i2⟩:=b25 (u:=u) h1 hb hl n;refine⟨?_,λx hx=> ?_⟩
  ·show divL b d n (divS b d n _)=low
   rw[st];exact i1
  ·show(if x=n then _ else divQ b d n (divS b d n _) x)=u x
   rw[st]
   by_cases c:x=n
   ·rw[a7 c,c];exact top
   ·rw[a6 c];exact i2 x ad
theorem bT2 {n:Nat}{f:Nat->Int}(h:0<n):atI ((rwF n f).map D.int) (-1)=some (.int<|f<|n-1):=by
 unfold L2.atI;have e:ixN ((rwF n f).map D.int).length (-1)=some (n-1):=by
  unfold ixN;rw[eK,a6 ac,a7 ad]
  congr 1
  lia
 rw[e];exact r8 ad
theorem c47 {f:Nat->Int}{n:Nat}(hf: ∀m,n<=m->f m=0): ∀m,gP f n<=m->f m=0:=λm hm=>by
 by_cases c:m<n
 ·exact bE7 f n m hm c
 ·exact hf m ad
noncomputable def md (p:Int)(f:Nat->Int):Nat->Int:=λj=>f j%p
noncomputable def b26 (c p:Int):Nat->Int
 | 0=>1
 | n+1=>b26 c p n*c%p
theorem b27 {c p:Int}(hp:2<=p): ∀n,0<=b26 c p n/\b26 c p n<p
 | 0=>⟨by show(0:Int)<=1;lia,by show(1:Int)<p;lia⟩
 | n+1=>⟨cR _ ad,cP _ ad⟩
structure Pr (p:Int):Prop where
 lo:2<=p
 hi:p<200
 inv: ∀c:Int,0<c->c<p->b26 c p (p.toNat-2)*c%p=1
def Cg (p:Int)(f g:Nat->Int):Prop:= ∀m,f m%p=g m%p
theorem Cg.divS {p:Int}{b f g:Nat->Int}{d n:Nat}(h:Cg p f g):Cg p (divS b d n f) (divS b d n g):=λm=>by
 show(f m-f (n+d)*shF b n m)%p=(g m-g (n+d)*shF b n m)%p
 have h1:=h m;have h2:f (n+d)*shF b n m%p=g (n+d)*shF b n m%p:=by rw[gI,h<|n+d,<-gI]
 rw[yP,h1,h2,<-yP]
theorem Cg.divL {p:Int}{b:Nat->Int}{d:Nat}: ∀(n:Nat) {f g:Nat->Int},Cg p f g->Cg p (divL b d n f) (divL b d n g)
 | 0,_,_,h=>h
 | n+1,_,_,h=>Cg.divL n h.divS
theorem Cg.divQ {p:Int}{b:Nat->Int}{d:Nat}: ∀(n:Nat) {f g:Nat->Int},Cg p f g->Cg p (divQ b d n f) (divQ b d n g)
 | 0,_,_,h=>λ_=>rfl
 | n+1,f,g,h=>λx=>by
  show(if x=n then f (n+d)else M.divQ b d n (M.divS b d n f) x)%p=(if x=n then g (n+d)else M.divQ b d n (M.divS b d n g) x)%p
  by_cases c:x=n
  ·rw[a7 c,a7 c];exact h _
  ·rw[a6 c,a6 c];exact Cg.divQ n h.divS x
theorem aU5 {b:Nat->Int}{d:Nat}: ∀(n:Nat) (f:Nat->Int) (x:Nat),n<=x->divQ b d n f x=0
 | 0,_,_,_=>rfl
 | n+1,f,x,h=>by
  show(if x=n then f (n+d)else divQ b d n (divS b d n f) x)=0
  rw[a6 ad]
  exact aU5 n _ x ad
theorem aY8 {p:Int}{u u' b b':Nat->Int}(h: ∀i j,u' i*b' j%p=u i*b j%p): ∀n,Cg p (conv u' b' n) (conv u b n)
 | 0,_=>rfl
 | n+1,m=>by
  show(conv u' b' n m+u' n*shF b' n m)%p=(conv u b n m+u n*shF b n m)%p
  have h1:=aY8 h n m;have h2:u' n*shF b' n m%p=u n*shF b n m%p:=by
   unfold shF
   by_cases c:n<=m
   ·rw[a7 c,a7 c];exact h _ _
   ·rw[a6 c,a6 c,bD,bD]
  rw[iF,h1,h2,<-iF]
theorem bT3 {u b:Nat->Int}{d U:Nat}(hb: ∀j,d<j->b j=0):conv u b (U+1) (U+d)=u U*b d:=by
 show conv u b U (U+d)+u U*shF b U (U+d)=_
 rw[nY hb U _<|aB _];unfold shF;rw[a7 ad,show U+d-U=d by lia]
 lia
theorem cT3 {p t:Int}{B0 u low A:Nat->Int}{d U n:Nat}(hp:2<=p)(hB: ∀j,d<j->B0 j=0)(hU:U=0\/u (U-1)≠0)(uR: ∀j,0<=u j/\u j<p)(uz: ∀j,U<=j->u j=0)(lz: ∀j,d<=j->low j=0)(lR: ∀j,0<=low j/\low j<p)
  (ht:t*B0 d%p=1) (hA: ∀m,A m=(conv u B0 U m+low m)%p) (hn:U+d<=n) :
  let b:=λj=>t*B0 j%p
  let LA:=gP A n
  LA<=U+d/\(∀j,t*divQ b d (LA-d) A j%p=u j)/\(∀j,divL b d (LA-d) A j%p=low j)/\(∀m,LA<=m->divL b d (LA-d) A m%p=0):=by
 intro b LA;have b1:b d=1:=ht;have bz: ∀j,d<j->b j=0:=λj hj=>by
  show t*B0 j%p=0
  rw[hB j hj,bD,cJ]
 have tc: ∀x:Int,t*(B0 d*x)%p=x%p:=λx=>by
  rw[<-jW,gI,ht,iH,j5]
 have cg:Cg p A (λm=>conv (λi=>B0 d*u i) b U m+low m):=λm=>by
  rw[hA m,j5];have:=aY8 (p:=p) (u:=u) (b:=B0) (u':=λi=>B0 d*u i) (b':=b) (λi j=>by
   show B0 d*u i*(t*B0 j%p)%p=u i*B0 j%p
   rw[gI,j5,<-gI];have e:B0 d*u i*(t*B0 j)=t*(B0 d*(u i*B0 j)):=by
    simp only[qA,Int.mul_left_comm,jW]
   rw[e,tc]) U m
  show(conv u B0 U m+low m)%p=(conv (λi=>B0 d*u i) b U m+low m)%p
  rw[iF,<-this,<-iF]
 obtain⟨e1,e2⟩:=b25 (u:=λi=>B0 d*u i) (low:=low) b1 bz lz U
 have Az: ∀m,U+d<=m->A m=0:=λm hm=>by
  rw[hA m,nY hB U m hm,lz m ad]
  exact cJ _
 have hL:(U=0/\LA<=d)\/(0<U/\LA=U+d):=by
  have hle:LA<=U+d:=by
   rcases bE6 A n with h|h
   ·show gP A n<=U+d
    lia
   ·exact xP λq=>h (Az _ (by show U+d<=LA-1;lia))
  by_cases c:U=0
  ·exact .inl ⟨c,ad⟩
  ·refine .inr ⟨ad,?_⟩
   refine sO hn (λm m1 m2=>Az m m1) (.inr λq=> ?_)
   obtain⟨U',rfl⟩: ∃U',U=U'+1:=⟨U-1,ad⟩
   rw[show U'+1+d-1=U'+d by lia,hA,bT3 hB,lz _ ad,gH]at q
   have h1:=tc (u U');rw[gI,show B0 d*u U'=u U'*B0 d from qA _ _,q,bD,cJ,dO (uR _).1 (uR _).2]at h1
   rcases hU with h|h
   ·lia
   ·exact h (by simpa using h1.symm)
 have hN:LA-d=U:=ad
 have r: ∀j,divL b d U A j%p=low j:=λj=>by
  rw[Cg.divL U cg j,e1,dO (lR j).1 (lR j).2]
 refine⟨ad,λj=> ?_,λj=>by rw[hN];exact r j,λm hm=> ?_⟩
 ·rw[hN]
  by_cases c:j<U
  ·have h1:=Cg.divQ (b:=b) (d:=d) U cg j;rw[e2 j c]at h1;rw[gI,h1,<-gI];show t*(B0 d*u j)%p=u j;rw[tc,dO (uR _).1 (uR _).2]
  ·rw[aU5 U A j ad,uz j ad,bD,cJ]
 ·rw[hN];rcases hL with⟨h1,h2⟩| ⟨h1,h2⟩
  ·subst h1;show A m%p=0;rw[c47 (λm hm=>Az m ad) m hm]
   exact cJ _
  ·rw[r m];exact lz m ad
def j9:Φ:=λds Q=> ∃(n:Nat) (f:Nat->Int) (p:Int),ds=[aP<|rwF n f,.int p]/\n<=1000/\0<p/\Q (.pu<|aP<|rwF (gP (md p f) n)<|md p f)
def vX:US:=(fP<|aW a41<|a9 (aW fM<|a9 (gD [1] [none,some 1,none] 2 (iJ<|aD 0) (cM 0) (λρ Q=>Q true ρ)<|uOp o8 (aD 0)<|aD 1) aM) aM)
theorem d78 (Q:B->Ev->Prop)(n:Nat)(f:Nat->Int)(p:Int)(hn:n<=1000)(hp:0<p)(k:Nat->D)(a24:Ev)(x0:D)(hx:x0=aP (rwF n f)\/x0= .lst ((rwF n f).map .int))(h:Q (.ow<|(rwF n<|md p f).map .int) (some (.pu x0)::some (.pu<|.int p)::a24)) :
  (gD [1] [none,some 1,none] 2 (iJ<|aD 0) (cM 0) (λρ Q=>Q true ρ) (uOp o8 (aD 0)<|aD 1):UE) (some (.pu x0)::some (.pu<|.int p)::a24) Q:=by
 refine gL (t0:=0) n (λk=>((rwF n f).map D.int).getD k .non) (some (.pu x0)::some (.pu<|.int p)::a24) ?_ ad (λx l=>[x,some<|.pu<|.int p,some<|.ow l]) none rfl (λ_ _ _=>rfl) (λ_ _=>cQ _) (λ_ _ _ q=>q) (λ_ _ _=>rfl) (λk=> .int (md p f k)) ?_ ?_
 ·intro Q' q;rcases hx with rfl|rfl
  ·simp only[aP]at q⊢;walk_at "u";rw[eK];exact q
  ·walk_at "u"
   rw[eK];exact q
 ·intro k l Q' hk q;rw[aM3 hk]at q⊢;walk_at "u";refine⟨ad,?_⟩
  rw[dL _ hp];exact q
 ·rw[a40];exact h
theorem b97: ∀ds Q,j9 ds Q->vX {nx:=λ_=>Q (.pu .non),rt:=Q} (init ["r","p"] ds):=by
 rintro ds Q ⟨n,f,p,rfl,hn,hp,h⟩;unfold vX;show(fP _:US) _ [some<|.pu<|aP<|rwF n f,some<|.pu<|.int p];rw[qS,iV,iW,iV,iW];refine d78 _ n f p hn hp (λ_=> .non) [] _ (.inl rfl) ?_
 walk_at "u"
 exact⟨n,md p f,rfl,hn,h⟩
theorem c48 (u b:Nat->Int)(i N:Nat):(rwF N λm=>if m<i+0 then conv u b (i+1) m else conv u b i m)=rwF N (conv u b i):=by
 apply iC
 intro m hm
 by_cases c:m<i+0
 ·rw[a7 c];show conv u b i m+u i*shF b i m=_;unfold shF;rw[a6 ad]
  lia
 ·rw[a6 c]
theorem c49 {u b:Nat->Int}{i V N:Nat}(hz: ∀j,V<=j->b j=0):(rwF N λm=>if m<i+V then conv u b (i+1) m else conv u b i m)=rwF N (conv u b (i+1)):=by
 apply iC
 intro m hm
 by_cases c:m<i+V
 ·rw[a7 c]
 ·rw[a6 c];show _=conv u b i m+u i*shF b i m;unfold shF;rw[a7 ad,hz _ ad]
  lia
theorem c50 (u b:Nat->Int)(i j N:Nat):(rwF N λx=>if x=i+j then conv u b i (i+j)+u i*b j else if x<i+j then conv u b (i+1) x else conv u b i x)=rwF N λm=>if m<i+(j+1)then conv u b (i+1) m else conv u b i m:=by
 apply iC
 intro m hm
 by_cases c:m=i+j
 ·subst c;rw[a7 rfl,a7 ad]
  show _=conv u b i (i+j)+u i*shF b i (i+j)
  unfold shF;rw[a7 ad,show i+j-i=j by lia]
 ·rw[a6 c]
  by_cases c3:m<i+j
  ·rw[a7 c3,a7 ad]
  ·rw[a6 c3,a6 ad]
theorem aM5 {u b:Nat->Int}{U:Nat}: ∀n,(∀j,U<=j->j<n->u j=0)->U<=n-> ∀m,conv u b n m=conv u b U m
 | 0,h,h2,m=>by rw[show U=0 by lia]
 | n+1,h,h2,m=>by
  by_cases c:U=n+1
  ·rw[c]
  ·show conv u b n m+u n*shF b n m=_
   rw[h n ad ad,aM5 n (λj a c=>h j a ad) ad m]
   lia
theorem md_nat {p:Int}(h1:2<=p)(h2:p<200)(f:Nat->Int)(j:Nat):(md p f j).natAbs<=2^8:=by
 unfold md;have a1:=cR (f j) (show p≠0 by lia)
 have a2:=cP (f j) (show 0<p by lia)
 show _<=256
 lia
def vF:Φ:=λds Q=> ∃(n:Nat) (f:Nat->Int) (k p:Int),ds=[aP<|rwF n f,.int k,.int p]/\n<=1000/\0<=k/\k<200/\0<p/\Q (.pu<|aP<|rwF (gP (λj=>k*f j%p) n) λj=>k*f j%p)
def a42:US:=(fP<|aW j9<|a9 (aW fM<|a9 (gD [1] [none,some 1,none] 2 (iJ<|aD 0) (cM 0) (λρ Q=>Q true ρ)<|uOp hG (aD 1)<|aD 0) aM)<|a9 (aD 2) aM)
theorem bT4: ∀ds Q,vF ds Q->a42 {nx:=λ_=>Q (.pu .non),rt:=Q} (init ["f","k","p"] ds):=by
 rintro ds Q ⟨n,f,k,p,rfl,hn,k0,k9,hp,h⟩;unfold a42;show(fP _:US) _ [some<|.pu<|aP<|rwF n f,some<|.pu<|.int k,some<|.pu<|.int p];rw[qS,iV,iW,iV,iW]
 refine gL (t0:=0) n (λi=>((rwF n f).map D.int).getD i .non) [some<|.pu<|aP<|rwF n f,some<|.pu<|.int k,some<|.pu<|.int p] ?_ ad (λx l=>[x,some<|.pu<|.int k,some<|.ow l]) none rfl (λ_ _ _=>rfl) (λ_ _=>cQ _) (λ_ _ _ q=>q) (λ_ _ _=>rfl) (λi=> .int (k*f i)) ?_ ?_
 ·intro Q' q;simp only[aP]at q⊢;walk_at "u";rw[eK];exact q
 ·intro i l Q' hk q;rw[aM3 hk]at q⊢;walk_at "u";exact⟨cmL ad ad,q⟩
 ·rw[a40];walk_at "u";exact⟨n,λi=>k*f i,p,rfl,hn,hp,h⟩
def rO:Φ:=λds Q=> ∃c p:Int,ds=[.int c,.int p]/\0<=c/\c<p/\2<=p/\p<200/\Q (.pu<|.int<|b26 c p<|p.toNat-2)
def rP:US:=(aS (bX 2<|uC<|.int 1)<|aS (jL (jA<|a9 (uOp M.gSub (aD 1)<|uC<|.int 2) aM) (cM 3)<|bX 2<|uOp o8 (uOp hG (aD 2)<|aD 0)<|aD 1)<|qY 2)
theorem aW5: ∀ds Q,rO ds Q->rP {nx:=λ_=>Q (.pu .non),rt:=Q} (init ["c","p","v","s"] ds):=by
 rintro ds Q ⟨c,p,rfl,c0,c1,p2,p9,h⟩;unfold rP;show(aS _ _:US) _ [some<|.pu<|.int c,some<|.pu<|.int p,none,none];walk_at "u";refine bQ (p.toNat-2) (λk=> .int (0+k)) [some<|.pu<|.int c,some<|.pu<|.int p,some<|.pu<|.int 1,none] ?_
  (λk ρ=> ∃z,ρ=[some<|.pu<|.int c,some<|.pu<|.int p,some<|.pu<|.int<|b26 c p k,z]) ⟨none,rfl⟩ ?_ ?_
 ·intro Q' q;walk_at "u";refine⟨⟨ad,ad⟩,?_⟩
  rw[show(p-2).toNat=p.toNat-2 by lia]
  exact q
 ·rintro k ρ hk ⟨z,rfl⟩;have:=b27 (c:=c) p2 k;walk_at "u";refine⟨ae,cmL ad ad,ad,some<|.pu<|.int<|0+(k:Int),?_⟩
  rw[dL _ ad]
  rfl
 ·rintro ρ ⟨z,rfl⟩;walk_at "u";exact h
def rQ:Φ:=λds Q=> ∃(n k d:Nat) (f g:Nat->Int) (p:Int),ds=[aP<|rwF n f,aP<|rwF k g,.int p]/\n<=50/\k<=50/\Pr p/\(∀j,k<=j->g j=0)/\d<k/\(∀j,d<j->md p g j=0)/\md p g d≠0/\
 ∀t,t*md p g d%p=1->0<=t->t<p->
  let b:=λj=>t*md p g j%p
  let LA:=gP (md p f) n
  let q:=divQ b d (LA-d) (md p f)
  let r:=divL b d (LA-d) (md p f)
  Q (.pu<|.tup [aP<|rwF (gP (λj=>t*q j%p)<|gP q<|LA-d) λj=>t*q j%p,aP<|rwF (gP (md p r)<|gP r LA)<|md p r])
def xD:US:=(fP<|k8<|a9 (aW vF<|a9 (aD 5)<|a9 (aD 4)<|a9 (aD 2) aM)<|a9 (aW j9<|a9 (aD 6)<|a9 (aD 2) aM) aM)
def qE:US:=(aS (cN7 (aW gN<|a9 (aW j9<|a9 (aD 0)<|a9 (aD 2) aM)<|a9 (aW vF<|a9 (aD 3)<|a9 (aD 4)<|a9 (aD 2) aM) aM)<|vB<|gQ 5<|gQ 6 v9) xD)
def rR:US:=(aS (bX 3<|aW j9<|a9 (aD 1)<|a9 (aD 2) aM)<|aS (bX 4<|aW rO<|a9 (uIx (aV 3)<|v4<|uC<|.int 1)<|a9 (aD 2) aM) qE)
theorem aW6: ∀ds Q,rQ ds Q->rR {nx:=λ_=>Q (.pu .non),rt:=Q} (init ["a","b","p","l","t","q","r"] ds):=by
 rintro ds Q ⟨n,k,d,f,g,p,rfl,hn,hk,pp,gz,dk,dz,d0,h⟩;have p2:=pp.lo;have p9:=pp.hi;unfold rR;show(aS _ _:US) _ [some<|.pu<|aP<|rwF n f,some<|.pu<|aP<|rwF k g,some<|.pu<|.int p,none,none,none,none];have ed:gP (md p g) k=d+1:=sO ad (λm m1 m2=>dz m ad) (.inr<|by simpa using d0)
 have c1:=cR (g d) (show p≠0 by lia)
 have c2:=cP (g d) (show 0<p by lia)
 have c3:0<md p g d:=by
  have:md p g d=g d%p:=rfl
  lia
 have tR:=b27 (c:=md p g d) p2 (p.toNat-2);have ht:=pp.inv _ c3 c2;generalize et:b26 (md p g d) p (p.toNat-2)=t at tR ht;have bA: ∀j,0<=t*md p g j%p/\t*md p g j%p<p:=λj=>⟨cR _ ad,cP _ ad⟩
 have hc:gP (λj=>t*md p g j%p) (d+1)=d+1:=sO (aB _) (λm a b=>ad) (.inr (by
  show t*md p g d%p≠0
  rw[ht];decide))
 have LA9:=zH (md p f) n;have low:aP (rwF (gP (md p g) k)<|md p g)= .tup ((rwF (d+1)<|md p g).map .int):=by rw[ed];rfl
 walk_at "u"
 refine⟨k,g,p,rfl,ad,ad,?_⟩
 rw[low];walk_at "u";rw[bT2 ad]
 walk_at "u"
 refine⟨md p g d,p,rfl,ad,c2,p2,p9,?_⟩
 rw[et];show qE _ [some<|.pu<|aP<|rwF n f,some<|.pu<|aP<|rwF k g,some<|.pu<|.int p,some<|.pu<|aP<|rwF (d+1)<|md p g,some<|.pu<|.int t,none,none];unfold qE;walk_at "u";refine⟨n,f,p,rfl,ad,ad,?_⟩
 refine⟨d+1,md p g,t,p,rfl,ad,ad,ad,ad,?_⟩
 rw[hc];refine⟨gP (md p f) n,d,8,8,md p f,λj=>t*md p g j%p,rfl,⟨ad,ad,ht,λj hj=>by
  show t*md p g j%p=0
  rw[dz j hj,bD,cJ],λm _=>md_nat p2 p9 f m,λj=>by
   have:=bA j;show(t*md p g j%p).natAbs<=256
   lia,ad,ac⟩,?_⟩
 have hh:=h t ht tR.1 tR.2;have q9:=zH (divQ (λj=>t*md p g j%p) d (gP (md p f) n-d)<|md p f) (gP (md p f) n-d)
 have r9:=zH (divL (λj=>t*md p g j%p) d (gP (md p f) n-d)<|md p f) (gP (md p f) n)
 simp only[]at hh;walk_at "u";refine⟨ae,ae,trivial,?_⟩
 unfold xD;walk_at "u";refine⟨_,_,t,p,rfl,ad,ad,ad,ad,?_⟩
 refine⟨_,_,p,rfl,ad,ad,?_⟩
 walk_at "u"
 exact⟨ac,hh⟩
noncomputable def prB (i k:Nat):Bool:=if(2:Int)+(i:Int)=2+(k:Int)then true else !decide (((2:Int)+(i:Int))%(2+(k:Int))=0)
noncomputable def prC (i:Nat):Bool:=((List.range 13).map<|prB i).all id
noncomputable def prL:List Int:=((List.range 198).filter prC).map λi:Nat=>(2:Int)+(i:Int)
theorem bT5 {c p:Nat}(hp:2<=p): ∀n,b26 (c:Int) (p:Int) n=((c^n%p:Nat):Int)
 | 0=>by
  show(1:Int)=_
  rw[Nat.pow_zero,Nat.mod_eq_of_lt ad]
  rfl
 | n+1=>by
  show b26 (c:Int) (p:Int) n*(c:Int)%(p:Int)=_
  rw[bT5 hp n,<-aG8,<-Int.natCast_emod,yN,Nat.mod_mul_mod]
theorem pr_all:prL.all (λp=>decide (2<=p)&&decide (p<200)&&(List.range p.toNat).all λc=>decide (c=0)||decide (c^(p.toNat-2)%p.toNat*c%p.toNat=1))=true:=af
theorem pr_len:prL.length=46:=af
theorem a43 {p:Int}(h:p∈prL):Pr p:=by
 have h1:=dD.mp pr_all p h;simp only[dS,fV,dD,dE,yH]at h1;obtain⟨⟨a,b⟩,c⟩:=h1;refine⟨a,b,λx x0 x1=> ?_⟩
 obtain⟨q,rfl⟩: ∃q:Nat,p=(q:Int):=⟨p.toNat,ad⟩
 obtain⟨y,rfl⟩: ∃y:Nat,x=(y:Int):=⟨x.toNat,ad⟩
 have h2:=c y ad
 rw[cZ]at h2⊢;rw[bT5 ad,<-aG8,<-Int.natCast_emod]
 rcases h2 with h2|h2
 ·lia
 ·rw[h2];rfl
noncomputable def T_SMALL_PRIMES:List Int:=[2,3,5,7,11,13,17,19,23,29,31,37,41,43,47,53,59,61,67,71,73,79,83,89,97,101,103,107,109,113,127,131,137,139,149,151,157,163,167,173,179,181,191,193,197,199]
theorem tp_ok: ∀p∈T_SMALL_PRIMES,2<=p/\p<200:=af
theorem cT4:T_SMALL_PRIMES.Pairwise (λa b=>a<b):=af
theorem b28:T_SMALL_PRIMES.length=46:=rfl
def kM:Φ:=λds Q=>ds=[]/\Q (.ow<|T_SMALL_PRIMES.map .int)
def oJ:US:=(fP<|aW aL0<|a9 (uC<|.tup<|T_SMALL_PRIMES.map .int) aM)
theorem aM6: ∀ds Q,kM ds Q->oJ {nx:=λ_=>Q (.pu .non),rt:=Q} (init [] ds):=by
 rintro ds Q ⟨rfl,h⟩;unfold oJ;show(fP _:US) _ [];walk_at "u";exact h
theorem bK9:prL=T_SMALL_PRIMES:=af
noncomputable def ps (f:Nat->Int)(z:Int):Nat->Int
 | 0=>0
 | n+1=>ps f z n+f n*z^n
noncomputable def hor (f:Nat->Int)(n:Nat)(z:Int):Nat->Int
 | 0=>0
 | k+1=>hor f n z k*z+f (n-1-k)
theorem cT5 (f:Nat->Int)(n:Nat)(z:Int): ∀k,k<=n->hor f n z k*z^(n-k)+ps f z (n-k)=ps f z n
 | 0,_=>by show(0:Int)*_+_=_;rw[cT,bN];rfl
 | k+1,h=>by
  have ih:=cT5 f n z k ad
  obtain⟨m,hm⟩: ∃m,n-k=m+1:=⟨n-k-1,ad⟩
  have e1:n-(k+1)=m:=ad
  have e2:n-1-k=m:=ad
  rw[hm]at ih;show(hor f n z k*z+f (n-1-k))*z^(n-(k+1))+ps f z (n-(k+1))=_;rw[e1,e2,<-ih];show _=hor f n z k*z^(m+1)+(ps f z m+f m*z^m);rw[gW,yS];have e3:hor f n z k*z*z^m=hor f n z k*(z^m*z):=by rw[jW,qA z]
  lia
theorem d79 (f:Nat->Int)(n:Nat)(z:Int):hor f n z n=ps f z n:=by
 have:=cT5 f n z n (aB _);rw[pZ]at this;have e:hor f n z n*z^0+ps f z 0=hor f n z n:=by
  show hor f n z n*z^0+0=_
  rw[cL,iG,gH]
 lia
theorem bE9 {f:Nat->Int}{n a b:Nat}{z:Int}(hf: ∀j,(f j).natAbs<=2^a)(hz:z.natAbs<=2^b): ∀k,(hor f n z k).natAbs<=2^(a+(b+1)*k)
 | 0=>by simp[hor]
 | k+1=>by
  show(hor f n z k*z+f (n-1-k)).natAbs<=_
  have ih:=bE9 (n:=n) hf hz k;have h1:(hor f n z k*z).natAbs<=2^(a+(b+1)*k)*2^b:=by rw[fW];exact jV ih hz
  have h2:=hf (n-1-k);have h3:=yA (hor f n z k*z) (f<|n-1-k);have e1:2^(a+(b+1)*(k+1))=2^(a+(b+1)*k)*2^b+2^(a+(b+1)*k)*2^b:=by
   rw[yO,<-kS,<-kS,yN,kT 2 (a+(b+1)*k) b];lia
  have h4:2^a<=2^(a+(b+1)*k)*2^b:=by
   rw[<-kT];exact pG ac ad
  lia
theorem cT6 (f g:Nat->Int)(z:Int): ∀n,ps (λj=>f j+g j) z n=ps f z n+ps g z n
 | 0=>rfl
 | n+1=>by
  show ps (λj=>f j+g j) z n+(f n+g n)*z^n=ps f z n+f n*z^n+(ps g z n+g n*z^n)
  rw[cT6 f g z n,yS]
  lia
theorem cT7 (c:Int)(f:Nat->Int)(z:Int): ∀n,ps (λj=>c*f j) z n=c*ps f z n
 | 0=>by show(0:Int)=c*0;rw[bD]
 | n+1=>by
  show ps (λj=>c*f j) z n+c*f n*z^n=c*(ps f z n+f n*z^n)
  rw[cT7 c f z n,tP,jW]
theorem aH5 {f:Nat->Int}{z:Int}{n:Nat}: ∀m,n<=m->(∀j,n<=j->j<m->f j=0)->ps f z m=ps f z n
 | 0,h,_=>by rw[show n=0 by lia]
 | m+1,h,hz=>by
  by_cases c:n=m+1
  ·rw[c]
  ·show ps f z m+f m*z^m=_
   rw[hz m ad ad,cT,gH]
   exact aH5 m ad λj a b=>hz j a ad
theorem bF0 (b:Nat->Int)(z:Int)(U:Nat): ∀n,n<=U->ps (shF b U) z n=0
 | 0,_=>rfl
 | n+1,h=>by
  show ps (shF b U) z n+shF b U n*z^n=0
  rw[bF0 b z U n aa]
  unfold shF;rw[a6 aa,cT]
  rfl
theorem aM7 (b:Nat->Int)(z:Int)(U:Nat): ∀m,ps (shF b U) z (U+m)=z^U*ps b z m
 | 0=>by rw[Nat.add_zero,bF0 b z U U<|aB _];show(0:Int)=z^U*0;rw[bD]
 | m+1=>by
  show ps (shF b U) z (U+m)+shF b U (U+m)*z^(U+m)=z^U*(ps b z m+b m*z^m)
  rw[aM7 b z U m];unfold shF;rw[a7 ad,show U+m-U=m by lia,Int.pow_add,tP,Int.mul_left_comm]
theorem bL0 {u b:Nat->Int}{z:Int}{V:Nat}(hb: ∀j,V<=j->b j=0): ∀U N,U+V<=N->ps (conv u b U) z N=ps u z U*ps b z V
 | 0,N,_=>by
  have:ps (conv u b 0) z N=0:=by
   have e:ps (conv u b 0) z N=ps (conv u b 0) z 0:=aH5 N (eO _) λ_ _ _=>rfl
   rw[e];rfl
  rw[this];show(0:Int)=0*_;rw[cT]
 | U+1,N,h=>by
  have e:conv u b (U+1)=λm=>conv u b U m+u U*shF b U m:=rfl
  rw[e,cT6 (conv u b U) λm=>u U*shF b U m,bL0 hb U N ad,cT7]
  obtain⟨m,rfl⟩: ∃m,N=U+m:=⟨N-U,ad⟩
  rw[aM7,aH5 (n:=V) m ad λj a _=>hb j a]
  show _=(ps u z U+u U*z^U)*ps b z V
  rw[yS,jW<|u U]
structure HorOk (n a b:Nat)(f:Nat->Int)(z:Int):Prop where
 fb: ∀j,(f j).natAbs<=2^a
 zb:z.natAbs<=2^b
 room:a+(b+1)*n<8000
 b8:b<8000
 n9:n<=200
def sP:Φ:=λds Q=> ∃(n a b:Nat) (f:Nat->Int) (z:Int),ds=[aP<|rwF n f,.int z]/\HorOk n a b f z/\Q (.pu<|.int<|ps f z n)
def zI:US:=(aS (bX 2<|uC<|.int 0)<|aS (jL (cQ6<|a9 (aD 0) aM) (cM 3)<|bX 2<|uOp i4 (uOp hG (aD 2)<|aD 1)<|aD 3)<|qY 2)
theorem bL1: ∀ds Q,sP ds Q->zI {nx:=λ_=>Q (.pu .non),rt:=Q} (init ["f","z","v","c"] ds):=by
 rintro ds Q ⟨n,a,b,f,z,rfl,ok,h⟩;unfold zI;simp only[aP];show(aS _ _:US) _ [some<|.pu<|.tup<|(rwF n f).map .int,some<|.pu<|.int z,none,none];walk_at "u";refine bQ n (λk=>((rwF n f).map D.int).getD (n-1-k) .non) [some<|.pu<|.tup<|(rwF n f).map .int,some<|.pu<|.int z,some<|.pu<|.int 0,none] ?_
  (λk ρ=> ∃c,ρ=[some<|.pu<|.tup<|(rwF n f).map .int,some<|.pu<|.int z,some<|.pu<|.int<|hor f n z k,c]) ⟨none,rfl⟩ ?_ ?_
 ·intro Q' q;walk_at "u";rw[eK];exact q
 ·rintro k ρ hk ⟨c,rfl⟩;rw[aM3 aa]
  walk_at "u"
  have room:=ok.room;have:(b+1)*k<=(b+1)*n:=pJ _ aa
  exact⟨ae,.inr ⟨Sm.pow (bE9 ok.fb ok.zb k) aa,Sm.pow ok.zb (by have:=ok.b8;omega)⟩,_,rfl⟩
 ·rintro ρ ⟨c,rfl⟩;walk_at "u";rw[d79];exact h
theorem cA3 (f g:Nat->Int)(n m:Nat):shF (λj=>f j+g j) n m=shF f n m+shF g n m:=by
 unfold shF;dsimp only;split<;>lia
theorem d80 (c:Int)(f:Nat->Int)(n m:Nat):shF (λj=>c*f j) n m=c*shF f n m:=by
 unfold shF;dsimp only;split
 ·rfl
 ·rw[bD]
theorem shF_sh (h:Nat->Int)(n k m:Nat):shF (shF h n) k m=shF h (n+k) m:=by
 unfold shF
 by_cases c:k<=m
 ·rw[a7 c]
  by_cases d:n<=m-k
  ·rw[a7 d,a7 ad,show m-k-n=m-(n+k)by lia]
  ·rw[a6 d,a6 ad]
 ·rw[a6 c,a6 ad]
theorem bF1 (f g b:Nat->Int)(m:Nat): ∀n,conv (λj=>f j+g j) b n m=conv f b n m+conv g b n m
 | 0=>rfl
 | n+1=>by
  show conv (λj=>f j+g j) b n m+(f n+g n)*shF b n m=conv f b n m+f n*shF b n m+(conv g b n m+g n*shF b n m)
  rw[bF1 f g b m n,yS]
  lia
theorem bF2 (c:Int)(f b:Nat->Int)(m:Nat): ∀n,conv (λj=>c*f j) b n m=c*conv f b n m
 | 0=>by show(0:Int)=c*0;rw[bD]
 | n+1=>by
  show conv (λj=>c*f j) b n m+c*f n*shF b n m=c*(conv f b n m+f n*shF b n m)
  rw[bF2 c f b m n,tP,jW]
theorem bT6 (f b:Nat->Int)(k m:Nat): ∀n,conv (shF f k) b (k+n) m=shF (conv f b n) k m
 | 0=>by
  have e: ∀j,j<=k->conv (shF f k) b j m=0:=by
   intro j
   induction j with
   | zero=>intro _;rfl
   | succ j ih=>
    intro hj;show conv (shF f k) b j m+shF f k j*shF b j m=0;rw[ih ad]
    unfold shF;rw[a6 ad,cT]
    rfl
  rw[Nat.add_zero,e k<|aB _];unfold shF;split<;>rfl
 | n+1=>by
  show conv (shF f k) b (k+n) m+shF f k (k+n)*shF b (k+n) m=shF (λm=>conv f b n m+f n*shF b n m) k m
  rw[bT6 f b k m n,cA3,d80,shF_sh,tN n k]
  congr 2
  unfold shF;rw[a7 ad,show k+n-k=n by lia]
theorem b29 {u b c:Nat->Int}{V:Nat}(hb: ∀j,V<=j->b j=0)(m:Nat): ∀U,conv u (conv b c V) U m=conv (conv u b U) c (U+V) m
 | 0=>by
  have e: ∀n,conv (conv u b 0) c n m=0:=by
   intro n
   induction n with
   | zero=>rfl
   | succ n ih=>
    show conv (conv u b 0) c n m+0*shF c n m=0
    rw[ih,cT];rfl
  rw[e];rfl
 | U+1=>by
  show conv u (conv b c V) U m+u U*shF (conv b c V) U m=conv (λm=>conv u b U m+u U*shF b U m) c (U+1+V) m
  rw[bF1,bF2,b29 hb m U];have z1: ∀j,U+V<=j->j<U+1+V->conv u b U j=0:=λj h1 h2=>by
   have: ∀i,V<i+1->b i=0:=λi hi=>hb i ad
   by_cases v:V=0
   ·subst v;have e:b=λ_=>0:=funext λj=>hb j (eO _)
    rw[e];have nul: ∀n,conv u (λ_=>0) n j=0:=by
     intro n
     induction n with
     | zero=>rfl
     | succ n ih=>
      show conv u (λ_=>0) n j+u n*shF (λ_=>0) n j=0
      rw[ih];unfold shF;split<;>rw[bD]<;>rfl
    exact nul U
   ·exact nY (d:=V-1) (λi hi=>hb i ad) U j ad
  rw[aM5 (u:=conv u b U) (b:=c) (U:=U+V) (U+1+V) z1 ad]
  have z2: ∀j,U+V<=j->j<U+1+V->shF b U j=0:=λj h1 h2=>by
   unfold shF;rw[a7 ad]
   exact hb _ ad
  rw[aM5 (u:=shF b U) (b:=c) (U:=U+V) (U+1+V) z2 ad,bT6]
theorem aR5 (u f g:Nat->Int)(m:Nat): ∀n,conv u (λj=>f j+g j) n m=conv u f n m+conv u g n m
 | 0=>rfl
 | n+1=>by
  show conv u (λj=>f j+g j) n m+u n*shF (λj=>f j+g j) n m=conv u f n m+u n*shF f n m+(conv u g n m+u n*shF g n m)
  rw[aR5 u f g m n,cA3,tP]
  lia
theorem aM8 {u:Nat->Int}{n:Nat}(c:Int)(k:Nat)(hu: ∀j,n<=j->u j=0)(m:Nat):conv u (λj=>if j=k then c else 0) n m=c*shF u k m:=by
 have e: ∀n,conv u (λj=>if j=k then c else 0) n m=if k<=m/\m-k<n then c*u (m-k)else 0:=by
  intro n
  induction n with
  | zero=>rw[a6 aa];rfl
  | succ n ih=>
   show conv u (λj=>if j=k then c else 0) n m+u n*shF (λj=>if j=k then c else 0) n m=_
   have sh:shF (λj=>if j=k then c else 0) n m=if n<=m/\m-n=k then c else 0:=by
    unfold shF;dsimp only
    by_cases h3:n<=m
    ·rw[a7 h3]
     by_cases h4:m-n=k
     ·rw[a7 h4,a7 ⟨h3,h4⟩]
     ·rw[a6 h4,a6 λz=>h4 z.2]
    ·rw[a6 h3,a6 λz=>h3 z.1]
   rw[ih,sh]
   by_cases h1:k<=m/\m-k<n
   ·rw[a7 h1,a6<|show ¬(n<=m/\m-n=k)by omega,a7<|show k<=m/\m-k<n+1 by omega,bD,gH]
   ·rw[a6 h1]
    by_cases h2:k<=m/\m-k=n
    ·rw[a7<|show n<=m/\m-n=k by omega,a7<|show k<=m/\m-k<n+1 by omega,h2.2,bN,qA]
    ·rw[a6<|show ¬(n<=m/\m-n=k)by omega,a6<|show ¬(k<=m/\m-k<n+1)by omega,bD]
     rfl
 rw[e n];unfold shF
 by_cases h1:k<=m
 ·rw[a7 h1]
  by_cases h2:m-k<n
  ·rw[a7 ⟨h1,h2⟩]
  ·rw[a6 aa,hu _ aa,bD]
 ·rw[a6 h1,a6 aa,bD]
theorem bF3 {u b:Nat->Int}{U V:Nat}(hu: ∀j,U<=j->u j=0)(hb: ∀j,V<=j->b j=0)(m:Nat):conv u b U m=conv b u V m:=by
 have e: ∀n,conv u b n m=conv b (λj=>if j<n then u j else 0) V m:=by
  intro n
  induction n with
  | zero=>
   have:(λj=>if j<0 then u j else 0)=λj=>if j=0 then(0:Int)else 0:=funext λj=>ae
   rw[this,aM8 0 0 hb,cT];rfl
  | succ n ih=>
   have:(λj=>if j<n+1 then u j else 0)=λj=>(if j<n then u j else 0)+(if j=n then u n else 0):=funext λj=>by
    by_cases h1:j<n
    ·rw[a7 ad,a7 h1,a6 ad,gH]
    ·by_cases h2:j=n
     ·subst h2;rw[a7 ad,a6 h1,a7 rfl,bN]
     ·rw[a6 ad,a6 h1,a6 h2];rfl
   rw[this,aR5 b (λj=>if j<n then u j else 0) λj=>if j=n then u n else 0,aM8 _ _ hb,<-ih]
   rfl
 rw[e U]
 congr 1
 funext j
 by_cases h:j<U
 ·rw[a7 h]
 ·rw[a6 h,hu j ad]
theorem emL (a b p:Int):a%p*b%p=a*b%p:=by rw[gI,j5,<-gI]
theorem emR (a b p:Int):a*(b%p)%p=a*b%p:=by rw[gI,j5,<-gI]
structure MP (p:Int)(n:Nat)(f:Nat->Int):Prop where
 top:f n=1
 hi: ∀j,n<j->f j=0
 rng: ∀j,0<=f j/\f j<p
theorem MP.z {p:Int}{n:Nat}{f:Nat->Int}(h:MP p n f): ∀j,n+1<=j->f j=0:=λj hj=>h.hi j hj
noncomputable def tm (p:Int)(a b:Nat×(Nat->Int)):Nat×(Nat->Int):=(a.1+b.1,md p<|conv a.2 b.2 (a.1+1))
theorem bT7 {p:Int}(u b:Nat->Int)(n m:Nat):conv (md p u) b n m%p=conv u b n m%p:=aY8 (λi j=>by show u i%p*b j%p=_;rw[emL]) n m
theorem cT8 {p:Int}(u b:Nat->Int)(n m:Nat):conv u (md p b) n m%p=conv u b n m%p:=aY8 (λi j=>by show u i*(b j%p)%p=_;rw[emR]) n m
theorem MP.tm {p:Int}{a b:Nat×(Nat->Int)}(hp:2<=p)(ha:MP p a.1 a.2)(hb:MP p b.1 b.2):MP p (M.tm p a b).1 (M.tm p a b).2:=by
 refine⟨?_,λj hj=> ?_,λj=>⟨cR _ ad,cP _ ad⟩⟩
 ·show conv a.2 b.2 (a.1+1) (a.1+b.1)%p=1
  rw[bT3 hb.hi,ha.top,hb.top];exact dO ac ad
 ·show conv a.2 b.2 (a.1+1) j%p=0
  have hj':a.1+b.1<j:=hj;rw[nY (d:=b.1) hb.hi (a.1+1) j ad,cJ]
theorem a44 {p:Int}{a b c:Nat×(Nat->Int)}(hb: ∀j,b.1<j->b.2 j=0):tm p a (tm p b c)=tm p (tm p a b) c:=by
 refine j7 (kS _ _ _).symm (funext λm=> ?_)
 show conv a.2 (md p<|conv b.2 c.2 (b.1+1)) (a.1+1) m%p=conv (md p<|conv a.2 b.2 (a.1+1)) c.2 (a.1+b.1+1) m%p
 rw[cT8,bT7,b29 (V:=b.1+1) (λj hj=>hb j hj) m<|a.1+1]
 rw[aM5 (u:=conv a.2 b.2 (a.1+1)) (b:=c.2) (U:=a.1+b.1+1) (a.1+1+(b.1+1)) (λj h1 h2=>nY (d:=b.1) hb (a.1+1) j ad) ad]
theorem a91 {p:Int}{a b:Nat×(Nat->Int)}(ha: ∀j,a.1<j->a.2 j=0)(hb: ∀j,b.1<j->b.2 j=0):tm p a b=tm p b a:=by
 refine j7 (tN _ _) (funext λm=> ?_)
 show conv a.2 b.2 (a.1+1) m%p=conv b.2 a.2 (b.1+1) m%p
 rw[bF3 (U:=a.1+1) (V:=b.1+1) (λj hj=>ha j hj) λj hj=>hb j hj]
noncomputable def dX:Nat×(Nat->Int):=(0,λj=>if j=0 then 1 else 0)
theorem MP.one {p:Int}(hp:2<=p):MP p dX.1 dX.2:=⟨rfl,λj hj=>a6 (by have:0<j:=hj;lia),λj=>by show 0<=(if j=0 then(1:Int)else 0)/\(if j=0 then(1:Int)else 0)<p;split<;>lia⟩
theorem b30 {p:Int}{a:Nat×(Nat->Int)}(ha:MP p a.1 a.2):tm p dX a=a:=by
 refine j7 (Nat.zero_add _) (funext λm=> ?_)
 show(0+(if(0:Nat)=0 then(1:Int)else 0)*shF a.2 0 m)%p=a.2 m
 rw[a7 rfl,iH,bN];unfold shF;rw[a7<|eO _,sub_zero];exact dO (ha.rng m).1 (ha.rng m).2
noncomputable def fS (c:Int):Nat×(Nat->Int):=(1,λj=>if j=0 then c else if j=1 then 1 else 0)
theorem MP.lin {p c:Int}(hp:2<=p)(h0:0<=c)(h1:c<p):MP p (fS c).1 (fS c).2:=⟨rfl,λj hj=>by
  have:1<j:=hj;show(if j=0 then c else if j=1 then 1 else 0)=0;rw[a6 ad,a6 ad],λj=>by
  show 0<=(if j=0 then c else if j=1 then 1 else 0)/\(if j=0 then c else if j=1 then 1 else 0)<p
  split
  ·lia
  ·split<;>lia⟩
noncomputable def va (p:Int)(a:Nat×(Nat->Int))(z:Int):Int:=ps a.2 z (a.1+1)%p
theorem dE0 (p:Int)(f:Nat->Int)(z:Int): ∀n,ps (md p f) z n%p=ps f z n%p
 | 0=>rfl
 | n+1=>by
  show(ps (md p f) z n+f n%p*z^n)%p=(ps f z n+f n*z^n)%p
  rw[iF,dE0 p f z n,emL,<-iF]
theorem cA4 {p:Int}{a b:Nat×(Nat->Int)}(hb: ∀j,b.1<j->b.2 j=0)(z:Int):va p (tm p a b) z=va p a z*va p b z%p:=by
 show ps (md p<|conv a.2 b.2 (a.1+1)) z (a.1+b.1+1)%p=ps a.2 z (a.1+1)%p*(ps b.2 z (b.1+1)%p)%p
 rw[dE0,<-gI];have h:=bL0 (u:=a.2) (b:=b.2) (z:=z) (V:=b.1+1) (λj hj=>hb j hj) (a.1+1) (a.1+1+(b.1+1)) (aB _)
 rw[<-h,aH5 (n:=a.1+b.1+1) (a.1+1+(b.1+1)) ad λj h1 h2=>nY (d:=b.1) hb (a.1+1) j ad]
noncomputable def hqA (c:Int)(f:Nat->Int)(n:Nat):Nat->Int
 | 0=>f n
 | k+1=>f (n-1-k)-c*hqA c f n k
noncomputable def hq (c:Int)(f:Nat->Int)(n:Nat):Nat->Int:=λj=>if j<n then hqA c f n (n-1-j)else 0
theorem cA5 {c:Int}{f:Nat->Int}{n:Nat}(hf: ∀j,n<j->f j=0)(j:Nat)(hj:1<=j):f j=hq c f n (j-1)+c*hq c f n j:=by
 unfold hq
 by_cases h1:j<n
 ·rw[a7<|show j-1<n by lia,a7 h1,show n-1-(j-1)=(n-1-j)+1 by lia]
  show f j=f (n-1-(n-1-j))-c*hqA c f n (n-1-j)+c*hqA c f n (n-1-j)
  rw[show n-1-(n-1-j)=j by lia]
  lia
 ·by_cases h2:j=n
  ·subst h2;rw[a7<|show j-1<j by lia,a6 h1,show j-1-(j-1)=0 by lia,bD,gH]
   rfl
  ·rw[a6<|show ¬j-1<n by lia,a6 h1,hf j ad,bD]
   rfl
theorem dE1 {c:Int}{f:Nat->Int}{n:Nat}(hf: ∀j,n<j->f j=0): ∀m,ps f (-c) (m+1)=f 0-c*hq c f n 0+c*hq c f n m*(-c)^m
 | 0=>by
  show 0+f 0*(-c)^0=_
  rw[cL,iG,iG]
  lia
 | m+1=>by
  show ps f (-c) (m+1)+f (m+1)*(-c)^(m+1)=_
  rw[dE1 hf m,cA5 (c:=c) hf (m+1) ad,mZ,gW]
  grind
theorem hq_at {c:Int}{f:Nat->Int}{n:Nat}(hf: ∀j,n<j->f j=0):ps f (-c) (n+1)=f 0-c*hq c f n 0:=by
 rw[dE1 hf n];have:hq c f n n=0:=by unfold hq;rw[a6<|dI _]
 rw[this,bD,cT,gH]
theorem bT8 {u:Nat->Int}{n:Nat}(c:Int)(hu: ∀j,n<=j->u j=0)(m:Nat):conv u (fS c).2 n m=c*u m+(if m=0 then 0 else u (m-1)):=by
 have e:(fS c).2=λj=>(if j=0 then c else 0)+(if j=1 then 1 else 0):=funext λj=>by
  show(if j=0 then c else if j=1 then 1 else 0)=_
  by_cases h0:j=0
  ·subst h0;simp
  ·rw[a6 h0,a6 h0,bN]
 rw[e,aR5 u (λj=>if j=0 then c else 0) λj=>if j=1 then 1 else 0,aM8 c 0 hu,aM8 1 1 hu,iH]
 unfold shF;rw[a7<|eO _,sub_zero]
 congr 1
 by_cases h0:m=0
 ·rw[a7 h0,a6 ad]
 ·rw[a6 h0,a7 ad]
theorem d81 {c:Int}{f:Nat->Int}{n:Nat}(hf: ∀j,n<j->f j=0)(m:Nat):f m=conv (hq c f n) (fS c).2 n m+(if m=0 then f 0-c*hq c f n 0 else 0):=by
 rw[bT8 c (λj hj=>by unfold hq;rw[a6 ad])]
 by_cases h0:m=0
 ·subst h0;rw[a7 rfl,a7 rfl];lia
 ·rw[a6 h0,a6 h0,cA5 (c:=c) hf m ad];lia
noncomputable def powT (p:Int)(a g:Nat×(Nat->Int)):Nat->Nat×(Nat->Int)
 | 0=>a
 | k+1=>tm p (powT p a g k) g
theorem MP.powT {p:Int}{a g:Nat×(Nat->Int)}(hp:2<=p)(ha:MP p a.1 a.2)(hg:MP p g.1 g.2): ∀k,MP p (M.powT p a g k).1 (M.powT p a g k).2
 | 0=>ha
 | k+1=>MP.tm hp (MP.powT hp ha hg k) hg
theorem rC (p:Int)(a g:Nat×(Nat->Int)): ∀k,(powT p a g k).1=a.1+g.1*k
 | 0=>rfl
 | k+1=>by
  show(powT p a g k).1+g.1=_
  rw[rC p a g k,yO,kS]
noncomputable def allT (p:Int)(a:Nat×(Nat->Int)):List ((Nat×(Nat->Int))×Nat)->Nat×(Nat->Int)
 | []=>a
 | x::l=>allT p (powT p a x.1 x.2) l
theorem i7 (p:Int): ∀(l m:List ((Nat×(Nat->Int))×Nat)) (a:Nat×(Nat->Int)),allT p a (l++m)=allT p (allT p a l) m
 | [],m,a=>rfl
 | x::l,m,a=>i7 p l m _
theorem MP.allT {p:Int}(hp:2<=p): ∀(l:List ((Nat×(Nat->Int))×Nat)) {a:Nat×(Nat->Int)},MP p a.1 a.2->(∀x∈l,MP p x.1.1 x.1.2)->MP p (M.allT p a l).1 (M.allT p a l).2
 | [],a,ha,_=>ha
 | x::l,a,ha,h=>MP.allT hp l (MP.powT hp ha (h x<|.head _) x.2) λy hy=>h y (.tail _ hy)
theorem a45 (p:Int): ∀(l:List ((Nat×(Nat->Int))×Nat)) (a:Nat×(Nat->Int)) (x:(Nat×(Nat->Int))×Nat),x∈l->a.1+x.1.1*x.2<=(allT p a l).1
 | y::l,a,x,hx=>by
  show _<=(allT p (powT p a y.1 y.2) l).1
  have mono: ∀(l:List ((Nat×(Nat->Int))×Nat)) (a:Nat×(Nat->Int)),a.1<=(allT p a l).1:=by
   intro l
   induction l with
   | nil=>intro a;exact aB _
   | cons z l ih=>intro a;exact aL (by rw[rC];lia) (ih<|powT p a z.1 z.2)
  rcases aY.mp hx with rfl|hx
  ·have:=mono l (powT p a x.1 x.2);rw[rC]at this;exact this
  ·have:=a45 p l (powT p a y.1 y.2) x hx;rw[rC]at this
   lia
noncomputable def a46 (x:(Nat×(Nat->Int))×Nat):D:= .tup [aP<|rwF (x.1.1+1) x.1.2,.int (x.2:Int)]
noncomputable def lnP (x:Int×Nat):(Nat×(Nat->Int))×Nat:=(fS x.1,x.2)
structure LK (p:Int)(F:Nat×(Nat->Int))(C:Nat)(cs:List (Int×Nat))(L:Nat×(Nat->Int)):Prop where
 prod:F=tm p (allT p dX<|cs.map lnP) L
 mp:MP p L.1 L.2
 asc:cs.Pairwise λa b=>a.1<b.1
 mem: ∀x∈cs,0<=x.1/\x.1< (C:Int)/\1<=x.2
 nr: ∀c:Nat,c<C->va p L (-(c:Int))≠0
 len:cs.length<=C
theorem cA6 {p:Int}(hp:2<=p){cs:List (Int×Nat)}(h: ∀x∈cs,0<=x.1/\x.1<p): ∀y∈cs.map lnP,MP p y.1.1 y.1.2:=by
 intro y hy;obtain⟨x,hx,rfl⟩:=dU.mp hy;exact MP.lin hp (h x hx).1 (h x hx).2
def uA:Φ:=λds Q=> ∃(n:Nat) (f:Nat->Int) (p:Int),ds=[aP<|rwF (n+1) f,.int p]/\n<=40/\Pr p/\MP p n f/\ ∀cs L,LK p (n,f) p.toNat cs L->Q (.pu<|.tup [.lst<|cs.map λx=>a46 (lnP x),aP<|rwF (L.1+1) L.2])
def a10:US:=(fP<|k8<|a9 (aD 2)<|a9 (aD 3) aM)
def a11:US:=(aS (jL (jA<|a9 (aD 1) aM) (cM 4)<|aS (bX 5<|uC<|.int 0)<|aS (bH8 (fX<|uOp (kX false) (uOp o8 (aW sP<|a9 (aD 3)<|a9 (v4<|aD 4) aM)<|aD 1)<|uC<|.int 0)<|aS (bX 3<|uIx (uV<|aW rQ<|a9 (aD 3)<|a9 (k8<|a9 (aD 4)<|a9 (uC<|.int 1) aM)<|a9 (aD 1) aM)<|uC<|.int 0)<|bQ9 5 (gI2 λi j Q=>Q (.pu<|.int<|i+j))<|uC<|.int 1)<|iO (fX<|uOp (sN λi j=>decide (j<i)) (aD 5)<|uC<|.int 0) (aH0 2<|k8<|a9 (k8<|a9 (aD 4)<|a9 (uC<|.int 1) aM)<|a9 (aD 5) aM) fQ) a10)
def a12:US:=(aS (bX 3<|aD 0) a11)
def uB:US:=(aS (bX 2<|jD aM) a12)
theorem cT9 {p:Int}(pp:Pr p){L:Nat×(Nat->Int)}(mp:MP p L.1 L.2){c:Int}(c0:0<=c)(c1:c<p)(hz:va p L (-c)=0){t:Int}(ht:t*md p (fS c).2 1%p=1)(t0:0<=t)(t1:t<p) :
  1<=L.1/\ ∃u:Nat->Int,MP p (L.1-1) u/\L=tm p (L.1-1,u) (fS c)/\
   (let b:=λj=>t*md p (fS c).2 j%p
    let LA:=gP (md p L.2) (L.1+1)
    let q:=divQ b 1 (LA-1) (md p L.2)
    rwF (gP (λj=>t*q j%p)<|gP q<|LA-1) (λj=>t*q j%p)=rwF L.1 u):=by
 have p2:=pp.lo;have mdL:md p L.2=L.2:=funext λj=>dO (mp.rng j).1 (mp.rng j).2
 have ml:=MP.lin p2 c0 c1;have mdG:md p (fS c).2=(fS c).2:=funext λj=>dO (ml.rng j).1 (ml.rng j).2
 have l1:1<=L.1:=by
  refine Nat.pos_of_ne_zero λz=> ?_
  unfold va at hz;rw[z]at hz;have e:ps L.2 (-c) (0+1)=L.2 0*(-c)^0:=by show 0+L.2 0*(-c)^0=_;lia
  have e2:L.2 0=1:=by have:=mp.top;rw[z]at this;exact this
  rw[e,e2,cL,iG,dO ac ad]at hz
  cases hz
 have r0:(L.2 0-c*hq c L.2 L.1 0)%p=0:=by rw[<-hq_at mp.hi];exact hz
 have fm: ∀m,L.2 m=conv (md p<|hq c L.2 L.1) (fS c).2 L.1 m%p:=λm=>by
  have h:=d81 (c:=c) mp.hi m;rw[bT7];have e:L.2 m%p=L.2 m:=dO (mp.rng m).1 (mp.rng m).2;rw[<-e]
  conv=>lhs;rw[h]
  by_cases h0:m=0
  ·rw[a7 h0,iF,r0,gH,j5]
  ·rw[a6 h0,gH]
 have ut:md p (hq c L.2 L.1) (L.1-1)=1:=by
  show hq c L.2 L.1 (L.1-1)%p=1
  unfold hq;rw[a7 ad,pZ]
  show L.2 L.1%p=1
  rw[mp.top];exact dO ac ad
 have uz: ∀j,L.1<=j->md p (hq c L.2 L.1) j=0:=λj hj=>by
  show hq c L.2 L.1 j%p=0
  unfold hq;rw[a6 ad,cJ]
 have ur: ∀j,0<=md p (hq c L.2 L.1) j/\md p (hq c L.2 L.1) j<p:=λj=>⟨cR _ ad,cP _ ad⟩
 refine⟨l1,md p<|hq c L.2 L.1,⟨ut,λj hj=>uz j ad,ur⟩,?_,?_⟩
 ·refine j7 (show L.1=L.1-1+1 by lia) (funext λm=> ?_)
  show L.2 m=conv (md p<|hq c L.2 L.1) (fS c).2 (L.1-1+1) m%p
  rw[show L.1-1+1=L.1 by lia]
  exact fm m
 ·have mm:=cT3 (p:=p) (t:=t) (B0:=md p (fS c).2) (u:=md p (hq c L.2 L.1)) (low:=λ_=>0) (A:=md p L.2) (d:=1) (U:=L.1) (n:=L.1+1) p2 (λj hj=>by rw[mdG];exact ml.hi j hj) (.inr (by rw[ut];decide)) ur uz (λ_ _=>rfl) (λ_=>⟨ac,ad⟩) ht (λm=>by rw[mdL,mdG,gH];exact fm m) (aB _)
  obtain⟨_,e1,_,_⟩:=mm;have eLA:gP (md p L.2) (L.1+1)=L.1+1:=sO (aB _) (λm h1 h2=>ad) (.inr (by rw[mdL,mZ,mp.top];decide))
  rw[eLA]at e1⊢;have eu:(λj=>t*divQ (λj=>t*md p (fS c).2 j%p) 1 (L.1+1-1) (md p L.2) j%p)=md p (hq c L.2 L.1):=funext e1
  dsimp only;rw[eu];have eq:gP (divQ (λj=>t*md p (fS c).2 j%p) 1 (L.1+1-1)<|md p L.2) (L.1+1-1)=L.1:=by
   rw[mZ];refine sO (aB _) (λm h1 h2=>ad) (.inr λz=> ?_)
   have h:=e1 (L.1-1);rw[mZ]at h;rw[z,bD,cJ,ut]at h;cases h
  rw[eq,sO (k:=L.1) (aB _) (λm h1 h2=>ad)<|.inr (by rw[ut];decide)]
theorem cU0 {p:Int}{a b:Nat×(Nat->Int)}(hb: ∀j,b.1<j->b.2 j=0){z:Int}(h:va p (tm p a b) z≠0):va p a z≠0/\va p b z≠0:=by
 rw[cA4 hb]at h;refine⟨λe=>h ?_,λe=>h ?_⟩
 ·rw[e,cT,cJ]
 ·rw[e,bD,cJ]
theorem cU1 {p:Int}(pp:Pr p){n:Nat}{f:Nat->Int}(h:MP p n f)(j:Nat):(f j).natAbs<=2^8:=by
 have h1:=h.rng j;have h2:=pp.hi;have:(2:Nat)^8=256:=rfl
 lia
theorem b31: ∀ds Q,uA ds Q->uB {nx:=λ_=>Q (.pu .non),rt:=Q} (init ["f","p","a","l","c","o"] ds):=by
 rintro ds Q ⟨n,f,p,rfl,n4,pp,mp,h⟩;have p2:=pp.lo;have p3:=pp.hi;unfold uB;show(aS _ _:US) _ [some<|.pu<|aP<|rwF (n+1) f,some<|.pu<|.int p,none,none,none,none];rw[aN];walk_at "u";refine⟨ac,?_⟩
 unfold a12;rw[aN];walk_at "u";unfold a11;rw[aN];refine bQ p.toNat (λi=> .int (0+i)) [some<|.pu<|aP<|rwF (n+1) f,some<|.pu<|.int p,some<|.ow [],some<|.pu<|aP<|rwF (n+1) f,none,none] ?_
  (λi ρ=> ∃(cs:List (Int×Nat)) (L:Nat×(Nat->Int)) (x y:Option B),ρ=[some<|.pu<|aP<|rwF (n+1) f,some<|.pu<|.int p,some<|.ow<|cs.map λx=>a46 (lnP x),some<|.pu<|aP<|rwF (L.1+1) L.2,x,y]/\LK p (n,f) i cs L)
  ⟨[],(n,f),none,none,rfl,(b30 (p:=p) (a:=(n,f)) mp).symm,mp,.nil,ae,ae,aB _⟩ ?_ ?_
 ·intro Q' q;walk_at "u";refine⟨⟨ad,ad⟩,?_⟩
  exact q
 ·rintro i ρ hi ⟨cs,L,x,y,rfl,lk⟩;have hLn:L.1<=n:=by
   have:=bU Prod.fst lk.prod;have e:n=(allT p dX<|cs.map lnP).1+L.1:=this
   lia
  have mcs:=cA6 p2 (cs:=cs) (λx hx=>⟨(lk.mem x hx).1,by have:=(lk.mem x hx).2.1;lia⟩)
  have mA:=MP.allT p2 (cs.map lnP) (MP.one p2) mcs;have mlin:=MP.lin p2 (c:=(i:Int)) ad ad
  rw[bN];walk_at "u";refine⟨ae,?_⟩
  refine⟨λk ρ=> ∃(o:Nat) (L':Nat×(Nat->Int)),ρ=[some<|.pu<|aP<|rwF (n+1) f,some<|.pu<|.int p,some<|.ow<|cs.map λx=>a46 (lnP x),some<|.pu<|aP<|rwF (L'.1+1) L'.2,some<|.pu<|.int (i:Int),some<|.pu<|.int (o:Int)]/\k=L'.1/\L'.1<=n/\(n,f)=tm p (powT p (allT p dX<|cs.map lnP) (fS (i:Int)) o) L'/\MP p L'.1 L'.2/\ ∀c:Nat,c<i->va p L' (-(c:Int))≠0,⟨L.1,0,L,rfl,rfl,hLn,lk.prod,lk.mp,lk.nr⟩,?_⟩
  rintro k ρ ⟨o,L',rfl,rfl,hL',e,mp',nr⟩;walk_at "u";refine⟨L'.1+1,8,8,L'.2,-(i:Int),rfl,⟨cU1 pp mp',by have:(2:Nat)^8=256:=rfl;lia,ad,ac,ad⟩,?_⟩
  walk_at "u"
  refine⟨ad,?_⟩
  rw[dL _ ad]
  by_cases c:va p L' (-(i:Int))=0
  ·rw[a7<|show ps L'.2 (-(i:Int)) (L'.1+1)%p=0 from c]
   refine⟨ac,L'.1+1,2,1,L'.2,(fS (i:Int)).2,p,rfl,ad,ac,pp,λj hj=>mlin.hi j hj,ac,λj hj=>by show(fS (i:Int)).2 j%p=0;rw[mlin.hi j hj,cJ],by show(1:Int)%p≠0;rw[dO ac ad];decide,λt ht t0 t1=> ?_⟩
   obtain⟨l1,u,mu,eu,er⟩:=cT9 pp mp' (c:=(i:Int)) ad ad c ht t0 t1
   dsimp only at er⊢;rw[er,aL9];dsimp only;have eL:rwF L'.1 u=rwF (L'.1-1+1) u:=by rw[show L'.1-1+1=L'.1 by lia]
   rw[eL];refine⟨L'.1-1,ad,o+1,(L'.1-1,u),by rw[Int.natCast_succ],rfl,by show L'.1-1<=n;lia,?_,mu,λc' hc'=> ?_⟩
   ·show(n,f)=tm p (tm p (powT p (allT p dX<|cs.map lnP) (fS (i:Int)) o)<|fS (i:Int)) (L'.1-1,u)
    rw[e]
    conv=>lhs;rw[eu]
    rw[a91 (a:=(L'.1-1,u)) (λj hj=>mu.hi j hj) mlin.hi,a44 mlin.hi]
   ·have:=nr c' hc';rw[eu]at this;exact(cU0 mlin.hi this).1
  ·rw[a6<|show ¬ps L'.2 (-(i:Int)) (L'.1+1)%p=0 from c]
   have nr': ∀c:Nat,c<i+1->va p L' (-(c:Int))≠0:=λc' hc'=>by
    by_cases h1:c'<i
    ·exact nr c' h1
    ·rw[show c'=i by lia];exact c
   by_cases c2:(0:Int)< (o:Int)
   ·rw[a7 c2];refine⟨ac,ac,?_,cs++[((i:Int),o)],L',_,_,by rw[bM];rfl,?_,mp',?_,?_,nr',?_⟩
    ·rw[aC];exact mY lk.len (aX hi<|aL (show p.toNat<=200 by lia) ac)
    ·rw[bM,i7];exact e
    ·rw[aF0];refine⟨lk.asc,xR _ _,λa ha b hb=> ?_⟩
     rw[jQ.mp hb];exact(lk.mem a ha).2.1
    ·intro z hz;rcases bC.mp hz with hz|hz
     ·have:=lk.mem z hz;exact⟨this.1,ad,this.2.2⟩
     ·rw[jQ.mp hz];exact⟨by show(0:Int)<=(i:Int);lia,by show(i:Int)< ((i+1:Nat):Int);lia,by show 1<=o;lia⟩
    ·rw[cY];exact Nat.succ_le_succ lk.len
   ·rw[a6 c2];have o0:o=0:=ad
    subst o0;exact⟨cs,L',_,_,rfl,e,mp',lk.asc,λz hz=>⟨(lk.mem z hz).1,by have:=(lk.mem z hz).2.1;lia,(lk.mem z hz).2.2⟩,nr',aG2 lk.len⟩
 ·rintro ρ ⟨cs,L,x,y,rfl,lk⟩;dsimp only;unfold a10;walk_at "u";exact⟨ac,h cs L lk⟩
noncomputable def quF (v u:Int):Nat×(Nat->Int):=(2,λj=>if j=0 then v else if j=1 then u else if j=2 then 1 else 0)
theorem MP.qu {p v u:Int}(hp:2<=p)(v0:0<=v)(v1:v<p)(u0:0<=u)(u1:u<p):MP p (quF v u).1 (quF v u).2:=⟨rfl,λj hj=>by
  have:2<j:=hj;show(if j=0 then v else if j=1 then u else if j=2 then 1 else 0)=0;rw[a6 ad,a6 ad,a6 ad],λj=>by
  show 0<=(if j=0 then v else if j=1 then u else if j=2 then 1 else 0)/\(if j=0 then v else if j=1 then u else if j=2 then 1 else 0)<p
  split
  ·lia
  ·split
   ·lia
   ·split<;>lia⟩
theorem bL2 (v u w s:Int):conv (quF v u).2 (quF w s).2 3 0=v*w/\conv (quF v u).2 (quF w s).2 3 1=v*s+u*w/\conv (quF v u).2 (quF w s).2 3 2=v+u*s+w/\conv (quF v u).2 (quF w s).2 3 3=u+s:=by
 refine⟨?_,?_,?_,?_⟩<;>simp[conv,shF,quF]
theorem cU2 {p:Int}{f:Nat->Int}(mp:MP p 4 f){v u w s:Int}(m1:MP p (quF v u).1 (quF v u).2)(m2:MP p (quF w s).1 (quF w s).2)(hp:2<=p) :
  ((4,f):Nat×(Nat->Int))=tm p (quF v u) (quF w s)↔f 0=v*w%p/\f 1=(v*s+u*w)%p/\f 2=(v+u*s+w)%p/\f 3=(u+s)%p:=by
 obtain⟨e0,e1,e2,e3⟩:=bL2 v u w s;have mt:=MP.tm hp m1 m2;constructor
 ·intro e;have h: ∀m,f m=conv (quF v u).2 (quF w s).2 3 m%p:=λm=>congrFun (bU Prod.snd e) m
  exact⟨by rw[h 0,e0],by rw[h 1,e1],by rw[h 2,e2],by rw[h 3,e3]⟩
 ·rintro⟨h0,h1,h2,h3⟩;refine j7 rfl (funext λm=> ?_)
  show f m=conv (quF v u).2 (quF w s).2 3 m%p
  match m with
  | 0=>rw[h0,e0]
  | 1=>rw[h1,e1]
  | 2=>rw[h2,e2]
  | 3=>rw[h3,e3]
  | 4=>exact mp.top.trans mt.top.symm
  | m+5=>exact(mp.hi _ ad).trans (mt.hi (m+5)<|show 2+2<m+5 by lia).symm
def NoQ (p:Int)(F:Nat×(Nat->Int)):Prop:= ∀v u w s:Int,0<=v->v<p->0<=u->u<p->0<=w->w<p->0<=s->s<p->F≠tm p (quF v u) (quF w s)
def rS:Φ:=λds Q=> ∃(f:Nat->Int) (p:Int),ds=[aP<|rwF 5 f,.int p]/\Pr p/\MP p 4 f/\
 (∀v u w s:Int,0<=v->v<p->0<=u->u<p->0<=w->w<p->0<=s->s<p->((4,f):Nat×(Nat->Int))=tm p (quF v u) (quF w s)->Q (.ow [aP [v,u,1],aP [w,s,1]]))/\(NoQ p (4,f)->Q (.ow []))
def xE:US:=(fP<|jD aM)
def rT:US:=(aS (jL (jA<|a9 (aD 1) aM) (cM 2)<|aS (bX 3<|uOp o8 (uOp M.gSub (uIx (aV 0)<|uC<|.int 3)<|aD 2)<|aD 1)<|aS (bX 4<|uOp M.gSub (uIx (aV 0)<|uC<|.int 2)<|uOp hG (aD 2)<|aD 3)<|jL (jA<|a9 (aD 1) aM) (cM 5)<|aS (bX 6<|uOp o8 (uOp M.gSub (aD 4)<|aD 5)<|aD 1)<|iO (bQ7 (fX<|uOp (kX false) (uOp o8 (uOp hG (aD 5)<|aD 6)<|aD 1)<|uIx (aV 0)<|uC<|.int 0)<|fX<|uOp (kX false) (uOp o8 (uOp i4 (uOp hG (aD 2)<|aD 6)<|uOp hG (aD 5)<|aD 3)<|aD 1)<|uIx (aV 0)<|uC<|.int 1) (fP<|jD<|a9 (k8<|a9 (aD 5)<|a9 (aD 2)<|a9 (uC<|.int 1) aM)<|a9 (k8<|a9 (aD 6)<|a9 (aD 3)<|a9 (uC<|.int 1) aM) aM) fQ) xE)
def cH4 (p:Int)(f:Nat->Int)(u v:Int):Prop:=v*((f 2-u*((f 3-u)%p)-v)%p)%p=f 0/\(u*((f 2-u*((f 3-u)%p)-v)%p)+v*((f 3-u)%p))%p=f 1
theorem bT9 {p a b x:Int}(h0:0<=a)(h1:a<p)(h:x=(a+b)%p):(x-b)%p=a:=by
 rw[h,yP,j5,<-yP,Int.add_sub_cancel];exact dO h0 h1
theorem aW7: ∀ds Q,rS ds Q->rT {nx:=λ_=>Q (.pu .non),rt:=Q} (init ["f","p","u","s","t","v","w"] ds):=by
 rintro ds Q ⟨f,p,rfl,pp,mp,yes,no⟩;have p2:=pp.lo;have p3:=pp.hi;have a0:atI ((rwF 5 f).map D.int) 0=some (.int<|f 0):=oH (i:=0) ac
 have a1:atI ((rwF 5 f).map D.int) 1=some (.int<|f 1):=oH (i:=1) ac
 have a2:atI ((rwF 5 f).map D.int) 2=some (.int<|f 2):=oH (i:=2) ac
 have a3:atI ((rwF 5 f).map D.int) 3=some (.int<|f 3):=oH (i:=3) ac
 unfold rT;simp only[aP];show(aS _ _:US) _ [some<|.pu<|.tup<|(rwF 5 f).map .int,some<|.pu<|.int p,none,none,none,none,none];rw[aN];refine bQ p.toNat (λi=> .int (0+i)) [some<|.pu<|.tup<|(rwF 5 f).map .int,some<|.pu<|.int p,none,none,none,none,none] ?_
  (λi ρ=> ∃x y z a b,ρ=[some<|.pu<|.tup<|(rwF 5 f).map .int,some<|.pu<|.int p,x,y,z,a,b]/\ ∀u v:Nat,u<i->v<p.toNat-> ¬cH4 p f (u:Int) (v:Int))
  ⟨none,none,none,none,none,rfl,λu v hu=>ad⟩ ?_ ?_
 ·intro Q' q;walk_at "u";refine⟨⟨ad,ad⟩,?_⟩
  exact q
 ·rintro i ρ hi ⟨x,y,z,a,b,rfl,nh⟩;rw[bN];walk_at "u";rw[a3];dsimp only;refine⟨ae,ad,?_⟩
  rw[dL _ ad,a2]
  dsimp only;have s0:=cR (f 3-(i:Int)) (show p≠0 by lia)
  have s1:=cP (f 3-(i:Int)) (show 0<p by lia)
  generalize hS:(f 3-(i:Int))%p=S at *;refine⟨cmL ad ad,?_⟩
  refine bQ p.toNat (λi=> .int (0+i)) [some<|.pu<|.tup<|(rwF 5 f).map .int,some<|.pu<|.int p,some<|.pu<|.int (i:Int),some<|.pu<|.int S,some<|.pu<|.int<|f 2-(i:Int)*S,a,b] ?_
   (λj ρ=> ∃a b,ρ=[some<|.pu<|.tup<|(rwF 5 f).map .int,some<|.pu<|.int p,some<|.pu<|.int (i:Int),some<|.pu<|.int S,some<|.pu<|.int<|f 2-(i:Int)*S,a,b]/\ ∀v:Nat,v<j-> ¬cH4 p f (i:Int) (v:Int))
   ⟨a,b,rfl,λv hv=>ad⟩ ?_ ?_
  ·intro Q' q;walk_at "u";refine⟨⟨ad,ad⟩,?_⟩
   exact q
  ·rintro j ρ hj ⟨a,b,rfl,nj⟩;rw[bN];walk_at "u";refine⟨ae,ad,?_⟩
   rw[dL _ ad]
   have w0:=cR (f 2-(i:Int)*S-(j:Int)) (show p≠0 by lia)
   have w1:=cP (f 2-(i:Int)*S-(j:Int)) (show 0<p by lia)
   generalize hW:(f 2-(i:Int)*S-(j:Int))%p=W at *;refine⟨cmL ad ad,ad,?_⟩
   rw[dL _ ad,a0]
   dsimp only
   have step: ¬cH4 p f (i:Int) (j:Int)-> ∃a b,[some<|B.pu<|.tup<|(rwF 5 f).map .int,some<|.pu<|.int p,some<|.pu<|.int (i:Int),some<|.pu<|.int S,some<|.pu<|.int<|f 2-(i:Int)*S,some<|.pu<|.int (j:Int),some<|.pu<|.int W]=[some<|.pu<|.tup<|(rwF 5 f).map .int,some<|.pu<|.int p,some<|.pu<|.int (i:Int),some<|.pu<|.int S,some<|.pu<|.int<|f 2-(i:Int)*S,a,b]/\ ∀v:Nat,v<j+1-> ¬cH4 p f (i:Int) (v:Int):=λnh'=>⟨_,_,rfl,λv hv=>by
    by_cases h1:v<j
    ·exact nj v h1
    ·rw[show v=j by lia];exact nh'⟩
   by_cases c1:(j:Int)*W%p=f 0
   ·rw[a7 c1];refine⟨cmL ad ad,cmL ad ad,ad,?_⟩
    rw[dL _ ad,a1]
    dsimp only
    by_cases c2:((i:Int)*W+(j:Int)*S)%p=f 1
    ·rw[a7 c2];refine⟨ac,ac,ac,yes (j:Int) (i:Int) W S ad ad ad ad w0 w1 s0 s1<|(cU2 mp (MP.qu p2 ad ad ad ad) (MP.qu p2 w0 w1 s0 s1) p2).mpr ⟨c1.symm,by rw[<-c2,yQ],?_,?_⟩⟩
     ·rw[<-hW,iF,j5,<-iF];have:(j:Int)+(i:Int)*S+(f 2-(i:Int)*S-(j:Int))=f 2:=ad
      rw[this];exact(dO (mp.rng 2).1 (mp.rng 2).2).symm
     ·rw[<-hS,iF,j5,<-iF];have:(i:Int)+(f 3-(i:Int))=f 3:=ad
      rw[this];exact(dO (mp.rng 3).1 (mp.rng 3).2).symm
    ·rw[a6 c2];exact step λz=>c2 (by have:=z.2;unfold cH4 at z;rw[hS,hW]at this;exact this)
   ·rw[a6 c1];exact step λz=>c1 (by have:=z.1;rw[hS,hW]at this;exact this)
  ·rintro ρ ⟨a,b,rfl,nj⟩;refine⟨_,_,_,_,_,rfl,λu v hu hv=> ?_⟩
   by_cases h1:u<i
   ·exact nh u v h1 hv
   ·rw[show u=i by lia];exact nj v hv
 ·rintro ρ ⟨x,y,z,a,b,rfl,nh⟩;dsimp only;unfold xE;walk_at "u";refine⟨ac,no ?_⟩
  intro v u w s v0 v1 u0 u1 w0 w1 s0 s1 e;obtain⟨h0,h1,h2,h3⟩:=(cU2 mp (MP.qu p2 v0 v1 u0 u1) (MP.qu p2 w0 w1 s0 s1) p2).mp e;obtain⟨v',rfl⟩: ∃v':Nat,v=(v':Int):=⟨v.toNat,ad⟩
  obtain⟨u',rfl⟩: ∃u':Nat,u=(u':Int):=⟨u.toNat,ad⟩
  refine nh u' v' ad ad ?_
  have es:(f 3-(u':Int))%p=s:=bT9 s0 s1 (by rw[h3,yQ])
  have ew:(f 2-(u':Int)*s-(v':Int))%p=w:=by
   have:=bT9 (x:=f 2) (b:=(v':Int)+(u':Int)*s) w0 w1 (by rw[h2,yQ w])
   rw[<-this]
   congr 1
   lia
  unfold cH4;rw[es,ew];exact⟨h0.symm,by rw[h1,yQ]⟩
theorem at0 {a b:D}:atI [a,b] 0=some a:=cW (j:=0) rfl
theorem at1 {a b:D}:atI [a,b] 1=some b:=cW (j:=1) rfl
def NoR (p:Int)(F:Nat×(Nat->Int)):Prop:= ∀c:Nat,c<p.toNat->va p F (-(c:Int))≠0
def ltP (x y:(Nat×(Nat->Int))×Nat):Prop:=x.1.1<y.1.1\/(x.1.1=y.1.1/\ltL (rwF (x.1.1+1) x.1.2) (rwF (y.1.1+1) y.1.2)=true)
structure RL (p:Int)(F:Nat×(Nat->Int))(rs:List ((Nat×(Nat->Int))×Nat)):Prop where
 prod: ∀a:Nat×(Nat->Int),MP p a.1 a.2->allT p a rs=tm p a F
 mem: ∀x∈rs,MP p x.1.1 x.1.2/\2<=x.1.1/\x.1.1<=4/\1<=x.2/\x.2<=2/\NoR p x.1/\(x.1.1=4->NoQ p x.1)
 ord:rs.Pairwise ltP
 len:rs.length<=2
theorem d82 {p:Int}(hp:2<=p){a:Nat×(Nat->Int)}(ha:MP p a.1 a.2):tm p a dX=a:=by
 rw[a91 ha.hi (MP.one hp).hi,b30 ha]
theorem RL.single {p:Int}{F:Nat×(Nat->Int)}(mp:MP p F.1 F.2)(h2:2<=F.1)(h4:F.1<=4)(nr:NoR p F)(nq:F.1=4->NoQ p F):RL p F [(F,1)]:=
 ⟨λa _=>rfl,λx hx=>by rw[jQ.mp hx];exact⟨mp,h2,h4,aB _,show 1<=2 by decide,nr,nq⟩,xR _ _,show 1<=2 by decide⟩
theorem row_lt {v u w s:Int}(h: ¬(v=w/\u=s)):ltL [w,s,1] [v,u,1]=false->ltL [v,u,1] [w,s,1]=true:=by
 unfold ltL
 by_cases c:v=w
 ·rw[a7 c,a7 c.symm];unfold ltL;have:u≠s:=λz=>h ⟨c,z⟩
  rw[a6 this,a6 λz=>this z.symm]
  simp only[aD7,fV]
  lia
 ·rw[a6 c,a6 λz=>c z.symm]
  simp only[aD7,fV]
  lia
def mC:Φ:=λds Q=> ∃(n:Nat) (f:Nat->Int) (p:Int),ds=[aP<|rwF (n+1) f,.int p]/\n<=4/\Pr p/\MP p n f/\NoR p (n,f)/\ ∀rs,RL p (n,f) rs->Q (.ow<|rs.map a46)
def rD:US:=(fP<|gD [] [none,none] 1 (iJ<|aW c30<|a9 (aD 2) aM) (cM 0) (λρ Q=>Q true ρ)<|k8<|a9 (aD 0)<|a9 (uC<|.int 1) aM)
def rE:US:=(aS (iO (fX<|uOp (gEqD false) (uIx (aV 2)<|uC<|.int 0)<|uIx (aV 2)<|uC<|.int 1) (fP<|jD<|a9 (k8<|a9 (uIx (aV 2)<|uC<|.int 0)<|a9 (uC<|.int 2) aM) aM) fQ) rD)
def iX:US:=(aS (iO (fX<|uOp (kX false) (kA<|aV 2)<|uC<|.int 0) (fP<|jD<|a9 (k8<|a9 (aD 0)<|a9 (uC<|.int 1) aM) aM) fQ) rE)
def rF:US:=(aS (bX 2<|uIf (fX<|uOp (kX false) (kA<|aV 0)<|uC<|.int 5) (aW rS<|a9 (aD 0)<|a9 (aD 1) aM)<|jD aM) iX)
def mD:US:=(aS (iO (fX<|uOp (kX false) (kA<|aV 0)<|uC<|.int 1) (fP<|jD aM) fQ) rF)
theorem cU3 {p:Int}(pp:Pr p){F:Nat×(Nat->Int)}(mp:MP p F.1 F.2)(h1:F.1=1)(nr:NoR p F):False:=by
 have p2:=pp.lo;have r:=mp.rng 0;refine nr (F.2 0).toNat ad ?_
 unfold va;rw[h1,show(((F.2 0).toNat:Nat):Int)=F.2 0 by lia]
 have t:F.2 1=1:=by have:=mp.top;rw[h1]at this;exact this
 show(0+F.2 0*(-F.2 0)^0+F.2 1*(-F.2 0)^1)%p=0
 rw[t,cL,gW,cL];have:0+F.2 0*1+1*(1* -F.2 0)=0:=ad
 rw[this,cJ]
theorem aA0: ∀ds Q,mC ds Q->mD {nx:=λ_=>Q (.pu .non),rt:=Q} (init ["f","p","a"] ds):=by
 rintro ds Q ⟨n,f,p,rfl,n4,pp,mp,nr,h⟩;have p2:=pp.lo;unfold mD;simp only[aP];show(aS _ _:US) _ [some<|.pu<|.tup<|(rwF (n+1) f).map .int,some<|.pu<|.int p,none];rw[aN];walk_at "u";rw[eK]
 by_cases n0:n=0
 ·rw[a7 ad]
  subst n0;refine⟨ac,h [] ⟨λa ha=> ?_,ae,.nil,ac⟩⟩
  have e:((0,f):Nat×(Nat->Int))=dX:=j7 rfl (funext λj=>by
   show f j=if j=0 then 1 else 0
   by_cases c:j=0
   ·rw[a7 c,c];exact mp.top
   ·rw[a6 c];exact mp.hi j ad)
  rw[e,d82 p2 ha];rfl
 rw[a6 ad]
 have n1:n≠1:=λz=>cU3 pp (F:=(n,f)) mp z nr
 have alone:(n=4->NoQ p (n,f))->iX {nx:=λ_=>Q (.pu .non),rt:=Q} [some<|.pu<|.tup<|(rwF (n+1) f).map .int,some<|.pu<|.int p,some<|.ow []]:=λnq=>by
  unfold iX;rw[aN];walk_at "u";rw[a7<|by rfl]
  exact⟨ac,ac,h [((n,f),1)]<|RL.single mp (by show 2<=n;lia) n4 nr nq⟩
 unfold rF;rw[aN];walk_at "u";simp only[uIf,kA,aV,bQ6,uC,isB,B.d,oS,kX,pA,eK]
 by_cases c:n=4
 ·subst c;rw[a7<|by rfl]
  refine⟨f,p,rfl,pp,mp,λv u w s v0 v1 u0 u1 w0 w1 s0 s1 e=> ?_,λnq=> ?_⟩
  ·have m1:=MP.qu p2 v0 v1 u0 u1;have m2:=MP.qu p2 w0 w1 s0 s1;have k1:NoR p (quF v u):=λc hc=>by have:=nr c hc;rw[e]at this;exact(cU0 m2.hi this).1
   have k2:NoR p (quF w s):=λc hc=>by have:=nr c hc;rw[e]at this;exact(cU0 m2.hi this).2
   dsimp only;simp only[aP];unfold iX;rw[aN];walk_at "u";rw[a6 ac]
   unfold rE;rw[aN];walk_at "u";rw[at0,at1];dsimp only;refine cT0 ?_
   by_cases c:[v,u,(1:Int)]=[w,s,1]
   ·have c1:v=w:=by simp at c;exact c.1
    have c2:u=s:=by simp at c;exact c.2
    subst c1 c2;rw[gG rfl];dsimp only;rw[a7 ac]
    refine⟨ac,ac,h [(quF v u,2)] ⟨λa ha=> ?_,λx hx=> ?_,xR _ _,show 1<=2 by decide⟩⟩
    ·show tm p (tm p a<|quF v u) (quF v u)=tm p a (4,f)
     rw[e,a44 m1.hi]
    ·rw[jQ.mp hx];exact⟨m1,aB _,show 2<=4 by decide,show 1<=2 by decide,aB _,k1,λz=>by cases z⟩
   ·rw[fF c];dsimp only;rw[a6 ac]
    have nc: ¬(v=w/\u=s):=λz=>c (by rw[z.1,z.2])
    unfold rD;rw[qS];have fin2: ∀(v u w s:Int),MP p (quF v u).1 (quF v u).2->MP p (quF w s).1 (quF w s).2->NoR p (quF v u)->NoR p (quF w s)->((4,f):Nat×(Nat->Int))=tm p (quF v u) (quF w s)->ltL [v,u,1] [w,s,1]=true->Q (.ow [.tup [.tup<|[v,u,1].map D.int,.int 1],.tup [.tup<|[w,s,1].map D.int,.int 1]]):=λv u w s m1 m2 k1 k2 e lt=>by
     refine h [(quF v u,1),(quF w s,1)] ⟨λa ha=> ?_,λx hx=> ?_,?_,aB _⟩
     ·show tm p (tm p a<|quF v u) (quF w s)=tm p a (4,f)
      rw[e,a44 m1.hi]
     ·rcases aY.mp hx with rfl|hx
      ·exact⟨m1,aB _,show 2<=4 by decide,aB _,show 1<=2 by decide,k1,λz=>by cases z⟩
      ·rw[jQ.mp hx];exact⟨m2,aB _,show 2<=4 by decide,aB _,show 1<=2 by decide,k2,λz=>by cases z⟩
     ·refine aF7.mpr ⟨λy hy=> ?_,xR _ _⟩
      rw[jQ.mp hy];exact .inr ⟨rfl,lt⟩
    refine gL (t0:=0) 2 (λk=>(if ltL [w,s,1] [v,u,1]=true then [D.tup<|[w,s,1].map D.int,.tup<|[v,u,1].map D.int]else [.tup<|[v,u,1].map D.int,.tup<|[w,s,1].map D.int]).getD k .non) [some<|.pu<|.tup<|(rwF (4+1) f).map .int,some<|.pu<|.int p,some<|.pu<|.lst [.tup<|[v,u,1].map D.int,.tup<|[w,s,1].map D.int]] ?_ ac (λx l'=>[x,some<|.ow l']) none rfl (λ_ _ _=>rfl) (λ_ _=>cQ _) (λ_ _ _ q=>q) (λ_ _ _=>rfl)
     (λk=> .tup [(if ltL [w,s,1] [v,u,1]=true then [D.tup<|[w,s,1].map D.int,.tup<|[v,u,1].map D.int]else [.tup<|[v,u,1].map D.int,.tup<|[w,s,1].map D.int]).getD k .non,.int 1]) ?_ ?_
    ·intro Q' q;walk_at "u";refine⟨v,w,[u,1],[s,1],rfl,?_⟩;cases l:ltL [w,s,1] [v,u,1]
     ·rw[l]at q;exact q
     ·rw[l]at q;exact q
    ·intro k l' Q' hk q;walk_at "u";exact⟨ac,q⟩
    ·cases l:ltL [w,s,1] [v,u,1]
     ·exact fin2 v u w s m1 m2 k1 k2 e (row_lt nc l)
     ·exact fin2 w s v u m2 m1 k2 k1 (by rw[e,a91 m1.hi m2.hi]) l
  ·exact alone λ_=>nq
 ·rw[a6 (by simp;lia)]
  refine⟨ac,?_⟩
  exact alone λz=>absurd z c
structure SP (p:Int)(F:Nat×(Nat->Int))(xs:List ((Nat×(Nat->Int))×Nat)):Prop where
 prod:allT p dX xs=F
 mem: ∀x∈xs,MP p x.1.1 x.1.2/\1<=x.1.1/\x.1.1<=4/\1<=x.2/\x.2<=4/\(2<=x.1.1->NoR p x.1)/\(x.1.1=4->NoQ p x.1)
 ord:xs.Pairwise ltP
 len:xs.length<=300
theorem SP.of {p:Int}(pp:Pr p){F L:Nat×(Nat->Int)}{cs:List (Int×Nat)}{rs:List ((Nat×(Nat->Int))×Nat)}(h4:F.1<=4)(lk:LK p F p.toNat cs L)(rl:RL p L rs):SP p F (cs.map lnP++rs):=by
 have p2:=pp.lo;have p3:=pp.hi;have rg: ∀x∈cs,0<=x.1/\x.1<p:=λx hx=>⟨(lk.mem x hx).1,by have:=(lk.mem x hx).2.1;lia⟩
 have mcs:=cA6 p2 rg;have mA:=MP.allT p2 (cs.map lnP) (MP.one p2) mcs;refine⟨by rw[i7,rl.prod _ mA];exact lk.prod.symm,λx hx=> ?_,?_,?_⟩
 ·rcases bC.mp hx with hx|hx
  ·obtain⟨y,hy,rfl⟩:=dU.mp hx;have hd:=a45 p (cs.map lnP) dX (lnP y) hx;have e:F.1=(allT p dX<|cs.map lnP).1+L.1:=bU Prod.fst lk.prod;have hd':0+1*y.2<=(allT p dX<|cs.map lnP).1:=hd;refine⟨mcs _ hx,aB _,show 1<=4 by decide,(lk.mem y hy).2.2,show y.2<=4 by lia,λz=> ?_,λz=> ?_⟩
   ·have:2<=1:=z
    lia
   ·have:1=4:=z
    lia
  ·obtain⟨a,b,c,d,e,f,g⟩:=rl.mem x hx;exact⟨a,ad,c,d,ad,λ_=>f,g⟩
 ·rw[aF0];refine⟨?_,rl.ord,λx hx y hy=> ?_⟩
  ·rw[List.pairwise_map];refine lk.asc.imp λ{a b} h=> .inr ⟨rfl,?_⟩
   show ltL [a.1,1] [b.1,1]=true
   unfold ltL;rw[a6 ad,gG h]
  ·obtain⟨z,hz,rfl⟩:=dU.mp hx;have:=(rl.mem y hy).2.1;exact .inl (show 1<y.1.1 by lia)
 ·have a:=lk.len;have b:=rl.len;rw[cY,aC]
  lia
def vY:Φ:=λds Q=> ∃(n:Nat) (g:Nat->Int) (p:Int),ds=[aP<|rwF (n+1) g,.int p]/\n<=4/\p∈prL/\MP p n (md p g)/\ ∀xs,SP p (n,md p g) xs->Q (.ow<|xs.map a46)
def a47:US:=(fP<|uOp i4 (aD 2)<|aW mC<|a9 (aD 3)<|a9 (aD 1) aM)
def a48:US:=(aS (cN7 (aW uA<|a9 (aW j9<|a9 (aD 0)<|a9 (aD 1) aM)<|a9 (aD 1) aM)<|vB<|gQ 2<|gQ 3 v9) a47)
def vZ:US:=(aS (iO (fX<|uOp (gIn true) (aD 1)<|aW kM aM) (λ_ _=>False) fQ) a48)
theorem b98: ∀ds Q,vY ds Q->vZ {nx:=λ_=>Q (.pu .non),rt:=Q} (init ["f","p","a","l"] ds):=by
 rintro ds Q ⟨n,g,p,rfl,n4,hp,mp,h⟩;have pp:=a43 hp;have p2:=pp.lo;unfold vZ;show(aS _ _:US) _ [some<|.pu<|aP<|rwF (n+1) g,some<|.pu<|.int p,none,none];rw[aN];walk_at "u";refine⟨rfl,p,T_SMALL_PRIMES,rfl,.inr<|.inl rfl,?_⟩;rw[gG (show p∈T_SMALL_PRIMES by rw[<-bK9];exact hp)]
 dsimp only;rw[a6 ac]
 unfold a48;rw[aN];walk_at "u";refine⟨n+1,g,p,rfl,ad,ad,?_⟩
 walk_at "u"
 have e:gP (md p g) (n+1)=n+1:=sO (aB _) (λm h1 h2=>ad) (.inr (by rw[mZ,mp.top];decide))
 rw[e];refine⟨n,md p g,p,rfl,ad,pp,mp,λcs L lk=> ?_⟩
 walk_at "u"
 refine⟨ac,ac,trivial,?_⟩
 unfold a47;rw[qS,c45];walk_at "u";have hL:L.1<=4:=by
  have e:n=(allT p dX<|cs.map lnP).1+L.1:=bU Prod.fst lk.prod
  lia
 refine⟨L.1,L.2,p,rfl,hL,pp,lk.mp,lk.nr,λrs rl=> ?_⟩
 have sp:=SP.of pp (F:=(n,md p g)) n4 lk rl;have e2:(cs.map λx=>a46 (lnP x))++rs.map a46=(cs.map lnP++rs).map a46:=by rw[bM,gU];rfl
 walk_at "u"
 rw[e2];refine⟨?_,h _ sp⟩;rw[<-cY,e2,aC];exact aL sp.len ac
noncomputable def stB (xs:List ((Nat×(Nat->Int))×Nat)):Bool:=match xs with
 | [x]=>decide (x.2=1)
 | _=>false
theorem bF4 {p:Int}(hp:2<=p){g a h:Nat×(Nat->Int)}(ma:MP p a.1 a.2)(mh:MP p h.1 h.2): ∀k,powT p (tm p g a) h k=tm p g (powT p a h k)
 | 0=>rfl
 | k+1=>by
  show tm p (powT p (tm p g a) h k) h=tm p g (tm p (powT p a h k) h)
  rw[bF4 hp ma mh k,a44 (MP.powT hp ma mh k).hi]
theorem aR6 {p:Int}(hp:2<=p){g:Nat×(Nat->Int)}: ∀(l:List ((Nat×(Nat->Int))×Nat)) {a:Nat×(Nat->Int)},MP p a.1 a.2->(∀x∈l,MP p x.1.1 x.1.2)->allT p (tm p g a) l=tm p g (allT p a l)
 | [],a,_,_=>rfl
 | x::l,a,ma,h=>by
  show allT p (powT p (tm p g a) x.1 x.2) l=tm p g (allT p (powT p a x.1 x.2) l)
  rw[bF4 hp ma<|h x<|.head _,aR6 hp l (MP.powT hp ma (h x<|.head _) x.2) λy hy=>h y (.tail _ hy)]
theorem aR7 {p:Int}{F:Nat×(Nat->Int)}(mp:MP p F.1 F.2)(h2:F.1=2):F=quF (F.2 0) (F.2 1):=by
 refine j7 h2 (funext λj=> ?_)
 show F.2 j=if j=0 then F.2 0 else if j=1 then F.2 1 else if j=2 then 1 else 0
 by_cases c0:j=0
 ·rw[a7 c0,c0]
 ·by_cases c1:j=1
  ·rw[a6 c0,a7 c1,c1]
  ·by_cases c2:j=2
   ·rw[a6 c0,a6 c1,a7 c2,c2];have:=mp.top;rw[h2]at this;exact this
   ·rw[a6 c0,a6 c1,a6 c2];exact mp.hi j ad
theorem bU0 {js:List Nat}{cap:List (Option Nat)}{last t0 t1:Nat}{ui:UI}{te:UE}{ρ:Ev}{Q:B->Ev->Prop}(n:Nat)(it i1 i2:Nat->D)(hit: ∀i,i<n->it i= .tup [i1 i,i2 i])(ρ1:Ev)(hui: ∀Q:Nat->(Nat->D)->Ev->Prop,Q n it ρ1->ui ρ Q)(hn:n<=1000000)
  (G:Option B->Option B->List D->Ev) (x0 y0:Option B) (h0:sF (a31 ρ1 js) cap last=G x0 y0 []) (h1: ∀x y l b c,((G x y l).set t0<|some b).set t1 (some c)=G (some b) (some c) l) (h1': ∀x y l,t0< (G x y l).length/\t1< (G x y l).length)
  (h2: ∀x y l (Q:List D->Prop),Q l->nX (G x y l) last Q) (h3: ∀x y l l',(G x y l).set last (some<|.ow l')=G x y l')
  (f:Nat->D) (hte: ∀i l (Q':B->Ev->Prop),i<n->Q' (.pu<|f i) (G (some<|.pu<|i1 i) (some<|.pu<|i2 i) l)->te (G (some<|.pu<|i1 i) (some<|.pu<|i2 i) l) Q') (hq:Q (.ow<|(List.range n).map f) (a31 ρ1 js)) :
  gD js cap last ui (vB<|gQ t0<|gQ t1 v9) (λρ Q=>Q true ρ) te ρ Q:=by
 refine hui _ ⟨λi ρ'=> ∃x y,ρ'=G x y ((List.range i).map f),⟨x0,y0,h0⟩,?_,?_⟩
 ·rintro i ρ' hi ⟨x,y,rfl⟩;rw[hit i hi];refine⟨(h1' _ _ _).1,by rw[fG];exact(h1' _ _ _).2,rfl,?_⟩
  rw[h1];dsimp only;rw[a7 rfl];refine hte i _ _ hi (h2 _ _ _ _ ⟨?_,some<|.pu<|i1 i,some<|.pu<|i2 i,?_⟩)
  ·rw[aC,nA];exact aX hi (aL hn ac)
  ·rw[h3,aT,bM];rfl
 ·rintro ρ' ⟨x,y,rfl⟩;exact h2 _ _ _ _ hq
inductive b32 (c:Nat->Bool) (R:Nat->D->Prop):Nat->List D->Prop
 | nil:b32 c R 0 []
 | yes {i:Nat} {l:List D} {d:D} (h:b32 c R i l) (hc:c i=true) (hd:R i d):b32 c R (i+1) (l++[d])
 | no {i:Nat} {l:List D} (h:b32 c R i l) (hc:c i=false):b32 c R (i+1) l
theorem b32.fn {c:Nat->Bool}{R:Nat->D->Prop}{n:Nat}{l:List D}(h:b32 c R n l): ∃g:Nat->D,(∀i,i<n->c i=true->R i (g i))/\l=((List.range n).filter c).map g:=by
 induction h with
 | nil=>exact⟨λ_=> .non,λi hi=>absurd hi (Nat.not_lt_zero _),rfl⟩
 | @yes i l d h hc hd ih=>
  obtain⟨g,g1,g2⟩:=ih;refine⟨λj=>if j=i then d else g j,λj hj cj=> ?_,?_⟩
  ·by_cases e:j=i
   ·show R j (if j=i then d else g j)
    rw[a7 e,e];exact hd
   ·show R j (if j=i then d else g j)
    rw[a6 e];exact g1 j ad cj
  ·rw[aT,aF8,bM,g2]
   congr 1
   ·refine t9 λj hj=> ?_
    have:=dE.mp (nE.mp hj).1;rw[a6 ad]
   ·simp[hc]
 | @no i l h hc ih=>
  obtain⟨g,g1,g2⟩:=ih;refine⟨g,λj hj cj=> ?_,?_⟩
  ·by_cases e:j=i
   ·rw[e,hc]at cj;cases cj
   ·exact g1 j ad cj
  ·rw[aT,aF8,bM,g2];simp[hc]
theorem b32.len {c:Nat->Bool}{R:Nat->D->Prop}{n:Nat}{l:List D}(h:b32 c R n l):l.length<=n:=by
 induction h with
 | nil=>exact aB _
 | yes h hc hd ih=>rw[cY];exact Nat.succ_le_succ ih
 | no h hc ih=>exact aG2 ih
theorem cH5 {js:List Nat}{cap:List (Option Nat)}{last t0:Nat}{ui:UI}{tt:UT}{te:UE}{ρ:Ev}{Q:B->Ev->Prop}(n:Nat)(it:Nat->D)(ρ1:Ev)(hui: ∀Q:Nat->(Nat->D)->Ev->Prop,Q n it ρ1->ui ρ Q)(hn:n<=1000)
  (G:Option B->List D->Ev) (x0:Option B) (h0:sF (a31 ρ1 js) cap last=G x0 []) (h1: ∀x l b,(G x l).set t0 (some b)=G (some b) l) (h1': ∀x l,t0< (G x l).length) (h2: ∀x l (Q:List D->Prop),Q l->nX (G x l) last Q) (h3: ∀x l l',(G x l).set last (some<|.ow l')=G x l')
  (c:Nat->Bool) (R:Nat->D->Prop) (htt: ∀i l (Q':Bool->Ev->Prop),i<n->Q' (c i) (G (some<|.pu<|it i) l)->tt (G (some<|.pu<|it i) l) Q')
  (hte: ∀i l (Q':B->Ev->Prop),i<n->c i=true->(∀d,R i d->Q' (.pu d) (G (some<|.pu<|it i) l))->te (G (some<|.pu<|it i) l) Q') (hq: ∀l:List D,b32 c R n l->Q (.ow l) (a31 ρ1 js)) :
  gD js cap last ui (cM t0) tt te ρ Q:=by
 refine hui _ ⟨λi ρ'=> ∃x l,b32 c R i l/\ρ'=G x l,⟨x0,[],.nil,h0⟩,?_,?_⟩
 ·rintro i ρ' hi ⟨x,l,hl,rfl⟩;refine⟨h1' _ _,?_⟩;rw[h1];dsimp only;refine htt i _ _ hi ?_
  by_cases hc:c i=true
  ·rw[a7 hc];refine hte i _ _ hi hc λd hd=>h2 _ _ _ ⟨?_,some<|.pu<|it i,l++[d],.yes hl hc hd,?_⟩
   ·exact mY hl.len (aX hi<|aL hn ac)
   ·rw[h3];rfl
  ·rw[a6 hc];exact⟨some<|.pu<|it i,l,.no hl<|by simpa using hc,rfl⟩
 ·rintro ρ' ⟨x,l,hl,rfl⟩;exact h2 _ _ _ (hq l hl)
noncomputable def uD (n:Nat)(f:Nat->Int)(g:Nat×(Nat->Int)):List Int:=rwF (gP (divL g.2 g.1 (n+1-g.1) f)<|n+1) (divL g.2 g.1 (n+1-g.1) f)
noncomputable def ptD (n:Nat)(f:Nat->Int)(x:(Nat×(Nat->Int))×Nat):D:= .tup [aP<|rwF (x.1.1+1) x.1.2,.int (x.2:Int),aP<|uD n f x.1]
def w6:Φ:=λds Q=> ∃(n:Nat) (f:Nat->Int) (p:Int),ds=[aP<|rwF (n+1) f,.int p]/\n<=4/\p∈prL/\MP p n (md p f)/\(∀j,(f j).natAbs<=2^9)/\ ∀xs,SP p (n,md p f) xs->Q (.ow<|xs.map<|ptD n f)
def w8:US:=(fP<|gD [0] [none,none,some 0,none] 3 (iJ<|aW vY<|a9 (aD 0)<|a9 (aD 1) aM) (vB<|gQ 0<|gQ 1 v9) (λρ Q=>Q true ρ)<|k8<|a9 (aD 0)<|a9 (aD 1)<|a9 (uIx (uV<|aW gN<|a9 (aD 2)<|a9 (aD 0) aM)<|uC<|.int 1) aM)
theorem cA7 {p:Int}(pp:Pr p){n:Nat}{f:Nat->Int}(n4:n<=4)(fb: ∀j,(f j).natAbs<=2^9){g:Nat×(Nat->Int)}(mg:MP p g.1 g.2)(g4:g.1<=4):cT2 (n+1) g.1 9 8 f g.2:=
 ⟨ad,ad,mg.top,mg.hi,λm _=>fb m,λj=>cU1 pp mg j,ad,ac⟩
theorem b99: ∀ds Q,w6 ds Q->w8 {nx:=λ_=>Q (.pu .non),rt:=Q} (init ["f","p"] ds):=by
 rintro ds Q ⟨n,f,p,rfl,n4,hp,mp,fb,h⟩;have pp:=a43 hp;unfold w8;show(fP _:US) _ [some<|.pu<|aP<|rwF (n+1) f,some<|.pu<|.int p];rw[qS]
 have key: ∀xs,SP p (n,md p f) xs->gD [0] [none,none,some 0,none] 3 (λρ Q=>Q (xs.map a46).length (λi=>(xs.map a46).getD i .non) ρ) (vB<|gQ 0<|gQ 1 v9) (λρ Q=>Q true ρ) (k8<|a9 (aD 0)<|a9 (aD 1)<|a9 (uIx (uV<|aW gN<|a9 (aD 2)<|a9 (aD 0) aM)<|uC<|.int 1) aM) [some<|.pu<|aP<|rwF (n+1) f,some<|.pu<|.int p] λb _=>Q b:=by
  intro xs sp
  refine bU0 (t0:=0) (t1:=1) xs.length (λi=>(xs.map a46).getD i .non) (λi=>aP (rwF ((xs.getD i (dX,0)).1.1+1) (xs.getD i (dX,0)).1.2)) (λi=> .int ((xs.getD i (dX,0)).2:Int)) (λi hi=> ?_) [some<|.pu<|aP<|rwF (n+1) f,some<|.pu<|.int p] (λQ' q=> ?_) (aL sp.len ac) (λx y l=>[x,y,some<|.pu<|aP<|rwF (n+1) f,some<|.ow l]) none none rfl (λ_ _ _ _ _=>rfl) (λ_ _ _=>⟨ae,ae⟩) (λ_ _ _ _ q=>q) (λ_ _ _ _=>rfl) (λi=>ptD n f (xs.getD i (dX,0))) ?_ ?_
  ·rw[aG,bJ,aG,aJ hi];rfl
  ·rw[aC];exact q
  ·intro i l Q' hi q;have hm:xs.getD i (dX,0)∈xs:=by
    rw[aG,aJ hi];exact bT hi
   obtain⟨mx,x1,x4,_⟩:=sp.mem _ hm;generalize xs.getD i (dX,0)=x at *;walk_at "u";refine⟨n+1,x.1.1,9,8,f,x.1.2,rfl,cA7 pp n4 fb mx x4,?_⟩;walk_at "u";rw[at1];exact⟨ac,q⟩
  ·have e:(List.range xs.length).map (λi=>ptD n f (xs.getD i (dX,0)))=xs.map (ptD n f):=by
    apply jT
    ·simp
    ·intro i h1 h2;simp at h1;simp[aG,h1]
   rw[e];exact h xs sp
 exact⟨n,f,p,rfl,n4,hp,mp,λxs sp=>key xs sp⟩
structure RF (n:Nat)(f:Nat->Int):Prop where
 n1:1<=n
 n4:n<=4
 top:f n=1
 hi: ∀j,n<j->f j=0
 fb: ∀j,(f j).natAbs<=2^9
theorem RF.mp {n:Nat}{f:Nat->Int}(h:RF n f){p:Int}(hp:2<=p):MP p n (md p f):=by
 refine⟨?_,λj hj=> ?_,λj=>⟨cR _ ad,cP _ ad⟩⟩
 ·show f n%p=1
  rw[h.top];exact dO ac ad
 ·show f j%p=0
  rw[h.hi j hj,cJ]
noncomputable def d83 (n:Nat)(f:Nat->Int)(xf:Int->List ((Nat×(Nat->Int))×Nat))(p:Int):D:= .tup [.int p,.lst<|(xf p).map<|ptD n f]
noncomputable def sqB (size p:Int):Bool:=decide (size%(p*p)=0)
noncomputable def cU4 (n:Nat)(f:Nat->Int)(size:Int)(xf:Int->List ((Nat×(Nat->Int))×Nat)):List D:=(prL.filter<|sqB size).map (d83 n f xf)
def SPs (n:Nat)(f:Nat->Int)(size:Int)(xf:Int->List ((Nat×(Nat->Int))×Nat)):Prop:= ∀p∈prL,sqB size p=true->SP p (n,md p f) (xf p)
def uE:Φ:=λds Q=> ∃(n:Nat) (f:Nat->Int) (size:Int),ds=[aP<|rwF (n+1) f,.int size]/\RF n f/\ ∀xf,SPs n f size xf->Q (.ow<|cU4 n f size xf)
def uF:US:=(fP<|gD [0,1] [none,some 0,some 1,none] 3 (iJ<|aW kM aM) (cM 0) (fX<|uOp (kX false) (uOp o8 (aD 2)<|uOp hG (aD 0)<|aD 0)<|uC<|.int 0)<|k8<|a9 (aD 0)<|a9 (aW w6<|a9 (aD 1)<|a9 (aD 0) aM) aM)
theorem b33: ∀ds Q,uE ds Q->uF {nx:=λ_=>Q (.pu .non),rt:=Q} (init ["f","s"] ds):=by
 rintro ds Q ⟨n,f,size,rfl,rf,h⟩;unfold uF;show(fP _:US) _ [some<|.pu<|aP<|rwF (n+1) f,some<|.pu<|.int size];rw[qS];have et: ∀i,i<46->(T_SMALL_PRIMES.map D.int).getD i .non= .int (T_SMALL_PRIMES.getD i 0):=λi hi=>by
  have hi':i<T_SMALL_PRIMES.length:=by rw[b28];exact hi
  rw[aG,bJ,aG,aJ hi'];rfl
 have mt: ∀i,i<46->T_SMALL_PRIMES.getD i 0∈prL:=λi hi=>by
  have hi':i<T_SMALL_PRIMES.length:=by rw[b28];exact hi
  rw[bK9,aG,aJ hi'];exact bT hi'
 refine cH5 (t0:=0) 46 (λi=>(T_SMALL_PRIMES.map D.int).getD i .non) [some<|.pu<|aP<|rwF (n+1) f,some<|.pu<|.int size] (λQ' q=> ?_) ac (λx l=>[x,some<|.pu<|aP<|rwF (n+1) f,some<|.pu<|.int size,some<|.ow l]) none rfl (λ_ _ _=>rfl) (λ_ _=>cQ _) (λ_ _ _ q=>q) (λ_ _ _=>rfl)
  (λi=>sqB size (T_SMALL_PRIMES.getD i 0)) (λi d=> ∃xs,SP (T_SMALL_PRIMES.getD i 0) (n,md (T_SMALL_PRIMES.getD i 0) f) xs/\d= .tup [.int<|T_SMALL_PRIMES.getD i 0,.lst<|xs.map<|ptD n f]) ?_ ?_ (λl hl=> ?_)
 ·exact⟨rfl,q⟩
 ·intro i l Q' hi q;obtain⟨p2,p3⟩:=tp_ok _ (bK9▸mt i hi);rw[et i hi]at q⊢;unfold sqB at q;generalize T_SMALL_PRIMES.getD i 0=p at *;have pq:0<p*p:=mul_pos ad ad
  walk_at "u"
  refine⟨cmL ad ad,ad,?_⟩
  rw[dL _ pq];exact q
 ·intro i l Q' hi hc q;have hm:=mt i hi;have pp:=a43 hm;rw[et i hi]at q⊢;generalize T_SMALL_PRIMES.getD i 0=p at *;walk_at "u";refine⟨n,f,p,rfl,rf.n4,hm,rf.mp pp.lo,rf.fb,λxs sp=> ?_⟩
  walk_at "u"
  exact⟨ac,q _ ⟨xs,sp,rfl⟩⟩
 ·obtain⟨g,g1,g2⟩:=hl.fn;have ex: ∀p:Int,∃xs,∀i,i<46->T_SMALL_PRIMES.getD i 0=p->sqB size p=true->SP p (n,md p f) xs/\g i= .tup [.int p,.lst<|xs.map<|ptD n f]:=λp=>by
   by_cases c: ∃i,i<46/\T_SMALL_PRIMES.getD i 0=p/\sqB size p=true
   ·obtain⟨i,hi,e,hc⟩:=c;obtain⟨xs,sp,eg⟩:=g1 i hi (by rw[e];exact hc)
    rw[e]at sp eg;refine⟨xs,λj hj e' _=> ?_⟩
    have:j=i:=by
     have hj':j<T_SMALL_PRIMES.length:=by rw[b28];exact hj
     have hi':i<T_SMALL_PRIMES.length:=by rw[b28];exact hi
     rw[aG,aJ hj']at e';rw[aG,aJ hi']at e;have e1:T_SMALL_PRIMES[j]=T_SMALL_PRIMES[i]:=gF (by
      have a1:(some T_SMALL_PRIMES[j]).getD 0=p:=e';have a2:(some T_SMALL_PRIMES[i]).getD 0=p:=e;exact bU some (a1.trans a2.symm))
     rcases Nat.lt_trichotomy j i with z|z|z
     ·have:=List.pairwise_iff_getElem.mp cT4 j i hj' hi' z
      lia
     ·exact z
     ·have:=List.pairwise_iff_getElem.mp cT4 i j hi' hj' z
      lia
    rw[this];exact⟨sp,eg⟩
   ·exact⟨[],λi hi e hc=>absurd ⟨i,hi,e,hc⟩ c⟩
  obtain⟨X,hX⟩: ∃X:Int->List ((Nat×(Nat->Int))×Nat),∀p i,i<46->T_SMALL_PRIMES.getD i 0=p->sqB size p=true->SP p (n,md p f) (X p)/\g i= .tup [.int p,.lst<|(X p).map<|ptD n f]:=⟨λp=>(ex p).choose,λp=>(ex p).choose_spec⟩
  have key:=h X (λp hp hs=>by
   rw[bK9]at hp;obtain⟨i,hi,e⟩:=xZ hp;have hi':i<46:=by rw[<-b28];exact hi
   refine(hX p i hi' ?_ hs).1
   rw[aG,aJ hi];exact e)
  have el:l=cU4 n f size X:=by
   have e0:prL=(List.range 46).map λi=>T_SMALL_PRIMES.getD i 0:=af
   have e1:prL.filter (sqB size)=((List.range 46).filter λi=>sqB size (T_SMALL_PRIMES.getD i 0)).map λi=>T_SMALL_PRIMES.getD i 0:=by
    rw[e0,List.filter_map];rfl
   rw[g2];unfold cU4;rw[e1,gU];refine t9 λi hi=> ?_
   obtain⟨h1,h2⟩:=nE.mp hi;exact(hX (T_SMALL_PRIMES.getD i 0) i (dE.mp h1) rfl h2).2
  rw[el];exact key
theorem cH6 {p:Int}(hp:2<=p){F:Nat×(Nat->Int)}{xs:List ((Nat×(Nat->Int))×Nat)}(sp:SP p F xs){x:(Nat×(Nat->Int))×Nat}(hx:x∈xs)(h2:2<=x.2): ∃R:Nat×(Nat->Int),MP p R.1 R.2/\F=tm p (tm p x.1 x.1) R:=by
 obtain⟨l,m,rfl⟩:=y8 hx;obtain⟨k,hk⟩: ∃k,x.2=k+2:=⟨x.2-2,aa⟩
 have mx:=(sp.mem x hx).1;have ml: ∀y∈l,MP p y.1.1 y.1.2:=λy hy=>(sp.mem y<|xV _ hy).1
 have mm: ∀y∈m,MP p y.1.1 y.1.2:=λy hy=>(sp.mem y<|fT _<|.tail _ hy).1
 have mA:=MP.allT hp l (MP.one hp) ml;have mP:=MP.powT hp mA mx k;have mxx:=MP.tm hp mx mx;refine⟨allT p (powT p (allT p dX l) x.1 k) m,MP.allT hp m mP mm,?_⟩;rw[<-sp.prod,i7];show allT p (powT p (allT p dX l) x.1 x.2) m=_;rw[hk];show allT p (tm p (tm p (powT p (allT p dX l) x.1 k) x.1) x.1) m=_;rw[<-a44 mx.hi,a91 mP.hi mxx.hi,aR6 hp m mP mm]
structure d84 (n:Nat)(f:Nat->Int)(size p:Int)(g:Nat×(Nat->Int)):Prop where
 pr:p∈prL
 sq:size%(p*p)=0
 mg:MP p g.1 g.2
 g1:1<=g.1
 g4:g.1<=4
 tw: ∃R:Nat×(Nat->Int),MP p R.1 R.2/\(n,md p f)=tm p (tm p g g) R
 all: ∀c∈uD n f g,c%(p*p)=0
noncomputable def d85 (n:Nat)(f:Nat->Int)(g:Nat×(Nat->Int)):List Int:=rwF (gP (divQ g.2 g.1 (n+1-g.1) f)<|n+1-g.1) (divQ g.2 g.1 (n+1-g.1) f)
def b34 (n:Nat)(f:Nat->Int)(p:Int)(xs:List ((Nat×(Nat->Int))×Nat)):Prop:= ∀x∈xs,2<=x.2-> ∃c∈uD n f x.1,c%(p*p)≠0
def rV:Φ:=λds Q=> ∃(n:Nat) (f:Nat->Int) (size:Int) (xf:Int->List ((Nat×(Nat->Int))×Nat)),ds=[aP<|rwF (n+1) f,.lst<|cU4 n f size xf]/\RF n f/\SPs n f size xf/\((∀p∈prL,sqB size p=true->b34 n f p (xf p))->Q (.pu .non))/\ ∀p g,d84 n f size p g->(¬ ∀p∈prL,sqB size p=true->b34 n f p (xf p))->Q (.pu<|.tup [.int p,aP<|d85 n f g])
def aR8:US:=(fP<|uC .non)
def rW:US:=(aS (jL (iJ<|aD 1) (vB<|gQ 2<|gQ 3 v9)<|jL (iJ<|aD 3) (vB<|gQ 4<|gQ 5<|gQ 6 v9)<|iO (bQ7 (fX<|uOp (sN λi j=>decide (j<=i)) (aD 5)<|uC<|.int 2)<|fX<|aW cF3<|a9 (gD [2] [none,some 2,none] 2 (iJ<|aD 6) (cM 0) (λρ Q=>Q true ρ)<|uOp (kX false) (uOp o8 (aD 0)<|uOp hG (aD 1)<|aD 1)<|uC<|.int 0) aM) (fP<|k8<|a9 (aD 2)<|a9 (uIx (uV<|aW gN<|a9 (aD 0)<|a9 (aD 4) aM)<|uC<|.int 0) aM) fQ) aR8)
theorem aW8: ∀ds Q,rV ds Q->rW {nx:=λ_=>Q (.pu .non),rt:=Q} (init ["f","r","p","a","g","o","c"] ds):=by
 rintro ds Q ⟨n,f,size,xf,rfl,rf,hP,h0,h1⟩;have hm0: ∀p∈prL.filter (sqB size),p∈prL/\sqB size p=true:=λp hp=>nE.mp hp
 have hm1: ∀p,p∈prL->sqB size p=true->p∈prL.filter (sqB size):=λp h1 h2=>nE.mpr ⟨h1,h2⟩
 unfold cU4;generalize prL.filter (sqB size)=ps' at *;generalize el:ps'.map (d83 n f xf)=l at *;have ll:l.length=ps'.length:=by rw[<-el,aC]
 unfold rW;show(aS _ _:US) _ [some<|.pu<|aP<|rwF (n+1) f,some<|.pu<|.lst l,none,none,none,none,none];rw[aN];refine bQ l.length (λi=>l.getD i .non) [some<|.pu<|aP<|rwF (n+1) f,some<|.pu<|.lst l,none,none,none,none,none] (λQ' q=>q)
  (λi ρ=>(∃a b c d e,ρ=[some<|.pu<|aP<|rwF (n+1) f,some<|.pu<|.lst l,a,b,c,d,e])/\ ∀j,j<i->b34 n f (ps'.getD j 0) (xf<|ps'.getD j 0)) ⟨⟨none,none,none,none,none,rfl⟩,λj hj=>absurd hj (Nat.not_lt_zero _)⟩ ?_ ?_
 ·rintro i ρ hi ⟨⟨a,b,c,d,e,rfl⟩,fi⟩;have hi':i<ps'.length:=by rw[<-ll];exact hi
  have e1:l.getD i .non=d83 n f xf (ps'.getD i 0):=by
   rw[<-el,aG,bJ,aG,aJ hi'];rfl
  have hmp:ps'.getD i 0∈ps':=by
   rw[aG,aJ hi'];exact bT hi'
  obtain⟨hp,hs0⟩:=hm0 _ hmp;have sp:=hP _ hp hs0;have hs:size%(ps'.getD i 0*ps'.getD i 0)=0:=pP hs0;have go:b34 n f (ps'.getD i 0) (xf<|ps'.getD i 0)-> ∀j,j<i+1->b34 n f (ps'.getD j 0) (xf<|ps'.getD j 0):=λz j hj=>by
   by_cases c:j=i
   ·rw[c];exact z
   ·exact fi j ad
  rw[e1];unfold d83;generalize ps'.getD i 0=p at *;generalize exs:xf p=xs at *;have pp:=a43 hp;refine⟨ae,ae,rfl,?_⟩
  show(jL _ _ _:US) _ [some<|.pu<|aP<|rwF (n+1) f,some<|.pu<|.lst l,some<|.pu<|.int p,some<|.pu<|.lst<|xs.map<|ptD n f,c,d,e]
  refine bQ xs.length (λi=>(xs.map<|ptD n f).getD i .non) [some<|.pu<|aP<|rwF (n+1) f,some<|.pu<|.lst l,some<|.pu<|.int p,some<|.pu<|.lst<|xs.map<|ptD n f,c,d,e] (λQ' q=> ?_)
   (λj ρ=>(∃c d e,ρ=[some<|.pu<|aP<|rwF (n+1) f,some<|.pu<|.lst l,some<|.pu<|.int p,some<|.pu<|.lst<|xs.map<|ptD n f,c,d,e])/\b34 n f p (xs.take j)) ⟨⟨c,d,e,rfl⟩,λx hx=>by simp at hx⟩ ?_ ?_
  ·walk_at "u"
   rw[aC];exact q
  ·rintro j ρ hj ⟨⟨c,d,e,rfl⟩,fj⟩;have nf:(2<=xs[j].2-> ∃c∈uD n f xs[j].1,c%(p*p)≠0)->b34 n f p (xs.take<|j+1):=λz x hx=>by
    rw[List.take_succ,aJ hj]at hx;rcases bC.mp hx with hx|hx
    ·exact fj x hx
    ·have:x=xs[j]:=by simpa using hx
     rw[this];exact z
   have hx:xs[j]∈xs:=bT hj;have e2:(xs.map<|ptD n f).getD j .non=ptD n f xs[j]:=by
    rw[aG,bJ,aJ hj];rfl
   rw[e2];obtain⟨mx,x1,x4,_⟩:=sp.mem _ hx;have tw:2<=xs[j].2->_:=λh2=>cH6 pp.lo sp hx h2
   generalize xs[j]=x at *;refine⟨ae,ae,ae,rfl,?_⟩
   show(iO _ _ _:US) _ [some<|.pu<|aP<|rwF (n+1) f,some<|.pu<|.lst l,some<|.pu<|.int p,some<|.pu<|.lst<|xs.map<|ptD n f,some<|.pu<|aP<|rwF (x.1.1+1) x.1.2,some<|.pu<|.int (x.2:Int),some<|.pu<|aP<|uD n f x.1]
   simp only[aP];walk_at "u"
   by_cases c2:(2:Int)<=(x.2:Int)
   ·rw[a7 c2];have p2:=pp.lo;have p3:=pp.hi;have pq:0<p*p:=mul_pos ad ad
    generalize hr:uD n f x.1=r at *;have rl:r.length<=1000:=by
     rw[<-hr];unfold uD;rw[a90];have:=zH (divL x.1.2 x.1.1 (n+1-x.1.1) f) (n+1);have:=rf.n4
     lia
    refine gL (t0:=0) r.length (λk=>(r.map D.int).getD k .non) [some<|.pu<|.tup<|(rwF (n+1) f).map .int,some<|.pu<|.lst l,some<|.pu<|.int p,some<|.pu<|.lst<|xs.map<|ptD n f,some<|.pu<|.tup<|(rwF (x.1.1+1) x.1.2).map .int,some<|.pu<|.int (x.2:Int),some<|.pu<|.tup<|r.map .int] (λQ' q=> ?_) ad (λx l'=>[x,some<|.pu<|.int p,some<|.ow l']) none rfl (λ_ _ _=>rfl) (λ_ _=>cQ _) (λ_ _ _ q=>q) (λ_ _ _=>rfl) (λk=> .bl (decide (r.getD k 0%(p*p)=0))) ?_ ?_
    ·walk_at "u"
     rw[aC];exact q
    ·intro k l' Q' hk q;have e3:(r.map D.int).getD k .non= .int (r.getD k 0):=by
      rw[aG,bJ,aG,aJ hk];rfl
     rw[e3]at q⊢;walk_at "u";refine⟨cmL ad ad,ad,?_⟩
     rw[dL _ pq];exact q
    ·have e4:(List.range r.length).map (λk=>D.bl (decide (r.getD k 0%(p*p)=0)))=((List.range r.length).map λk=>decide (r.getD k 0%(p*p)=0)).map D.bl:=by rw[gU];rfl
     rw[e4];dsimp only;rw[aH3];dsimp only
     by_cases c3:(((List.range r.length).map λk=>decide (r.getD k 0%(p*p)=0)).all id)=true
     ·rw[a7 c3];walk_at "u";refine⟨n+1,x.1.1,9,8,f,x.1.2,rfl,cA7 pp rf.n4 rf.fb mx x4,?_⟩;walk_at "u";rw[at0];have al: ∀c∈uD n f x.1,c%(p*p)=0:=λc hc=>by
       rw[hr]at hc;obtain⟨k,hk,rfl⟩:=List.mem_iff_getElem.mp hc;rw[dD]at c3;have:=c3 (decide (r.getD k 0%(p*p)=0)) (dU.mpr ⟨k,dE.mpr hk,rfl⟩);have:=pP (show decide (r.getD k 0%(p*p)=0)=true from this)
       rw[aG,aJ hk]at this;exact this
      refine⟨ac,h1 p x.1 ⟨hp,hs,mx,x1,x4,tw ad,al⟩ λall=> ?_⟩
      have:=all p hp hs0;rw[exs]at this;obtain⟨c,hc,ne⟩:=this x hx ad
      exact ne (al c hc)
     ·rw[a6 c3];refine⟨⟨_,_,_,rfl⟩,nf λ_=> ?_⟩
      refine oZ λno=>c3 ?_
      rw[dD];intro z hz;obtain⟨k,hk,rfl⟩:=dU.mp hz;have hk':=dE.mp hk;refine gG (oZ λne=>no ⟨r.getD k 0,?_,ne⟩)
      rw[aG,aJ hk'];exact bT hk'
   ·rw[a6 c2];exact⟨⟨_,_,_,rfl⟩,nf λz=>absurd z ad⟩
  ·rintro ρ ⟨⟨c,d,e,rfl⟩,fj⟩;rw[xS<|aB _]at fj;exact⟨⟨_,_,_,_,_,rfl⟩,go fj⟩
 ·rintro ρ ⟨⟨a,b,c,d,e,rfl⟩,fi⟩;refine h0 λp hp hs=> ?_
  obtain⟨j,hj,e⟩:=xZ (hm1 p hp hs);have:=fi j (by rw[ll];exact hj)
  rw[aG,aJ hj]at this;rw[<-e];exact this
theorem amgm {g q b m:Int}(h1:g+(q+1)<=2*(b+1))(hg:0<=g)(hq:0<=q)(h2:m<g*(q+1)):m< (b+1)*(b+1):=by
 have a1:0<=(g-(q+1))*(g-(q+1)):=by
  rcases le_total 0 (g-(q+1))with h|h
  ·exact mul_nonneg h h
  ·exact Int.mul_nonneg_of_nonpos_of_nonpos h h
 have a2:(g+(q+1))*(g+(q+1))<=(2*(b+1))*(2*(b+1)):=yI h1 h1 ad ad
 grind
theorem c51 {g m:Int}(hg:1<=g)(h:g<=(g+m/g)/2):g*g<=m:=by
 have h1:g<=m/g:=ad
 have h2:g*(m/g)<=m:=by
  have:=t6 m g;have:=cR m (show g≠0 by lia)
  lia
 exact Int.le_trans (oY h1 ad) h2
theorem bU1 {g m:Int}(hg:1<=g)(hm:0<=m):m< ((g+m/g)/2+1)*((g+m/g)/2+1):=by
 have e:=t6 m g;have l:=cP m (show 0<g by lia)
 have q0:0<=m/g:=Int.ediv_nonneg hm ad
 refine amgm (g:=g) (q:=m/g) ad ad q0 ?_
 rw[tP,iG]
 lia
def aR9:Φ:=λds Q=> ∃m:Int,ds=[.int m]/\0<=m/\Sm m/\ ∀r:Int,0<=r->r*r<=m->m< (r+1)*(r+1)->Q (.pu<|.int r)
def aS0:US:=(aS (bX 1<|aD 0)<|aS (bX 2<|uOp b92 (uOp i4 (aD 0)<|uC<|.int 1)<|uC<|.int 2)<|aS (bH8 (fX<|uOp (sN λi j=>decide (i<j)) (aD 2)<|aD 1)<|aS (bX 1<|aD 2)<|bX 2<|uOp b92 (uOp i4 (aD 1)<|uOp b92 (aD 0)<|aD 1)<|uC<|.int 2)<|qY 1)
theorem Sm.le {i m:Int}(h:Sm m)(h0:0<=i)(h1:i<=m):Sm i:=by
 unfold Sm at h⊢;exact mY ad h
theorem cH7: ∀ds Q,aR9 ds Q->aS0 {nx:=λ_=>Q (.pu .non),rt:=Q} (init ["m","g","b"] ds):=by
 rintro ds Q ⟨m,rfl,m0,ms,h⟩;unfold aS0;show(aS _ _:US) _ [some<|.pu<|.int m,none,none];walk_at "u";rw[xB _ ac]
 refine⟨⟨ac,b19 ac ac⟩,?_⟩
 refine⟨λn ρ=> ∃g b:Int,ρ=[some<|.pu<|.int m,some<|.pu<|.int g,some<|.pu<|.int b]/\n=g.toNat/\0<=g/\g<=m/\m< (g+1)*(g+1)/\((m=0/\b=0)\/(1<=g/\b=(g+m/g)/2)),⟨_,m,(m+1)/2,rfl,rfl,m0,Int.le_refl _,?_,?_⟩,?_⟩
 ·have:m*1<=m*m+m:=by
   rcases le_total m 0 with z|z
   ·have:m=0:=ad
    subst this;decide
   ·have:=mul_nonneg z z
    lia
  grind
 ·by_cases z:m=0
  ·subst z;exact .inl ⟨rfl,rfl⟩
  ·right
   rw[Int.ediv_self z];exact⟨ad,rfl⟩
 ·rintro n ρ ⟨g,b,rfl,rfl,g0,gm,hg,hb⟩;walk_at "u";split
  ·rename_i hlt
   rcases hb with⟨rfl,rfl⟩| ⟨g1,rfl⟩
   ·lia
   ·have b1:1<=(g+m/g)/2:=by
     have:1<=m/g:=Int.le_ediv_of_mul_le ad ad
     lia
    rw[xB _<|show 0< (g+m/g)/2 by lia,xB _ ac]
    refine⟨⟨ad,ms.le ad ad⟩,⟨ac,b19 ac ac⟩,_,?_,_,_,rfl,rfl,ad,ad,bU1 g1 m0,.inr ⟨b1,rfl⟩⟩
    lia
  ·rename_i hge
   refine h g g0 ?_ hg
   rcases hb with⟨rfl,rfl⟩| ⟨g1,rfl⟩
   ·have:g=0:=ad
    subst this;decide
   ·exact c51 g1 ad
noncomputable def ev (p:List Int)(z:Int):Int:=ps (λj=>p.getD j 0) z p.length
theorem ev2 (a b z:Int):ev [a,b,1] z=a+b*z+z*z:=by simp[ev,ps];grind
theorem ev3 (a b c z:Int):ev [a,b,c,1] z=a+b*z+c*(z*z)+z*z*z:=by simp[ev,ps];grind
theorem ev4 (a b c d z:Int):ev [a,b,c,d,1] z=a+b*z+c*(z*z)+d*(z*z*z)+z*z*z*z:=by simp[ev,ps];grind
noncomputable def qq (v u w s:Int):List Int:=[v*w,u*w+v*s,v+w+u*s,u+s,1]
def Red (p:List Int):Prop:=(∃z,ev p z=0)\/ ∃v u w s,p=qq v u w s
structure Fac (p l r:List Int):Prop where
 l2:2<=l.length
 r2:2<=r.length
 l4:l.length<=4
 r4:r.length<=4
 l1:l.getD (l.length-1) 0=1
 r1:r.getD (r.length-1) 0=1
 pr:rwF (l.length+r.length-1) (conv (λj=>l.getD j 0) (λj=>r.getD j 0) l.length)=p
 bl: ∀x∈l,x.natAbs<=2^40
 br: ∀x∈r,x.natAbs<=2^40
theorem eE.cs {p:List Int}(h:eE p):(∃a b,p=[a,b,1])\/(∃a b c,p=[a,b,c,1])\/ ∃a b c d,p=[a,b,c,d,1]:=by
 obtain⟨q,rfl⟩:=h.one;have lo:=h.ok.lo;have hi:=h.ok.hi;rw[cY,aE4]at lo hi
 match q,lo,hi with
 | [a,b],_,_=>exact .inl ⟨a,b,rfl⟩
 | [a,b,c],_,_=>exact .inr (.inl ⟨a,b,c,rfl⟩)
 | [a,b,c,d],_,_=>exact .inr (.inr ⟨a,b,c,d,rfl⟩)
 | [],h,_=>simp at h
 | [_],h,_=>simp at h
 | _::_::_::_::_::_,_,h=>simp at h
theorem cU5 {p:List Int}(h:eE p){z:Int}(hz:ev p z=0):z∣p.getD 0 0:=by
 rcases h.cs with⟨a,b,rfl⟩| ⟨a,b,c,rfl⟩| ⟨a,b,c,d,rfl⟩
 ·rw[ev2]at hz;exact⟨-(b+z),by show a=_;grind⟩
 ·rw[ev3]at hz;exact⟨-(b+c*z+z*z),by show a=_;grind⟩
 ·rw[ev4]at hz;exact⟨-(b+c*z+d*(z*z)+z*z*z),by show a=_;grind⟩
theorem cA8 {p:List Int}(h:eE p):ev p 0=p.getD 0 0:=by
 rcases h.cs with⟨a,b,rfl⟩| ⟨a,b,c,rfl⟩| ⟨a,b,c,d,rfl⟩
 ·rw[ev2];simp
 ·rw[ev3];simp
 ·rw[ev4];simp
noncomputable def v7 (z:Int):Nat->Int:=λj=>[-z,1].getD j 0
theorem i8 {a b:Int}{m n:Nat}(h1:a.natAbs<=m)(h2:b.natAbs<=n):(a*b).natAbs<=m*n:=by rw[fW];exact jV h1 h2
set_option maxHeartbeats 2000000 in
theorem quo {p:List Int}(h:eE p){z:Int}(hz:ev p z=0)(z9:z.natAbs<=499): ∃r:List Int,r.length+1=p.length/\2<=r.length/\r.getD (r.length-1) 0=1/\p=rwF p.length (λm=>conv (λj=>r.getD j 0) (v7 z) r.length m+0)/\(∀x∈r,x.natAbs<=2^40)/\Fac p [-z,1] r:=by
 have sm:=h.ok.small;have n1:(-z).natAbs<=2^40:=by rw[natAbs_neg];exact aL z9 ac
 have k1:(1:Int).natAbs<=2^40:=ac
 rcases h.cs with⟨a,b,rfl⟩| ⟨a,b,c,rfl⟩| ⟨a,b,c,d,rfl⟩
 ·rw[ev2]at hz;simp only[eM]at sm;have bd: ∀x∈[b+z,1],x.natAbs<=2^40:=by
   simp only[eM];refine⟨?_,k1,ae⟩
   have:(2:Nat)^40=1099511627776:=ac
   omega
  refine⟨[b+z,1],rfl,ae,rfl,?_,bd,⟨ae,ae,ae,ae,rfl,rfl,?_,by simp only[eM];exact⟨n1,k1,ae⟩,bd⟩⟩
  ·simp[rwF,conv,shF,v7,aT]
   grind
  ·simp[rwF,conv,shF,aT]
   grind
 ·rw[ev3]at hz;simp only[eM]at sm;have m1:(z*z).natAbs<=499*499:=i8 z9 z9;have m2:(c*z).natAbs<=499*499:=i8 sm.2.2.1 z9;have bd: ∀x∈[b+c*z+z*z,c+z,1],x.natAbs<=2^40:=by
   simp only[eM];have:(2:Nat)^40=1099511627776:=ac
   refine⟨?_,?_,k1,ae⟩
   ·omega
   ·omega
  refine⟨[b+c*z+z*z,c+z,1],rfl,ae,rfl,?_,bd,⟨ae,ae,ae,ae,rfl,rfl,?_,by simp only[eM];exact⟨n1,k1,ae⟩,bd⟩⟩
  ·simp[rwF,conv,shF,v7,aT]
   grind
  ·simp[rwF,conv,shF,aT]
   grind
 ·rw[ev4]at hz;simp only[eM]at sm;have m1:(z*z).natAbs<=499*499:=i8 z9 z9;have m2:(c*z).natAbs<=499*499:=i8 sm.2.2.1 z9;have m3:(d*(z*z)).natAbs<=499*(499*499):=i8 sm.2.2.2.1 m1;have m4:(z*z*z).natAbs<=499*499*499:=i8 m1 z9;have m5:(d*z).natAbs<=499*499:=i8 sm.2.2.2.1 z9;have bd: ∀x∈[b+c*z+d*(z*z)+z*z*z,c+d*z+z*z,d+z,1],x.natAbs<=2^40:=by
   simp only[eM];have:(2:Nat)^40=1099511627776:=ac
   refine⟨?_,?_,?_,k1,ae⟩
   ·omega
   ·omega
   ·omega
  refine⟨[b+c*z+d*(z*z)+z*z*z,c+d*z+z*z,d+z,1],rfl,ae,rfl,?_,bd,⟨ae,ae,ae,ae,rfl,rfl,?_,by simp only[eM];exact⟨n1,k1,ae⟩,bd⟩⟩
  ·simp[rwF,conv,shF,v7,aT]
   grind
  ·simp[rwF,conv,shF,aT]
   grind
theorem fac_qq {v u w s:Int}(h: ∀x∈[v,u,w,s],x.natAbs<=2^40):Fac (qq v u w s) [v,u,1] [w,s,1]:=by
 simp only[eM]at h;have k1:(1:Int).natAbs<=2^40:=ac
 refine⟨ae,ae,ae,ae,rfl,rfl,?_,?_,?_⟩
 ·simp[rwF,conv,shF,qq,aT]
  grind
 ·simp only[eM];exact⟨h.1,h.2.1,k1,ae⟩
 ·simp only[eM];exact⟨h.2.2.1,h.2.2.2.1,k1,ae⟩
def qT:Φ:=λds Q=> ∃m:Int,ds=[.int m]/\m.natAbs<=499/\ ∀l:List Int,l.length<=1000->(m=0->l=[0])->(m≠0-> ∀x,x∈l↔x∣m)->(∀x∈l,x.natAbs<=499)->Q (.ow<|l.map .int)
def a49:US:=(aS (bX 1<|jD aM)<|aS (jL (aA7<|a9 (uC<|.int 1)<|a9 (uOp i4 (aW cO4<|a9 (aD 0) aM)<|uC<|.int 1) aM) (cM 2)<|iO (fX<|uOp (kX false) (uOp o8 (aD 0)<|aD 2)<|uC<|.int 0) (aS (aH0 1<|aD 2)<|aH0 1<|v4<|aD 2) fQ)<|qY 1)
def wA:US:=(aS (iO (fX<|uOp (kX false) (aD 0)<|uC<|.int 0) (fP<|jD<|a9 (uC<|.int 0) aM) fQ) a49)
theorem aB3 {x m:Int}(h:x∣m)(hm:m≠0):x.natAbs<=m.natAbs/\1<=x.natAbs:=by
 have h1:=Int.natAbs_dvd_natAbs.mpr h;refine⟨Nat.le_of_dvd ad h1,?_⟩
 rcases Nat.eq_zero_or_pos x.natAbs with z|z
 ·rw[z]at h1;have:=Nat.zero_dvd.mp h1
  lia
 ·exact z
theorem bA0: ∀ds Q,qT ds Q->wA {nx:=λ_=>Q (.pu .non),rt:=Q} (init ["m","f","d"] ds):=by
 rintro ds Q ⟨m,rfl,m9,h⟩;unfold wA;show(aS _ _:US) _ [some<|.pu<|.int m,none,none];rw[aN];walk_at "u"
 by_cases m0:m=0
 ·rw[a7 m0];exact⟨ac,h [0] ae (λ_=>rfl) (λz=>absurd m0 z) ae⟩
 rw[a6 m0];unfold a49;rw[aN];walk_at "u";refine⟨ac,?_⟩
 refine bQ m.natAbs (λk=> .int (1+k)) [some<|.pu<|.int m,some<|.ow [],none] ?_
  (λi ρ=> ∃(l:List Int) (z:Option B),ρ=[some<|.pu<|.int m,some<|.ow<|l.map .int,z]/\l.length<=2*i/\ ∀x,x∈l↔(x∣m/\1<=x.natAbs/\x.natAbs<=i)) ⟨[],none,rfl,ae,λx=> ?_⟩ ?_ ?_
 ·intro Q' q;walk_at "u";have e:(if m<0 then -m else m)=(m.natAbs:Int):=by split<;>lia
  rw[e];refine⟨ad,?_⟩
  rw[show((m.natAbs:Int)+1-1).toNat=m.natAbs by lia]
  exact q
 ·simp;lia
 ·rintro i ρ hi ⟨l,z,rfl,ll,hl⟩;walk_at "u";refine⟨ae,ad,?_⟩
  rw[dL _<|show(0:Int)<1+(i:Int)by lia]
  split
  ·rename_i hd
   have dv:(1+(i:Int))∣m:=bZ hd;refine⟨?_,?_,l++[1+(i:Int),-(1+(i:Int))],some<|.pu<|.int<|1+(i:Int),?_,?_,λx=> ?_⟩
   ·rw[aC];exact aX (show _<2000 by lia) ac
   ·rw[cY,aC];exact aX (show _<2000 by simp;lia) ac
   ·rw[bM];simp
   ·rw[cY];simp;lia
   ·rw[bC,hl];constructor
    ·rintro(⟨h1,h2,h3⟩|hx)
     ·exact⟨h1,h2,ad⟩
     ·simp at hx
      rcases hx with rfl|rfl
      ·exact⟨dv,ad,ad⟩
      ·exact⟨by first|exact Int.neg_dvd.mpr dv| (rw[show -1+ -(i:Int)= -(1+(i:Int))by lia];exact Int.neg_dvd.mpr dv),ad,ad⟩
    ·rintro⟨h1,h2,h3⟩
     by_cases c:x.natAbs<=i
     ·exact .inl ⟨h1,h2,c⟩
     ·refine .inr ?_
      simp
      lia
  ·rename_i hd
   have dv: ¬(1+(i:Int))∣m:=λz=>hd (dR z)
   refine⟨l,_,rfl,ad,λx=> ?_⟩
   rw[hl];constructor
   ·rintro⟨h1,h2,h3⟩;exact⟨h1,h2,ad⟩
   ·rintro⟨h1,h2,h3⟩;refine⟨h1,h2,?_⟩
    by_cases c:x.natAbs<=i
    ·exact c
    ·exfalso
     have:x=1+(i:Int)\/x= -(1+(i:Int)):=ad
     rcases this with rfl|rfl
     ·exact dv h1
     ·exact dv (Int.neg_dvd.mp h1)
 ·rintro ρ ⟨l,z,rfl,ll,hl⟩;walk_at "u";refine h l ad (λz=>absurd z m0) (λ_ x=> ?_) λx hx=> ?_
  ·rw[hl];exact⟨λq=>q.1,λq=>⟨q,(aB3 q m0).2,(aB3 q m0).1⟩⟩
  ·have:=(hl x).mp hx
   lia
def nO:Φ:=λds Q=> ∃p:List Int,ds=[aP p]/\eE p/\((∀z,ev p z≠0)->Q (.pu .non))/\ ∀l r,Fac p l r->Red p->Q (.pu<|.tup [aP l,aP r])
def sH:US:=(fP<|uC .non)
def nP:US:=(aS (jL (iJ<|aW qT<|a9 (uIx (aV 0)<|uC<|.int 0) aM) (cM 1)<|iO (fX<|uOp (kX false) (aW sP<|a9 (aD 0)<|a9 (aD 1) aM)<|uC<|.int 0) (aS (bX 2<|k8<|a9 (v4<|aD 1)<|a9 (uC<|.int 1) aM)<|fP<|k8<|a9 (aD 2)<|a9 (uIx (uV<|aW gN<|a9 (aD 0)<|a9 (aD 2) aM)<|uC<|.int 0) aM) fQ) sH)
theorem aU6 (p:List Int)(j:Nat)(h:p.length<=j):p.getD j 0=0:=by rw[aG,mW h];rfl
theorem aH6: ∀ds Q,nO ds Q->nP {nx:=λ_=>Q (.pu .non),rt:=Q} (init ["p","z","l"] ds):=by
 rintro ds Q ⟨p,rfl,hp,hn,hy⟩;have hlo:=hp.ok.lo;have hhi:=hp.ok.hi;unfold nP;show(aS _ _:US) _ [some<|.pu<|.tup<|p.map .int,none,none];rw[aN];have p0:(p.getD 0 0).natAbs<=499:=gM hp.ok.small 0;have key: ∀l:List Int,(p.getD 0 0=0->l=[0])->(p.getD 0 0≠0-> ∀x,x∈l↔x∣p.getD 0 0)->(∀x∈l,ev p x≠0)-> ∀z,ev p z≠0:=λl l0 l1 hl z hz=>by
  by_cases c:p.getD 0 0=0
  ·have:=hl 0 (by rw[l0 c];simp)
   rw[cA8 hp]at this;exact this c
  ·exact hl z ((l1 c z).mpr<|cU5 hp hz) hz
 unfold jL;simp only[iJ];walk_at "u";rw[a38 ad]
 refine⟨p.getD 0 0,rfl,p0,λl l9 l0 l1 lb=> ?_⟩
 dsimp only;rw[aC];refine⟨λi ρ=> ∃z1 z2,ρ=[some<|.pu<|.tup<|p.map .int,z1,z2]/\ ∀k,k<i->ev p (l.getD k 0)≠0,⟨none,none,rfl,λk hk=>ad⟩,?_,?_⟩
 ·rintro i ρ hi ⟨z1,z2,rfl,hk⟩;have e3:(l.map D.int).getD i .non= .int (l.getD i 0):=by
   rw[aG,bJ,aJ hi,aG,aJ hi];rfl
  rw[e3];have mem:l.getD i 0∈l:=by rw[aG,aJ hi];exact bT hi
  have zb:=lb _ mem;generalize ez:l.getD i 0=z at zb;walk_at "u";refine⟨ae,?_⟩
  refine⟨p.length,9,9,λj=>p.getD j 0,z,by rw[<-c44];rfl,⟨λj=>aL (gM hp.ok.small j) ac,aL zb ac,ad,ac,ad⟩,?_⟩
  show(if ev p z=0 then _ else _)
  by_cases c:ev p z=0
  ·rw[a7 c];refine⟨ac,?_⟩
   obtain⟨r,r1,r2,r3,r4,r5,fac⟩:=quo hp c zb;refine⟨p.length,1,9,9,λm=>conv (λj=>r.getD j 0) (v7 z) r.length m+0,v7 z,?_,⟨ad,ac,rfl,λj hj=> ?_,λm hm=> ?_,λj=> ?_,ad,ac⟩,?_⟩
   ·rw[<-r4];rfl
   ·unfold v7;rw[aU6];simp;lia
   ·have e:p.getD m 0=conv (λj=>r.getD j 0) (v7 z) r.length m+0:=by
     have:p[m]? =some (conv (λj=>r.getD j 0) (v7 z) r.length m+0):=by
      conv=>lhs;rw[r4]
      rw[aY7 hm]
     rw[aG,this];rfl
    rw[<-e];exact aL (gM hp.ok.small m) ac
   ·unfold v7;refine gM (b:=2^9) (λx hx=> ?_) j
    simp at hx
    rcases hx with rfl|rfl
    ·rw[natAbs_neg];exact aL zb ac
    ·decide
   ·have dc:=b25 (u:=λj=>r.getD j 0) (b:=v7 z) (low:=λ_=>0) (d:=1) rfl (λj hj=>by unfold v7;rw[aU6];simp;lia) (λ_ _=>rfl) r.length
    have el:p.length-1=r.length:=ad
    rw[el];have qe:rwF (gP (divQ (v7 z) 1 r.length λm=>conv (λj=>r.getD j 0) (v7 z) r.length m+0) r.length) (divQ (v7 z) 1 r.length λm=>conv (λj=>r.getD j 0) (v7 z) r.length m+0)=r:=by
     have cn:gP (divQ (v7 z) 1 r.length λm=>conv (λj=>r.getD j 0) (v7 z) r.length m+0) r.length=r.length:=sO (aB _) (λm a b=>ad) (.inr (by
      rw[dc.2 (r.length-1) ad,r3];decide))
     rw[cn]
     conv=>rhs;rw[c44 r]
     exact iC λj hj=>dc.2 j hj
    rw[qe];walk_at "u";rw[show atI [aP r,aP<|rwF (gP (divL (v7 z) 1 r.length λm=>conv (λj=>r.getD j 0) (v7 z) r.length m+0) p.length)<|divL (v7 z) 1 r.length λm=>conv (λj=>r.getD j 0) (v7 z) r.length m+0] 0=some (aP r)from cW (j:=0) rfl]
    refine⟨ac,hy [-z,1] r fac<|.inl ⟨z,c⟩⟩
  ·rw[a6 c];refine⟨_,_,rfl,λk hk2=> ?_⟩
   by_cases ck:k<i
   ·exact hk k ck
   ·have:k=i:=ad
    rw[this,ez];exact c
 ·rintro ρ ⟨z1,z2,rfl,hk⟩;unfold sH;walk_at "u";refine hn (key l l0 l1 λx hx=> ?_)
  obtain⟨k,hk2,rfl⟩:=xZ hx;have:=hk k hk2;rw[aG,aJ hk2]at this;exact this
def wB:Φ:=λds Q=> ∃t m:Int,ds=[.int t,.int m]/\t.natAbs<=2^20/\m.natAbs<=2^20/\ ∀l:List Int,l.length<=2->(∀u,u∈l↔u*(t-u)=m)->Q (.ow<|l.map .int)
def a50:US:=(aS (iO (fX<|uOp (kX true) (uOp hG (aD 3)<|aD 3)<|aD 2) (fP<|jD aM) fQ)<|fP<|jD<|a9 (uOp b92 (uOp i4 (aD 0)<|aD 3)<|uC<|.int 2)<|a9 (uOp b92 (uOp M.gSub (aD 0)<|aD 3)<|uC<|.int 2) aM)
def a51:US:=(aS (bX 3<|aW aR9<|a9 (aD 2) aM) a50)
def a52:US:=(aS (iO (fX<|uOp (sN λi j=>decide (i<j)) (aD 2)<|uC<|.int 0) (fP<|jD aM) fQ) a51)
def wC:US:=(aS (bX 2<|uOp M.gSub (uOp hG (aD 0)<|aD 0)<|uOp hG (uC<|.int 4)<|aD 1) a52)
theorem sq_nn (x:Int):0<=x*x:=by
 rcases le_total 0 x with h|h
 ·exact mul_nonneg h h
 ·exact Int.mul_nonneg_of_nonpos_of_nonpos h h
theorem cU6 {a b:Int}(ha:0<=a)(h:a<=b):a*a<=b*b:=yI h h ha ad
theorem dE2 {g x:Int}(hg:0<=g)(h1:g*g<=x*x)(h2:x*x< (g+1)*(g+1)):x=g\/x= -g:=by
 have e:(x.natAbs:Int)*(x.natAbs:Int)=x*x:=Int.natAbs_mul_self;have a1:(x.natAbs:Int)<=g:=by
  by_cases c:(x.natAbs:Int)<=g
  ·exact c
  ·have:=cU6 (a:=g+1) (b:=(x.natAbs:Int)) ad ad
   lia
 have a2:g<=(x.natAbs:Int):=by
  by_cases c:g<=(x.natAbs:Int)
  ·exact c
  ·have:=cU6 (a:=(x.natAbs:Int)+1) (b:=g) ad ad
   have h3:(x.natAbs:Int)*(x.natAbs:Int)< ((x.natAbs:Int)+1)*((x.natAbs:Int)+1):=by
    have:((x.natAbs:Int)+1)*((x.natAbs:Int)+1)=(x.natAbs:Int)*(x.natAbs:Int)+2*(x.natAbs:Int)+1:=by grind
    lia
   lia
 lia
theorem par {t g m:Int}(h:g*g=t*t-4*m):(t+g)%2=0/\(t-g)%2=0:=by
 have h1:(t-g)*(t+g)=4*m:=by grind
 rcases Int.emod_two_eq (t+g)with c|c
 ·exact⟨c,ad⟩
 ·exfalso
  obtain⟨a,ha⟩: ∃a,t+g=2*a+1:=⟨(t+g)/2,ad⟩
  obtain⟨b,hb⟩: ∃b,t-g=2*b+1:=⟨(t-g)/2,ad⟩
  rw[ha,hb]at h1;have:2*(2*(b*a)+b+a-2*m)+1=0:=by grind
  lia
theorem bA1: ∀ds Q,wB ds Q->wC {nx:=λ_=>Q (.pu .non),rt:=Q} (init ["t","m","s","g"] ds):=by
 rintro ds Q ⟨t,m,rfl,ht,hm,h⟩;have p20:(2:Nat)^20=1048576:=ac
 have tt:(t*t).natAbs<=2^20*2^20:=i8 ht ht;unfold wC;show(aS _ _:US) _ [some<|.pu<|.int t,some<|.pu<|.int m,none,none];rw[aN];walk_at "u";refine⟨cmL aa aa,cmL ac ac,?_⟩
 have id1: ∀u:Int,u*(t-u)=m↔(2*u-t)*(2*u-t)=t*t-4*m:=λu=>by
  constructor
  ·intro q;grind
  ·intro q;have:4*(u*(t-u))=4*m:=by grind
   omega
 generalize esq:t*t-4*m=sq at id1;have sqb:sq.natAbs<=2^60:=by
  have:(2:Nat)^60=1152921504606846976:=ac
  have:(2:Nat)^20*2^20=1099511627776:=ac
  omega
 unfold a52;rw[aN];walk_at "u"
 by_cases s0:sq<0
 ·rw[a7 s0];refine⟨ac,h [] ae λu=> ?_⟩
  rw[id1];simp;intro q;have:=sq_nn (2*u-t);omega
 rw[a6 s0];unfold a51;rw[aN];walk_at "u";refine⟨sq,rfl,aa,Sm.pow sqb ac,λg g0 g1 g2=> ?_⟩
 have g30:g<=2^30:=by
  by_cases c:g<=2^30
  ·exact c
  ·have:=cU6 (a:=2^30+1) (b:=g) ac aa
   have:((2:Int)^30+1)*(2^30+1)>2^60:=ac
   have:((2^60:Nat):Int)=2^60:=ac
   omega
 have k30:(2:Int)^30=1073741824:=ac
 unfold a50;dsimp only;rw[aN];walk_at "u";refine⟨cmL aa aa,?_⟩
 by_cases c:g*g=sq
 ·rw[a6 λz=>z c]
  rw[xB _ ac,xB _ ac]
  have pp:=par (t:=t) (g:=g) (m:=m) (by rw[c,esq])
  refine⟨⟨ac,b19 ac ac⟩,⟨ac,b19 ac ac⟩,ac,?_⟩
  refine h [(t+g)/2,(t-g)/2] ae λu=> ?_
  rw[id1];simp;constructor
  ·rintro(rfl|rfl)
   ·have:2*((t+g)/2)-t=g:=aa
    rw[this];exact c
   ·have:2*((t-g)/2)-t= -g:=aa
    rw[this,Int.neg_mul_neg];exact c
  ·intro q;have:=dE2 (g:=g) (x:=2*u-t) g0 aa aa
   omega
 ·rw[a7 c];refine⟨ac,h [] ae λu=> ?_⟩
  rw[id1];simp;intro q;rw[<-q]at g1 g2 c;rcases dE2 g0 g1 g2 with z|z
  ·rw[z]at c;exact c rfl
  ·rw[z,Int.neg_mul_neg]at c;exact c rfl
def cU7 (g:UG)(tb:US)(E:UD)(b:B)(ρ1:Ev):Prop:=match oS b.d with
 | some l=> ∃Pv:Nat->Ev->Prop,Pv 0 ρ1/\(∀i ρ,i<l.length->Pv i ρ->g (.pu<|l.getD i .non) ρ λρ2=>tb {E with nx:=Pv (i+1),ct:=Pv (i+1),bk:=E.nx} ρ2)/\ ∀ρ,Pv l.length ρ->E.nx ρ
 | none=>False
theorem b35 {φ:Φ}{t:UA}{g:UG}{tb:US}{E:UD}{ρ:Ev}:jL (iJ<|aW φ t) g tb E ρ=t ρ λds ρ1=>φ ds λb=>cU7 g tb E b ρ1:=rfl
theorem aU7 {g:UG}{tb:US}{E:UD}{ρ1:Ev}(l:List Int)(Pv:Nat->Ev->Prop)(h0:Pv 0 ρ1)(hs: ∀i ρ,i<l.length->Pv i ρ->g (.pu<|.int<|l.getD i 0) ρ λρ2=>tb {E with nx:=Pv (i+1),ct:=Pv (i+1),bk:=E.nx} ρ2)(hd: ∀ρ,Pv l.length ρ->E.nx ρ):cU7 g tb E (.ow<|l.map .int) ρ1:=by
 show ∃Pv:Nat->Ev->Prop,Pv 0 ρ1/\(∀i ρ,i< (l.map D.int).length->Pv i ρ->g (.pu<|(l.map D.int).getD i .non) ρ λρ2=>tb {E with nx:=Pv (i+1),ct:=Pv (i+1),bk:=E.nx} ρ2)/\ ∀ρ,Pv (l.map D.int).length ρ->E.nx ρ
 rw[aC];refine⟨Pv,h0,λi ρ hi hp=> ?_,hd⟩
 have e3:(l.map D.int).getD i .non= .int (l.getD i 0):=by
  rw[aG,bJ,aJ hi,aG,aJ hi];rfl
 rw[e3];exact hs i ρ hi hp
theorem bF5 {l:List Int}{i:Nat}(hi:i<l.length):l.getD i 0∈l:=by rw[aG,aJ hi];exact bT hi
theorem bU2 {l:List Int}{P:Int->Prop}(h: ∀k,k<l.length->P (l.getD k 0)): ∀x∈l,P x:=λx hx=>by
 obtain⟨k,hk,rfl⟩:=xZ hx;have:=h k hk;rw[aG,aJ hk]at this;exact this
def kG:Φ:=λds Q=> ∃a b c d:Int,ds=[aP [a,b,c,d,1]]/\(∀x∈[a,b,c,d],x.natAbs<=499)/\a≠0/\((∀v u w s,[a,b,c,d,1]≠qq v u w s)->Q (.pu .non))/\
 ∀v u w s,[a,b,c,d,1]=qq v u w s->(∀x∈[v,u,w,s],x.natAbs<=2^40)->Q (.pu<|.tup [aP [v,u,1],aP [w,s,1]])
def kH:US:=(aS (jL (iJ<|aW qT<|a9 (uIx (aV 0)<|uC<|.int 0) aM) (cM 1)<|aS (bX 2<|uOp b92 (uIx (aV 0)<|uC<|.int 0)<|aD 1)<|jL (iJ<|aW wB<|a9 (uIx (aV 0)<|uC<|.int 3)<|a9 (uOp M.gSub (uOp M.gSub (uIx (aV 0)<|uC<|.int 2)<|aD 1)<|aD 2) aM) (cM 3)<|aS (bX 4<|uOp M.gSub (uIx (aV 0)<|uC<|.int 3)<|aD 3)<|iO (fX<|uOp (kX false) (uOp i4 (uOp hG (aD 3)<|aD 2)<|uOp hG (aD 1)<|aD 4)<|uIx (aV 0)<|uC<|.int 1) (fP<|k8<|a9 (k8<|a9 (aD 1)<|a9 (aD 3)<|a9 (uC<|.int 1) aM)<|a9 (k8<|a9 (aD 2)<|a9 (aD 4)<|a9 (uC<|.int 1) aM) aM) fQ)<|fP<|uC .non)
theorem cH8 {u t m:Int}(h:u*(t-u)=m)(ht:t.natAbs<=2^20)(hm:m.natAbs<=2^20):u.natAbs<=2^20:=by
 by_cases c:t-u=0
 ·have:u=t:=ad
  rw[this];exact ht
 ·have h1:m.natAbs=u.natAbs*(t-u).natAbs:=by rw[<-h,fW]
  have h2:u.natAbs*1<=u.natAbs*(t-u).natAbs:=pJ _ ad
  lia
theorem a19: ∀ds Q,kG ds Q->kH {nx:=λ_=>Q (.pu .non),rt:=Q} (init ["p","v","w","u","s"] ds):=by
 rintro ds Q ⟨a,b,c,d,rfl,hs,a0,hn,hy⟩;simp only[eM]at hs;obtain⟨ha,hb,hc,hd,_⟩:=hs;have p20:(2:Nat)^20=1048576:=ac
 have p40:(2:Nat)^40=1099511627776:=ac
 unfold kH;show(aS _ _:US) _ [some<|.pu<|.tup [.int a,.int b,.int c,.int d,.int 1],none,none,none,none];have i0:atI [D.int a,.int b,.int c,.int d,.int 1] 0=some (.int a):=cW (j:=0) rfl;have i1:atI [D.int a,.int b,.int c,.int d,.int 1] 1=some (.int b):=cW (j:=1) rfl;have i2:atI [D.int a,.int b,.int c,.int d,.int 1] 2=some (.int c):=cW (j:=2) rfl
 have i3:atI [D.int a,.int b,.int c,.int d,.int 1] 3=some (.int d):=cW (j:=3) rfl;rw[aN,b35];walk_at "u";rw[i0];refine⟨a,rfl,ha,λl l9 _ l1 lb=> ?_⟩
 have ld:=l1 a0;refine aU7 l (λi ρ=> ∃z1 z2 z3 z4,ρ=[some<|.pu<|.tup [.int a,.int b,.int c,.int d,.int 1],z1,z2,z3,z4]/\ ∀k,k<i-> ∀u w s,[a,b,c,d,1]≠qq (l.getD k 0) u w s) ⟨none,none,none,none,rfl,λk hk=>ad⟩ ?_ ?_
 ·rintro i ρ hi ⟨z1,z2,z3,z4,rfl,hk⟩;have mem:=bF5 hi;have vb:=lb _ mem;have vd:=(ld _).mp mem;generalize ev':l.getD i 0=v at vb vd;obtain⟨w,rfl⟩:=vd;have v0:v≠0:=λz=>a0 (by rw[z,cT])
  have wb:w.natAbs<=499:=by
   rw[fW]at ha;have:1*w.natAbs<=v.natAbs*w.natAbs:=xW _ ad
   lia
  refine⟨ae,?_⟩
  show(aS _ _:US) _ [some<|.pu<|.tup [.int<|v*w,.int b,.int c,.int d,.int 1],some<|.pu<|.int v,z2,z3,z4]
  rw[aN,mT];walk_at "u";rw[i0];dsimp only;rw[Int.mul_fdiv_cancel_left _ v0];refine⟨⟨v0,b19 ad ad⟩,?_⟩
  rw[b35];walk_at "u";rw[i3,i2];dsimp only;refine⟨d,c-v-w,rfl,ad,ad,λus _ hus=> ?_⟩
  refine aU7 us (λj ρ=> ∃z3 z4,ρ=[some<|.pu<|.tup [.int<|v*w,.int b,.int c,.int d,.int 1],some<|.pu<|.int v,some<|.pu<|.int w,z3,z4]/\ ∀k,k<j->us.getD k 0*w+v*(d-us.getD k 0)≠b) ⟨_,_,rfl,λk hk=>ad⟩ ?_ ?_
  ·rintro j ρ hj ⟨z3,z4,rfl,hk2⟩;have um:=(hus _).mp (bF5 hj);generalize eu:us.getD j 0=u at um;have ub:=cH8 um ad ad
   refine⟨ae,?_⟩
   show(aS _ _:US) _ [some<|.pu<|.tup [.int<|v*w,.int b,.int c,.int d,.int 1],some<|.pu<|.int v,some<|.pu<|.int w,some<|.pu<|.int u,z4]
   rw[aN];walk_at "u";rw[i3];dsimp only;rw[i1];refine⟨cmL ad ad,cmL ad ad,?_⟩
   dsimp only
   by_cases q:u*w+v*(d-u)=b
   ·rw[a7 q];refine⟨ac,ac,ac,hy v u w (d-u) ?_ ?_⟩
    ·unfold qq;rw[<-q];have e1:v+w+u*(d-u)=c:=by rw[um];lia
     have e2:u+(d-u)=d:=ad
     rw[e1,e2]
    ·simp only[eM];exact⟨ad,ad,ad,ad,ae⟩
   ·rw[a6 q];refine⟨_,_,rfl,λk hk3=> ?_⟩
    by_cases ck:k<j
    ·exact hk2 k ck
    ·have:k=j:=ad
     rw[this,eu];exact q
  ·rintro ρ ⟨z3,z4,rfl,hk2⟩;have no:=bU2 (P:=λu=>u*w+v*(d-u)≠b) hk2
   refine⟨_,_,_,_,rfl,λk hk3=> ?_⟩
   by_cases ck:k<i
   ·exact hk k ck
   ·have:k=i:=ad
    rw[this,ev'];intro u w' s q;unfold qq at q
    injection q with q0 q;injection q with q1 q;injection q with q2 q;injection q with q3 q
    have ww:w'=w:=by
     have:=j0 v0 q0
     lia
    subst ww;have us':s=d-u:=ad
    subst us';exact no u ((hus u).mpr ad) q1.symm
 ·rintro ρ ⟨z1,z2,z3,z4,rfl,hk⟩;walk_at "u";refine hn λv u w s q=> ?_
  have no:=bU2 (P:=λv=> ∀u w s,[a,b,c,d,1]≠qq v u w s) hk
  refine no v ((ld v).mpr ?_) u w s q
  unfold qq at q
  injection q with q0 q
  exact⟨w,q0⟩
def aH7:Φ:=λds Q=> ∃p:List Int,ds=[aP p]/\eE p/\(¬Red p->Q (.pu .non))/\ ∀l r,Fac p l r->Red p->Q (.pu<|.tup [aP l,aP r])
def rG:US:=(qY 1)
def a53:US:=(aS (iO (bQ7 (fX<|b95 false<|aD 1)<|fX<|uOp (kX false) (kA<|aV 0)<|uC<|.int 5) (bX 1<|aW kG<|a9 (aD 0) aM) fQ) rG)
def aU8:US:=(aS (bX 1<|aW nO<|a9 (aD 0) aM) a53)
def aH8:US:=(aS (aL1<|aW hV<|a9 (aD 0) aM) aU8)
theorem c52: ∀ds Q,aH7 ds Q->aH8 {nx:=λ_=>Q (.pu .non),rt:=Q} (init ["p","q"] ds):=by
 rintro ds Q ⟨p,rfl,hp,hn,hy⟩;unfold aH8;show(aS _ _:US) _ [some<|.pu<|.tup<|p.map .int,none];rw[aN];walk_at "u";refine⟨p,rfl,hp,?_⟩;try dsimp only
 unfold aU8;rw[aN];walk_at "u";refine⟨p,rfl,hp,λnr=> ?_,λl r fac red=> ?_⟩
 ·try dsimp only
  unfold a53;rw[aN];walk_at "u";rw[aC]
  by_cases c:(p.length:Int)=5
  ·simp only[c,eU];have sm:=hp.ok.small;rcases hp.cs with⟨a,b,rfl⟩| ⟨a,b,c',rfl⟩| ⟨a,b,c',d,rfl⟩
   ·simp at c
   ·simp at c
   ·simp only[eM]at sm;refine⟨a,b,c',d,rfl,by simp only[eM];exact⟨sm.1,sm.2.1,sm.2.2.1,sm.2.2.2.1,ae⟩,λz=> ?_,λnq=> ?_,λv u w s q bd=> ?_⟩
    ·refine nr 0 ?_
     rw[cA8 hp];exact z
    ·unfold rG;walk_at "u";refine hn λrd=> ?_
     rcases rd with⟨z,hz⟩| ⟨v,u,w,s,q⟩
     ·exact nr z hz
     ·exact nq v u w s q
    ·unfold rG;walk_at "u";exact hy _ _ (by rw[q];exact fac_qq bd) (.inr ⟨v,u,w,s,q⟩)
  ·simp only[c,eU,iI];unfold rG;walk_at "u";refine hn λrd=> ?_
   rcases rd with⟨z,hz⟩| ⟨v,u,w,s,q⟩
   ·exact nr z hz
   ·rw[q]at c;exact c rfl
 ·try dsimp only
  unfold a53;rw[aN];walk_at "u";unfold rG;walk_at "u";exact hy l r fac red
noncomputable def fOf (p:List Int):Nat->Int:=λj=>p.getD j 0
theorem eE.rf {p:List Int}(h:eE p):RF (p.length-1) (fOf p):=by
 have lo:=h.ok.lo;have hi:=h.ok.hi;refine⟨aa,aa,?_,λj hj=> ?_,λj=> ?_⟩
 ·obtain⟨q,rfl⟩:=h.one;show(q++[1]).getD _ 0=1;rw[cY,aG,sY ae]
  simp
 ·show p.getD j 0=0
  rw[aG,mW aa]
  rfl
 ·exact aL (gM h.ok.small j) ac
theorem eE.row {p:List Int}(h:eE p):aP p=aP (rwF (p.length-1+1)<|fOf p):=by
 have lo:=h.ok.lo;have e:=c44 p;rw[show p.length-1+1=p.length by omega]
 exact bU aP e
def a54:Φ:=λds Q=> ∃(r:List Int) (k:Int),ds=[aP r,.int k]/\r.length<=1000/\ -1000<=k/\k<=1000/\Q (.pu<|aP<|r++replicate (k-(r.length:Int)).toNat 0)
def a55:US:=(fP<|uOp i4 (aD 0)<|uOp c96 (k8<|a9 (uC<|.int 0) aM)<|uOp M.gSub (aD 1)<|kA<|aV 0)
theorem bU3: ∀ds Q,a54 ds Q->a55 {nx:=λ_=>Q (.pu .non),rt:=Q} (init ["r","s"] ds):=by
 rintro ds Q ⟨r,k,rfl,hr,k0,k1,h⟩;unfold a55;simp only[aP];show(fP _:US) _ [some<|.pu<|.tup<|r.map .int,some<|.pu<|.int k];walk_at "u";rw[aC];have e:(replicate (k-(r.length:Int)).toNat [D.int 0]).flatten=(replicate (k-(r.length:Int)).toNat 0).map D.int:=u5 _ _;rw[e,<-bM];refine⟨ac,⟨ae,ad,ad,aL (show 1*(k-(r.length:Int)).toNat<=1000 by lia) ac⟩,?_,h⟩
 rw[aC,aE3];exact aL (show r.length+(k-(r.length:Int)).toNat<=3000 by lia) ac
def jB:ΦX:=λds Q Ex=> ∃p:List Int,ds=[aP p]/\eE p/\(¬Red p->Q (.pu .non))/\(Red p-> ∀l r,Fac p l r->Ex "FallsApart" [aP l,aP r])
noncomputable def mE:USX:=(λEx=>aS ((λ_=>(bX 1<|aW aH7<|a9 (aD 0) aM)) Ex) ((λEx=>iO (fX<|b95 true<|aD 1) ((aL7 "FallsApart" (uIx (aV 1)<|uC<|.int 0)<|uIx (aV 1)<|uC<|.int 1) Ex) ((λ_=>fQ) Ex)) Ex))
theorem a56: ∀ds Q Ex,jB ds Q Ex->ds.length=1:=by rintro ds Q Ex ⟨p,rfl,_⟩;rfl
theorem aA1: ∀ds Q Ex,jB ds Q Ex->mE Ex {nx:=λ_=>Q (.pu .non),rt:=Q} (init ["p","q"] ds):=by
 rintro ds Q Ex ⟨p,rfl,rp,h0,h1⟩;unfold mE;dsimp only;show(aS _ _:US) _ [some<|.pu<|aP p,none];rw[aN];walk_at "u";refine⟨p,rfl,rp,λnr=> ?_,λl r fac red=> ?_⟩
 ·walk_at "u"
  simpa using h0 nr
 ·walk_at "u"
  simp only[at0,at1];exact h1 red l r fac
def Wh (n:Nat)(f:Nat->Int)(size:Int):Prop:= ∃xf,SPs n f size xf/\ ∀p∈prL,sqB size p=true->b34 n f p (xf p)
def NWh (n:Nat)(f:Nat->Int)(size:Int):Prop:= ∃xf,SPs n f size xf/\ ¬ ∀p∈prL,sqB size p=true->b34 n f p (xf p)
def lL:ΦX:=λds Q Ex=> ∃(p:List Int) (size:Int),ds=[aP p,.int size]/\eE p/\(Wh (p.length-1) (fOf p) size->Q (.pu .non))/\((∃q g,d84 (p.length-1) (fOf p) size q g)->NWh (p.length-1) (fOf p) size-> ∀es,Ex "NotWhole" es)
def qF:USX:=(λEx=>aS ((λ_=>(bX 2<|aW rV<|a9 (aD 0)<|a9 (aW uE<|a9 (aD 0)<|a9 (aD 1) aM) aM)) Ex) ((λEx=>iO (fX<|b95 true<|aD 2) ((λEx=>aS ((λ_=>(cN7 (aD 2)<|vB<|gQ 3<|gQ 4 v9)) Ex) ((aL7 "NotWhole" (aD 3)<|aW a54<|a9 (aW fM<|a9 (gD [3] [none,some 3,none] 2 (iJ<|aD 4) (cM 0) (λρ Q=>Q true ρ)<|uOp o8 (aD 0)<|aD 1) aM)<|a9 (uOp M.gSub (kA<|aV 0)<|uC<|.int 1) aM) Ex)) Ex) ((λ_=>fQ) Ex)) Ex))
theorem aM9: ∀ds Q Ex,lL ds Q Ex->ds.length=2:=by rintro ds Q Ex ⟨p,size,rfl,_⟩;rfl
theorem aS1: ∀ds Q Ex,lL ds Q Ex->qF Ex {nx:=λ_=>Q (.pu .non),rt:=Q} (init ["p","s","o","q","f"] ds):=by
 rintro ds Q Ex ⟨p,size,rfl,rp,h0,h1⟩;have rf:=rp.rf;rw[rp.row];generalize p.length-1=n at *;generalize fOf p=f at *;unfold qF;dsimp only;show(aS _ _:US) _ [some<|.pu<|aP<|rwF (n+1) f,some<|.pu<|.int size,none,none,none];rw[aN];walk_at "u";refine⟨n,f,size,rfl,rf,λxf hP=>⟨n,f,size,xf,rfl,rf,hP,λfine=> ?_,λq g outs nf=> ?_⟩⟩
 ·walk_at "u"
  simpa using h0 ⟨xf,hP,fine⟩
 ·have pp:=a43 outs.pr;have p2:=pp.lo;have p3:=pp.hi;have ql:(d85 n f g).length<=5:=by
   unfold d85;rw[a90];have:=zH (divQ g.2 g.1 (n+1-g.1) f) (n+1-g.1);have:=rf.n4
   lia
  generalize d85 n f g=r at *;simp only[aP];walk_at "u";refine⟨ac,ac,trivial,?_⟩
  refine gL (t0:=0) r.length (λk=>(r.map D.int).getD k .non) [some<|.pu<|.tup<|(rwF (n+1) f).map .int,some<|.pu<|.int size,some<|.pu<|.tup [.int q,.tup<|r.map .int],some<|.pu<|.int q,some<|.pu<|.tup<|r.map .int] (λQ' q=> ?_) ad (λx l'=>[x,some<|.pu<|.int q,some<|.ow l']) none rfl (λ_ _ _=>rfl) (λ_ _=>cQ _) (λ_ _ _ q=>q) (λ_ _ _=>rfl) (λk=> .int (r.getD k 0%q)) ?_ ?_
  ·walk_at "u"
   rw[aC];exact q
  ·intro k l' Q' hk q';have e3:(r.map D.int).getD k .non= .int (r.getD k 0):=by
    rw[aG,bJ,aG,aJ hk];rfl
   rw[e3]at q'⊢;walk_at "u";refine⟨ad,?_⟩
   rw[dL _ ad]
   exact q'
  ·have e4:(List.range r.length).map (λk=>D.int (r.getD k 0%q))=((List.range r.length).map λk=>r.getD k 0%q).map D.int:=by rw[gU];rfl
   rw[e4];have n4:=rf.n4;walk_at "u";refine⟨_,_,rfl,by rw[aC,nA];lia,?_,?_,h1 ⟨q,g,outs⟩ ⟨xf,hP,nf⟩ _⟩
   ·rw[eK];lia
   ·rw[eK];lia
structure cU8 (p:List Int):Prop where
 rp:eE p
 irr: ¬Red p
 meas:(dM 4<|cO p).natAbs<=39999
 whole: ¬ ∃q g,d84 (p.length-1) (fOf p) (dM 4<|cO p) q g
def xF:ΦM:=λds Q Ex=> ∃p:List Int,ds=[aP p]/\eE p/\(¬Red p->(dM 4<|cO p).natAbs<=39999->Wh (p.length-1) (fOf p) (dM 4<|cO p)->Q [aP p,.int<|(p.length:Int)-1,.int<|dM 4<|cO p])/\(Red p-> ∀l r,Fac p l r->Ex "FallsApart" [aP l,aP r])/\(¬Red p-> ¬cU8 p->((dM 4<|cO p).natAbs<=39999->NWh (p.length-1) (fOf p) (dM 4<|cO p))->Ex "TooGreat" []/\ ∀es,Ex "NotWhole" es)
def b36:USX:=(λEx=>aS ((λ_=>(aL1<|aW hV<|a9 (aD 1) aM)) Ex) ((λEx=>aS ((λEx=>aL1 (bJ6 jB (a9 (aD 1) aM) Ex)) Ex) ((λEx=>aS ((λ_=>(bX 2<|aW zF<|a9 (aD 1) aM)) Ex) ((λEx=>aS ((λEx=>iO (fX<|uOp (sN λi j=>decide (j<i)) (aW cO4<|a9 (aD 2) aM)<|uC<|.int 39999) ((bJ7 "TooGreat"<|a9 (uC<|.str "a ring's measure is from -39,999 to 39,999") aM) Ex) ((λ_=>fQ) Ex)) Ex) ((λEx=>aL1 (bJ6 lL (a9 (aD 1)<|a9 (aD 2) aM) Ex)) Ex)) Ex)) Ex)) Ex))
def b37:UE:=(aD 1)
def b38:UE:=(uOp M.gSub (kA<|aV 1)<|uC<|.int 1)
def b39:UE:=(aD 2)
theorem cH9: ∀ds Q Ex,xF ds Q Ex->ds.length+1=2:=by rintro ds Q Ex ⟨p,rfl,_⟩;rfl
theorem cU9: ∀a ds Q Ex,xF ds Q Ex->b36 Ex {nx:=λρ=>ρ[0]? =some (some<|.pu<|.adr a)/\b37 ρ λb1 ρ1=>b38 ρ1 λb2 ρ2=>b39 ρ2 λb3 _=>Q [b1.d,b2.d,b3.d],rt:=λ_=>False} (init ["s","p","m"] (.adr a::ds)):=by
 rintro a ds Q Ex ⟨p,rfl,rp,h0,hr,h1⟩;have lo:=rp.ok.lo;unfold b36;dsimp only;show(aS _ _:US) _ [some<|.pu<|.adr a,some<|.pu<|aP p,none];rw[aN];walk_at "u";refine⟨p,rfl,rp,?_⟩;walk_at "u";refine⟨p,rfl,rp,λnr=> ?_,hr⟩
 refine⟨p,rfl,rp,?_⟩
 walk_at "u"
 by_cases c:(39999:Int)< (if dM 4 (cO p)<0 then -dM 4 (cO p)else dM 4 (cO p))
 ·rw[a7 c];refine⟨ac,(h1 nr (λz=> ?_) λz=> ?_).1⟩
  ·have:=z.meas;split at c<;>omega
  ·split at c<;>omega
 ·rw[a6 c];have me:(dM 4<|cO p).natAbs<=39999:=by split at c<;>omega
  refine⟨p,dM 4<|cO p,rfl,rp,λwh=>⟨trivial,?_⟩,λo nw=>(h1 nr (λz=>z.whole o) λ_=>nw).2⟩
  unfold b37 b38 b39;simp only[aP];walk_at "u";rw[aC];exact h0 nr me wh
noncomputable def bL3 (r:List Int)(m:Int):Bool:=r.any λc=>decide (c%m≠0)
noncomputable def cV0 (p:List Int)(size:Int):Bool:=prL.all λq=>decide (size%(q*q)≠0)||
 ((List.range q.toNat).all (λc=>bL3 (uD (p.length-1) (fOf p)<|fS (c:Int)) (q*q))&&
   (decide (p.length≠5)||(List.range q.toNat).all λv=>(List.range q.toNat).all λu=>bL3 (uD (p.length-1) (fOf p)<|quF (v:Int) (u:Int)) (q*q)))
theorem aS2 {p:Int}{F:Nat×(Nat->Int)}(mp:MP p F.1 F.2)(h1:F.1=1):F=fS (F.2 0):=by
 refine j7 h1 (funext λj=> ?_)
 show F.2 j=if j=0 then F.2 0 else if j=1 then 1 else 0
 by_cases c0:j=0
 ·rw[a7 c0,c0]
 ·by_cases c1:j=1
  ·rw[a6 c0,a7 c1,c1];have:=mp.top;rw[h1]at this;exact this
  ·rw[a6 c0,a6 c1];exact mp.hi j ad
theorem aN0 {r:List Int}{m:Int}(h: ∀c∈r,c%m=0):bL3 r m=false:=by
 unfold bL3;rw[List.any_eq_false];intro c hc;simp[h c hc]
theorem cV1 {p:List Int}{size:Int}(rp:eE p)(h:cV0 p size=true): ¬ ∃q g,d84 (p.length-1) (fOf p) size q g:=by
 rintro⟨q,g,o⟩;have lo:=rp.ok.lo;have hi:=rp.ok.hi;have pp:=a43 o.pr;have h1:=dD.mp h q o.pr;rw[yH,dS]at h1;have nz: ¬decide (size%(q*q)≠0)=true:=by rw[fV];exact λz=>z o.sq
 obtain⟨h2,h3⟩:=h1.resolve_left nz;obtain⟨R,mR,e⟩:=o.tw;have dg:p.length-1=g.1+g.1+R.1:=bU Prod.fst e;have g1:=o.g1
 by_cases c1:g.1=1
 ·have eg:=aS2 o.mg c1;have r0:=o.mg.rng 0;have h4:=dD.mp h2 (g.2 0).toNat (dE.mpr ad)
  rw[show(((g.2 0).toNat:Nat):Int)=g.2 0 by lia,<-eg,aN0 o.all]at h4
  cases h4
 ·have c2:g.1=2:=ad
  have eg:=aR7 o.mg c2;have r0:=o.mg.rng 0;have r1:=o.mg.rng 1;have n5: ¬decide (p.length≠5)=true:=by rw[fV];lia
  have h4:=(yH _ _▸h3).resolve_left n5;have h5:=dD.mp (dD.mp h4 (g.2 0).toNat<|dE.mpr ad) (g.2 1).toNat (dE.mpr ad)
  rw[show(((g.2 0).toNat:Nat):Int)=g.2 0 by lia,show(((g.2 1).toNat:Nat):Int)=g.2 1 by lia,<-eg,aN0 o.all]at h5
  cases h5
noncomputable def qG:List (List Int):=[[5,0,1],[-10,0,1],[6,1,1],[-3,0,1],[-1,-1,0,1],[-2,0,0,1],[-1,4,0,1],[1,0,0,0,1],[-1,-1,0,0,1],[1,1,1,1,1],[-2,0,0,0,1],[1,0,-1,0,1]]
theorem bU4:qG.all (λp=>cV0 p (dM 4<|cO p)&&decide ((dM 4<|cO p).natAbs<=39999))=true:=af
theorem uG: ∀p∈qG,eE p:=by
 intro p hp;have h:qG.all (λp=>decide (3<=p.length)&&decide (p.length<=5)&&p.all (λx=>decide (x.natAbs<=499))&&decide (p=p.dropLast++[1]))=true:=af
 have h1:=dD.mp h p hp;simp only[dS,fV,dD]at h1;exact⟨⟨h1.1.1.1,h1.1.1.2,h1.1.2⟩,p.dropLast,h1.2⟩
theorem cA9 (f:Nat->Int)(z:Int): ∀n,∃k,ps f z (n+1)=f 0+z*k
 | 0=>⟨0,by show 0+f 0*z^0=_;rw[cL,iG,bD];lia⟩
 | n+1=>by
  obtain⟨k,hk⟩:=cA9 f z n;refine⟨k+f (n+1)*z^n,?_⟩;show ps f z (n+1)+f (n+1)*z^(n+1)=_;rw[hk,gW]
  grind
theorem aH9 {z a:Int}(h:z∣a)(ha:a≠0):z.natAbs<=a.natAbs:=Nat.le_of_dvd ad (Int.natAbs_dvd_natAbs.mpr h)
theorem bL4:qG.all (λp=>decide (p.getD 0 0≠0)&&decide ((p.getD 0 0).natAbs<=10)&&(List.range 21).all λk=>decide (ev p ((k:Int)-10)≠0))=true:=af
theorem c53:qG.all (λp=>decide (p.length≠5)||(decide ((p.getD 0 0).natAbs<=2)&&decide ((p.getD 2 0).natAbs<=1)&&decide ((p.getD 3 0).natAbs<=1)&&
  (List.range 5).all λv=>(List.range 5).all λw=>(List.range 7).all λu=>(List.range 9).all λs=>decide (p≠qq ((v:Int)-2) ((u:Int)-3) ((w:Int)-2) ((s:Int)-4))))=true:=af
theorem cV2 {u s:Int}(h1:(u+s).natAbs<=1)(h2:(u*s).natAbs<=5):u.natAbs<=3:=by
 refine xP λz=> ?_
 rcases(show 4<=u\/u<= -4 by lia)with c|c
 ·have:4*3<=u*(-s):=yI c ad ac ad
  rw[Int.mul_neg]at this
  lia
 ·have:4*3<=(-u)*s:=yI ad ad ac ad
  rw[Int.neg_mul]at this
  lia
theorem cI0: ∀p∈qG,¬Red p:=by
 intro p hp;have h1:=dD.mp bL4 p hp;simp only[dS,fV,dD,dE]at h1;obtain⟨⟨a0,a1⟩,a2⟩:=h1;have lo:=(uG p hp).ok.lo;rintro(⟨z,hz⟩| ⟨v,u,w,s,e⟩)
 ·unfold ev at hz;obtain⟨k,hk⟩:=cA9 (λj=>p.getD j 0) z (p.length-1)
  rw[show p.length-1+1=p.length by omega,hz]at hk
  have dv:z∣p.getD 0 0:=⟨-k,by rw[Int.mul_neg];omega⟩
  have:=aH9 dv a0;refine a2 (z+10).toNat aa ?_
  rw[show(((z+10).toNat:Nat):Int)-10=z by omega]
  exact hz
 ·have h2:=dD.mp c53 p hp;have l5:p.length=5:=by rw[e];rfl
  rw[yH]at h2;have h3:=h2.resolve_left (by rw[fV];omega)
  simp only[dS,fV,dD,dE]at h3;obtain⟨⟨⟨b0,b2⟩,b3⟩,b4⟩:=h3;have e0:p.getD 0 0=v*w:=by rw[e];rfl
  have e2:p.getD 2 0=v+w+u*s:=by rw[e];rfl
  have e3:p.getD 3 0=u+s:=by rw[e];rfl
  have v2:=aH9 (z:=v) ⟨w,e0⟩ a0;have w2:=aH9 (z:=w) ⟨v,by rw[e0,qA]⟩ a0
  rw[e2]at b2;rw[e3]at b3;have u3:=cV2 b3 aa
  refine b4 (v+2).toNat aa (w+2).toNat aa (u+3).toNat aa (s+4).toNat aa ?_
  rw[show(((v+2).toNat:Nat):Int)-2=v by omega,show(((w+2).toNat:Nat):Int)-2=w by omega,show(((u+3).toNat:Nat):Int)-3=u by omega,show(((s+4).toNat:Nat):Int)-4=s by omega]
  exact e
theorem bU5: ∀p∈qG,cU8 p:=by
 intro p hp;have h1:=dD.mp bU4 p hp;simp only[dS,fV]at h1;exact⟨uG p hp,cI0 p hp,h1.2,cV1 (uG p hp) h1.1⟩
noncomputable def uH (C:Addr)(p:List Int):D:= .obj C ["poly","degree","measure"] [aP p,.int<|(p.length:Int)-1,.int<|dM 4<|cO p]
theorem cI1 {ρ:Ev}{i:Nat}{C:Addr}{p:List Int}{Q:B->Ev->Prop}(h:ρ[i]? =some (some<|.pu<|uH C p)):c39 "poly" (aD i) ρ Q=Q (.pu<|aP p) ρ:=by
 unfold c39;rw[bK8 h];rfl
noncomputable def ttF (p:List Int)(n:Nat)(u:Nat->Int):Nat->Int:=λi=>(if i=0 then 0 else u (i-1))-u (n-1)*p.getD i 0
noncomputable def itT (p:List Int)(n:Nat)(u:Nat->Int):Nat->Nat->Int
 | 0=>u
 | k+1=>ttF p n (itT p n u k)
noncomputable def cC (n:Nat)(f:Nat->Int):Int:=((List.range n).map f).sum
noncomputable def bG (p:List Int)(n:Nat)(u v:Nat->Int):Nat->Int:=λj=>cC n λi=>v i*itT p n u i j
theorem cI2 {p:List Int}{n a:Nat}{u:Nat->Int}(hp: ∀x∈p,x.natAbs<=499)(hu: ∀j,(u j).natAbs<=2^a)(j:Nat):(ttF p n u j).natAbs<=2^(a+9):=by
 unfold ttF;have h1:(if j=0 then(0:Int)else u (j-1)).natAbs<=2^a:=by
  split
  ·simp
  ·exact hu _
 have h2:(u (n-1)*p.getD j 0).natAbs<=2^a*499:=by rw[fW];exact jV (hu _) (gM hp j)
 have h3:=Int.natAbs_sub_le (if j=0 then(0:Int)else u (j-1)) (u (n-1)*p.getD j 0);rw[kT];have:(2:Nat)^9=512:=rfl
 lia
theorem aS3 {p:List Int}{n a:Nat}{u:Nat->Int}(hp: ∀x∈p,x.natAbs<=499)(hu: ∀j,(u j).natAbs<=2^a): ∀k j,(itT p n u k j).natAbs<=2^(a+9*k)
 | 0,j=>hu j
 | k+1,j=>by
  have:=cI2 (n:=n) hp (λj=>aS3 (n:=n) hp hu k j) j
  rw[yO,<-kS];exact this
noncomputable def aW9 (p:List Int)(n k:Nat)(f:Nat->Int):Nat->Int:=λm=>if k-n<=m/\m<k then f m-f k*p.getD (m-(k-n)) 0 else f m
noncomputable def a20 (p:List Int)(n:Nat)(f:Nat->Int):Nat->Nat->Int
 | 0=>f
 | t+1=>aW9 p n (2*n-2-t) (a20 p n f t)
theorem red2 (p:List Int)(u v:Nat->Int)(hu: ∀j,2<=j->u j=0)(hv: ∀j,2<=j->v j=0): ∀j,j<2->a20 p 2 (conv u v 2) 1 j=bG p 2 u v j
 | 0,_=>by simp[a20,aW9,conv,shF,bG,cC,itT,ttF,aT,hv];grind
 | 1,_=>by simp[a20,aW9,conv,shF,bG,cC,itT,ttF,aT,hv];grind
theorem red3 (p:List Int)(u v:Nat->Int)(hu: ∀j,3<=j->u j=0)(hv: ∀j,3<=j->v j=0): ∀j,j<3->a20 p 3 (conv u v 3) 2 j=bG p 3 u v j
 | 0,_=>by simp[a20,aW9,conv,shF,bG,cC,itT,ttF,aT,hv];grind
 | 1,_=>by simp[a20,aW9,conv,shF,bG,cC,itT,ttF,aT,hv];grind
 | 2,_=>by simp[a20,aW9,conv,shF,bG,cC,itT,ttF,aT,hv];grind
theorem red4 (p:List Int)(u v:Nat->Int)(hu: ∀j,4<=j->u j=0)(hv: ∀j,4<=j->v j=0): ∀j,j<4->a20 p 4 (conv u v 4) 3 j=bG p 4 u v j
 | 0,_=>by simp[a20,aW9,conv,shF,bG,cC,itT,ttF,aT,hv];grind
 | 1,_=>by simp[a20,aW9,conv,shF,bG,cC,itT,ttF,aT,hv];grind
 | 2,_=>by simp[a20,aW9,conv,shF,bG,cC,itT,ttF,aT,hv];grind
 | 3,_=>by simp[a20,aW9,conv,shF,bG,cC,itT,ttF,aT,hv];grind
def b40:Φ:=λds Q=> ∃(p:List Int) (n e:Nat) (u v:Nat->Int),ds=[aP p,aP<|rwF n u,aP<|rwF n v]/\eE p/\p.length=n+1/\e<=8900/\(∀j,(u j).natAbs<=2^e)/\(∀j,(v j).natAbs<=2^e)/\(∀j,n<=j->u j=0)/\(∀j,n<=j->v j=0)/\Q (.pu<|aP<|rwF n<|bG p n u v)
def bF6:US:=(fP<|aW fM<|a9 (uSl (aV 4) lK<|mM<|aD 3) aM)
def bF7:US:=(aS (jL (bR3<|a9 (uOp M.gSub (uOp hG (uC<|.int 2)<|aD 3)<|uC<|.int 2)<|a9 (uOp M.gSub (aD 3)<|uC<|.int 1)<|a9 (v4<|uC<|.int 1) aM) (cM 7)<|jL (jA<|a9 (aD 3) aM) (cM 6)<|aS (bX 8<|uOp i4 (uOp M.gSub (aD 7)<|aD 3)<|aD 6)<|b03 4 (uOp M.gSub (uIx (aV 4)<|aD 8)<|uOp hG (uIx (aV 4)<|aD 7)<|uIx (aV 0)<|aD 6)<|aD 8) bF6)
def bF8:US:=(aS (jL (jA<|a9 (aD 3) aM) (cM 5)<|jL (jA<|a9 (aD 3) aM) (cM 6)<|b03 4 (uOp i4 (uIx (aV 4)<|uOp i4 (aD 5)<|aD 6)<|uOp hG (uIx (aV 1)<|aD 5)<|uIx (aV 2)<|aD 6)<|uOp i4 (aD 5)<|aD 6) bF7)
def bF9:US:=(aS (bX 4<|uOp hG (jD<|a9 (uC<|.int 0) aM)<|uOp M.gSub (uOp hG (uC<|.int 2)<|aD 3)<|uC<|.int 1) bF8)
def b41:US:=(aS (bX 3<|uOp M.gSub (kA<|aV 0)<|uC<|.int 1) bF9)
theorem bL5 {p:List Int}{n:Nat}{u v:Nat->Int}(n2:2<=n)(n4:n<=4)(hu: ∀j,n<=j->u j=0)(hv: ∀j,n<=j->v j=0):rwF n (a20 p n (conv u v n)<|n-1)=rwF n (bG p n u v):=by
 refine iC λj hj=> ?_
 rcases(show n=2\/n=3\/n=4 by lia)with rfl|rfl|rfl
 ·exact red2 p u v hu hv j hj
 ·exact red3 p u v hu hv j hj
 ·exact red4 p u v hu hv j hj
noncomputable def bA2 (p:List Int)(n k j:Nat)(f:Nat->Int):Nat->Int:=λm=>if k-n<=m/\m<k-n+j then f m-f k*p.getD (m-(k-n)) 0 else f m
theorem cV3: ∀ds Q,b40 ds Q->b41 {nx:=λ_=>Q (.pu .non),rt:=Q} (init ["p","x","y","n","r","i","j","k","a"] ds):=by
 rintro ds Q ⟨p,n,e,u,v,rfl,rp,hn,he,hu,hv,uz,vz,h⟩;have lo:=rp.ok.lo;have hi:=rp.ok.hi;unfold b41;simp only[aP];show(aS _ _:US) _ [some<|.pu<|.tup<|p.map .int,some<|.pu<|.tup<|(rwF n u).map .int,some<|.pu<|.tup<|(rwF n v).map .int,none,none,none,none,none,none];rw[aN];walk_at "u";rw[aC,show(p.length:Int)-1=(n:Int)by lia]
 unfold bF9;rw[aN];walk_at "u";rw[show 2*(n:Int)-1=((2*n-1:Nat):Int)by lia,cZ,bE8]
 refine⟨ac,cmL ac ac,⟨ad,ad,aL (show 1*(2*n-1)<=300 by lia) ac⟩,?_⟩
 unfold bF8;rw[aN];refine bQ n (λi=> .int (0+i)) [some<|.pu<|.tup<|p.map .int,some<|.pu<|.tup<|(rwF n u).map .int,some<|.pu<|.tup<|(rwF n v).map .int,some<|.pu<|.int (n:Int),some<|.ow<|(rwF (2*n-1) λ_=>0).map .int,none,none,none,none] (λQ' q=> ?_)
  (λi ρ=> ∃x y,ρ=[some<|.pu<|.tup<|p.map .int,some<|.pu<|.tup<|(rwF n u).map .int,some<|.pu<|.tup<|(rwF n v).map .int,some<|.pu<|.int (n:Int),some<|.ow<|(rwF (2*n-1)<|conv u v i).map .int,x,y,none,none]) ⟨none,none,rfl⟩ ?_ ?_
 ·walk_at "u"
  refine⟨⟨ad,ad⟩,?_⟩
  rw[cZ];exact q
 ·rintro i ρ hi' ⟨x,y,rfl⟩;rw[bN];refine⟨ae,?_⟩
  show(jL _ _ _:US) _ [some<|.pu<|.tup<|p.map .int,some<|.pu<|.tup<|(rwF n u).map .int,some<|.pu<|.tup<|(rwF n v).map .int,some<|.pu<|.int (n:Int),some<|.ow<|(rwF (2*n-1)<|conv u v i).map .int,some<|.pu<|.int (i:Int),y,none,none]
  refine bQ n (λj=> .int (0+j)) [some<|.pu<|.tup<|p.map .int,some<|.pu<|.tup<|(rwF n u).map .int,some<|.pu<|.tup<|(rwF n v).map .int,some<|.pu<|.int (n:Int),some<|.ow<|(rwF (2*n-1)<|conv u v i).map .int,some<|.pu<|.int (i:Int),y,none,none] (λQ' q=> ?_)
   (λj ρ=> ∃y,ρ=[some<|.pu<|.tup<|p.map .int,some<|.pu<|.tup<|(rwF n u).map .int,some<|.pu<|.tup<|(rwF n v).map .int,some<|.pu<|.int (n:Int),some<|.ow<|(rwF (2*n-1) λm=>if m<i+j then conv u v (i+1) m else conv u v i m).map .int,some<|.pu<|.int (i:Int),y,none,none]) ⟨y,by rw[c48]⟩ ?_ ?_
  ·walk_at "u"
   refine⟨⟨ad,ad⟩,?_⟩
   rw[cZ];exact q
  ·rintro j ρ hj ⟨y,rfl⟩;rw[bN];have hij:i+j<2*n-1:=ad
   have c2:(i:Int)+(j:Int)=((i+j:Nat):Int):=ad
   walk_at "u"
   rw[c2,oH hij,oH hi',oH hj];dsimp only;rw[eK,bK7 hij,a6<|show ¬i+j<i+j by lia]
   refine⟨ae,.inr ⟨Sm.pow (hu i) ad,Sm.pow (hv j) ad⟩,some<|.pu<|.int (j:Int),?_⟩
   rw[aM4 hij,c50]
  ·rintro ρ ⟨y,rfl⟩;rw[c49 vz];exact⟨_,_,rfl⟩
 ·rintro ρ ⟨x,y,rfl⟩;dsimp only;unfold bF7;rw[aN];refine bQ (n-1) (λt=> .int ((2*n-2:Nat)-(t:Int))) [some<|.pu<|.tup<|p.map .int,some<|.pu<|.tup<|(rwF n u).map .int,some<|.pu<|.tup<|(rwF n v).map .int,some<|.pu<|.int (n:Int),some<|.ow<|(rwF (2*n-1)<|conv u v n).map .int,x,y,none,none] (λQ' q=> ?_)
   (λt ρ=> ∃y z w,ρ=[some<|.pu<|.tup<|p.map .int,some<|.pu<|.tup<|(rwF n u).map .int,some<|.pu<|.tup<|(rwF n v).map .int,some<|.pu<|.int (n:Int),some<|.ow<|(rwF (2*n-1)<|a20 p n (conv u v n) t).map .int,x,y,z,w]) ⟨y,none,none,rfl⟩ ?_ ?_
  ·walk_at "u"
   refine⟨cmL ac ac,trivial,⟨ad,ad,ad,ad⟩,?_⟩
   rw[show(2*(n:Int)-2-((n:Int)-1)).toNat=n-1 by lia,show 2*(n:Int)-2=((2*n-2:Nat):Int)by lia]
   exact q
  ·rintro t ρ ht ⟨y,z,w,rfl⟩;obtain⟨k,hk⟩: ∃k:Nat,k=2*n-2-t:=⟨_,rfl⟩;rw[show((2*n-2:Nat):Int)-(t:Int)=(k:Int)by lia]
   generalize hf:a20 p n (conv u v n) t=f;refine⟨ae,?_⟩
   show(jL _ _ _:US) _ [some<|.pu<|.tup<|p.map .int,some<|.pu<|.tup<|(rwF n u).map .int,some<|.pu<|.tup<|(rwF n v).map .int,some<|.pu<|.int (n:Int),some<|.ow<|(rwF (2*n-1) f).map .int,x,y,some<|.pu<|.int (k:Int),w]
   refine bQ n (λj=> .int (0+j)) [some<|.pu<|.tup<|p.map .int,some<|.pu<|.tup<|(rwF n u).map .int,some<|.pu<|.tup<|(rwF n v).map .int,some<|.pu<|.int (n:Int),some<|.ow<|(rwF (2*n-1) f).map .int,x,y,some<|.pu<|.int (k:Int),w] (λQ' q=> ?_)
    (λj ρ=> ∃y w,ρ=[some<|.pu<|.tup<|p.map .int,some<|.pu<|.tup<|(rwF n u).map .int,some<|.pu<|.tup<|(rwF n v).map .int,some<|.pu<|.int (n:Int),some<|.ow<|(rwF (2*n-1)<|bA2 p n k j f).map .int,x,y,some<|.pu<|.int (k:Int),w]) ⟨y,w,?_⟩ ?_ ?_
   ·walk_at "u"
    refine⟨⟨ad,ad⟩,?_⟩
    rw[cZ];exact q
   ·have e0:bA2 p n k 0 f=f:=funext λm=>by unfold bA2;rw[a6 ad]
    rw[e0]
   ·rintro j ρ hj ⟨y,w,rfl⟩;rw[bN];have hat:k-n+j<2*n-1:=ad
    have hkk:k<2*n-1:=ad
    have c2:(k:Int)-(n:Int)+(j:Int)=((k-n+j:Nat):Int):=ad
    have e5:atI (p.map D.int) (j:Int)=some (.int<|p.getD j 0):=cW (by rw[bJ,aJ ad,aG,aJ ad];rfl)
    have e6:=gM rp.ok.small j;walk_at "u";rw[c2,oH hat,oH hkk,e5];dsimp only;rw[eK,bK7 hat];refine⟨ae,cmR ad ad,some<|.pu<|.int (j:Int),some<|.pu<|.int ((k-n+j:Nat):Int),?_⟩
    rw[aM4 hat];have e7:(λx=>if x=k-n+j then bA2 p n k j f (k-n+j)-bA2 p n k j f k*p.getD j 0 else bA2 p n k j f x)=bA2 p n k (j+1) f:=funext λm=>by
     unfold bA2
     by_cases c:m=k-n+j
     ·rw[a7 c,a6 ad,a6 ad,a7 ad,c,show k-n+j-(k-n)=j by lia]
     ·rw[a6 c]
      by_cases c3:k-n<=m/\m<k-n+j
      ·rw[a7 c3,a7 ad]
      ·rw[a6 c3,a6 ad]
    rw[e7]
   ·rintro ρ ⟨y,w,rfl⟩;refine⟨y,some<|.pu<|.int (k:Int),w,?_⟩;have e8:bA2 p n k n f=a20 p n (conv u v n) (t+1):=by
     show _=aW9 p n (2*n-2-t) (a20 p n (conv u v n) t)
     rw[hf,<-hk];unfold bA2 aW9
     funext m
     rw[show k-n+n=k by lia]
    rw[e8]
  ·rintro ρ ⟨y,z,w,rfl⟩;dsimp only;unfold bF6;walk_at "u";rw[bK2 _ _ (by rw[eK];lia),<-pX,bT1 _ _ _ ad,bL5 ad ad uz vz]
   exact h
theorem b42 (row:List Int)(s:Int): ∀k,(aR3 row s k).length=row.length
 | 0=>rfl
 | k+1=>by unfold aR3;rw[fG];exact b42 row s k
theorem cB0 (p:List Int)(s:Int): ∀k,(shK p s k).length=p.length
 | 0=>rfl
 | k+1=>by unfold shK;rw[b42];exact cB0 p s k
theorem bU6 {n k:Nat}(h:k<n):ixN n (k:Int)=some k:=by
 unfold ixN;rw[a7 ad,a7 ad,cZ]
theorem cV4 (l:List Int)(k:Nat)(x:Int):(l.map D.int).set k (.int x)=(l.set k x).map D.int:=by rw[List.map_set]
def zJ:Φ:=λds Q=> ∃(p:List Int) (s:Int),ds=[aP p,.int s]/\3<=p.length/\p.length<=5/\s.natAbs<=3/\Q (.pu<|aP<|shK p s<|p.length-1)
def aI0:US:=(aS (bX 2<|aW aL0<|a9 (aD 0) aM)<|aS (jL (jA<|a9 (uOp M.gSub (kA<|aV 2)<|uC<|.int 1) aM) (cM 3)<|jL (bR3<|a9 (uOp M.gSub (kA<|aV 2)<|uC<|.int 2)<|a9 (uOp M.gSub (aD 3)<|uC<|.int 1)<|a9 (v4<|uC<|.int 1) aM) (cM 4)<|b03 2 (uOp i4 (uIx (aV 2)<|aD 4)<|uOp hG (aD 1)<|uIx (aV 2)<|uOp i4 (aD 4)<|uC<|.int 1)<|aD 4)<|fP<|aW fM<|a9 (aD 2) aM)
theorem c54: ∀ds Q,zJ ds Q->aI0 {nx:=λ_=>Q (.pu .non),rt:=Q} (init ["p","s","r","l","a"] ds):=by
 rintro ds Q ⟨p,s,rfl,h3,h5,hs,h⟩;have lp:(p.map D.int).length=p.length:=aC _;unfold aI0;show(aS _ _:US) _ [some<|.pu<|.tup<|p.map .int,some<|.pu<|.int s,none,none,none];walk_at "u";refine bQ (p.length-1) (λi=> .int (0+i)) [some<|.pu<|.tup<|p.map .int,some<|.pu<|.int s,some<|.ow<|p.map .int,none,none] ?_
  (λi ρ=> ∃x y,ρ=[some<|.pu<|.tup<|p.map .int,some<|.pu<|.int s,some<|.ow<|(shK p s i).map .int,x,y]) ⟨none,none,rfl⟩ ?_ ?_
 ·intro Q' q;simp only[jA];walk_at "u";rw[lp];refine⟨ad,?_⟩
  rw[show((p.length:Int)-1).toNat=p.length-1 by lia]
  exact q
 ·rintro i ρ hi ⟨x,y,rfl⟩;have lk:=cB0 p s i;have e1:shK p s (i+1)=aR3 (shK p s i) s (p.length-1-i):=rfl;rw[e1];generalize shK p s i=row at lk;have lrow:(row.map D.int).length=row.length:=aC _;walk_at "u";refine⟨ac,?_⟩
  refine bQ (p.length-1-i) (λk=> .int ((p.length:Int)-2-k)) [some<|.pu<|.tup<|p.map .int,some<|.pu<|.int s,some<|.ow<|row.map .int,some<|.pu<|.int<|0+(i:Int),y] ?_
   (λk ρ=> ∃y,ρ=[some<|.pu<|.tup<|p.map .int,some<|.pu<|.int s,some<|.ow<|(aR3 row s k).map .int,some<|.pu<|.int<|0+(i:Int),y]) ⟨y,rfl⟩ ?_ ?_
  ·intro Q' q;simp only[bR3];walk_at "u";rw[lrow,lk];refine⟨trivial,ad,?_⟩
   rw[show((p.length:Int)-2-(0+(i:Int)-1)).toNat=p.length-1-i by lia]
   exact q
  ·rintro k ρ hk ⟨y,rfl⟩;have l2:=b42 row s k;walk_at "u";refine⟨ac,?_⟩
   have a1:(p.length:Int)-2-(k:Int)=((p.length-2-k:Nat):Int):=ad
   have a2:((p.length-2-k:Nat):Int)+1=((p.length-1-k:Nat):Int):=ad
   rw[a1,a2,a39<|show p.length-2-k< (aR3 row s k).length by lia,a39<|show p.length-1-k< (aR3 row s k).length by lia]
   dsimp only;rw[bU6 (show p.length-2-k< ((aR3 row s k).map D.int).length by rw[aC];lia)]
   refine⟨cmL ad ad,some<|.pu<|.int ((p.length-2-k:Nat):Int),?_⟩
   rw[cV4];rw[<-lk];rfl
  ·rintro ρ ⟨y,rfl⟩;exact⟨_,_,rfl⟩
 ·rintro ρ ⟨x,y,rfl⟩;walk_at "u";exact h
def wD:Φ:=λds Q=> ∃c:Int,ds=[.int c]/\ ∀p∈qG,Q (.pu<|aP p)
def a57:US:=(fP<|uIx (aV 1)<|uOp o8 (aW a37<|a9 (aD 0)<|a9 (uC<|.int 3)<|a9 (uC<|.int 998244353) aM)<|uC<|.int 12)
def a58:US:=(aS (bX 1<|uOp i4 (aD 1)<|jD<|a9 (k8<|a9 (uC<|.int 1)<|a9 (uC<|.int 0)<|a9 (uC<|.int 0)<|a9 (uC<|.int 0)<|a9 (uC<|.int 1) aM)<|a9 (k8<|a9 (v4<|uC<|.int 1)<|a9 (v4<|uC<|.int 1)<|a9 (uC<|.int 0)<|a9 (uC<|.int 0)<|a9 (uC<|.int 1) aM)<|a9 (k8<|a9 (uC<|.int 1)<|a9 (uC<|.int 1)<|a9 (uC<|.int 1)<|a9 (uC<|.int 1)<|a9 (uC<|.int 1) aM)<|a9 (k8<|a9 (v4<|uC<|.int 2)<|a9 (uC<|.int 0)<|a9 (uC<|.int 0)<|a9 (uC<|.int 0)<|a9 (uC<|.int 1) aM)<|a9 (k8<|a9 (uC<|.int 1)<|a9 (uC<|.int 0)<|a9 (v4<|uC<|.int 1)<|a9 (uC<|.int 0)<|a9 (uC<|.int 1) aM) aM) a57)
def wE:US:=(aS (bX 1<|jD<|a9 (k8<|a9 (uC<|.int 5)<|a9 (uC<|.int 0)<|a9 (uC<|.int 1) aM)<|a9 (k8<|a9 (v4<|uC<|.int 10)<|a9 (uC<|.int 0)<|a9 (uC<|.int 1) aM)<|a9 (k8<|a9 (uC<|.int 6)<|a9 (uC<|.int 1)<|a9 (uC<|.int 1) aM)<|a9 (k8<|a9 (v4<|uC<|.int 3)<|a9 (uC<|.int 0)<|a9 (uC<|.int 1) aM)<|a9 (k8<|a9 (v4<|uC<|.int 1)<|a9 (v4<|uC<|.int 1)<|a9 (uC<|.int 0)<|a9 (uC<|.int 1) aM)<|a9 (k8<|a9 (v4<|uC<|.int 2)<|a9 (uC<|.int 0)<|a9 (uC<|.int 0)<|a9 (uC<|.int 1) aM)<|a9 (k8<|a9 (v4<|uC<|.int 1)<|a9 (uC<|.int 4)<|a9 (uC<|.int 0)<|a9 (uC<|.int 1) aM) aM) a58)
theorem cV5 {k:Int}(h0:0<=k)(h1:k<12): ∃p∈qG,atI (qG.map aP) k=some (aP p):=by
 obtain⟨i,rfl⟩: ∃i:Nat,k=(i:Int):=⟨k.toNat,ad⟩
 have hi:i<qG.length:=show i<12 by lia
 exact⟨qG[i],bT hi,cW (by rw[bJ,aJ hi];rfl)⟩
theorem bA3: ∀ds Q,wD ds Q->wE {nx:=λ_=>Q (.pu .non),rt:=Q} (init ["c","k"] ds):=by
 rintro ds Q ⟨c,rfl,h⟩;unfold wE;show(aS _ _:US) _ [some<|.pu<|.int c,none];rw[aN];walk_at "u";refine⟨ac,ac,ac,ac,ac,ac,ac,ac,?_⟩
 unfold a58;rw[aN];walk_at "u";refine⟨ac,ac,ac,ac,ac,ac,ac,?_⟩
 unfold a57;walk_at "u";refine⟨c,3,998244353,rfl,ac,ac,ac,λr r0 r1=> ?_⟩
 walk_at "u"
 refine⟨ac,?_⟩
 rw[dL _ ac]
 obtain⟨p,hp,e⟩:=cV5 (cR r<|show(12:Int)≠0 by decide) (cP r<|show(0:Int)<12 by decide)
 have e': ∀l:List D,l=qG.map aP->(match atI l (r%12)with|some x=>Q (.pu x)|none=>False):=λl hl=>by
  rw[hl,e];exact h p hp
 exact e' _ rfl
def bL6:Φ:=λds Q=> ∃c q:Int,ds=[.int c,.int q]/\0<q/\ ∀p,eE p->Q (.pu<|aP p)
structure RG (p:List Int):Prop where
 irr: ¬Red p
 meas:(dM 4<|cO p).natAbs<=39999
 wh:Wh (p.length-1) (fOf p) (dM 4<|cO p)
def bL7:Φ:=λds Q=> ∃(ns:List Int) (k:Nat) (q:Int),ds=[.rol<|ns.map .int,.int (k:Int),.int q]/\ns.length<=63/\k<=1000/\0<q/\ ∀C p,eE p->RG p->Q (.pu<|uH C p)
def b43:US:=(qY 3)
def bU7:US:=(aS (iO (fX<|b95 false<|aD 3) (bX 3<|cS1 ["poly","degree","measure"] xF<|a9 (aW wD<|a9 (aW aM0<|a9 (aD 0)<|a9 (aD 1) aM) aM) aM) fQ) b43)
def bU8:US:=(aS (jL (jA<|a9 (uC<|.int 3) aM) (cM 4)<|iO (fX<|b95 false<|aD 3) (cS2 3 ["poly","degree","measure"] xF (a9 (aW bL6<|a9 (aW aM0<|a9 (aD 0)<|a9 (uOp i4 (aD 1)<|aD 4) aM)<|a9 (aD 2) aM) aM) ["FallsApart","TooGreat","NotWhole"]<|bX 3<|uC .non) fQ) bU7)
def bL8:US:=(aS (bX 3<|uC .non) bU8)
theorem d86: ∀ds Q,bL7 ds Q->bL8 {nx:=λ_=>Q (.pu .non),rt:=Q} (init ["s","k","q","f","j"] ds):=by
 rintro ds Q ⟨ns,k,q,rfl,hl,hk,hq,h⟩;unfold bL8;show(aS _ _:US) _ [some<|.pu<|.rol<|ns.map .int,some<|.pu<|.int (k:Int),some<|.pu<|.int q,none,none];rw[aN];walk_at "u";unfold bU8;rw[aN];refine bQ 3 (λi=> .int (0+i)) [some<|.pu<|.rol<|ns.map .int,some<|.pu<|.int (k:Int),some<|.pu<|.int q,some<|.pu .non,none] (λQ' q=> ?_)
  (λi ρ=> ∃d x,ρ=[some<|.pu<|.rol<|ns.map .int,some<|.pu<|.int (k:Int),some<|.pu<|.int q,some<|.pu d,x]/\(d= .non\/ ∃C p,eE p/\RG p/\d=uH C p)) ⟨.non,none,rfl,.inl rfl⟩ ?_ ?_
 ·walk_at "u"
  exact⟨ac,q⟩
 ·rintro i ρ hi ⟨d,x,rfl,hd⟩;refine⟨ae,?_⟩
  rcases hd with rfl| ⟨C,p,rp,nr,rfl⟩
  ·walk_at "u"
   unfold cS2;walk_at "u";refine⟨ns,(k:Int)+(0+(i:Int)),rfl,hl,ad,ad,λc=>⟨c,q,rfl,hq,λp rp=> ?_⟩⟩
   walk_at "u"
   refine⟨p,rfl,rp,λnr me wh C=>⟨uH C p,some<|.pu<|.int<|0+(i:Int),rfl,.inr ⟨C,p,rp,⟨nr,me,wh⟩,rfl⟩⟩,λ_ _ _ _=>⟨ae,.non,_,rfl,.inl rfl⟩,λ_ _ _=>⟨⟨ae,.non,_,rfl,.inl rfl⟩,λ_=>⟨ae,.non,_,rfl,.inl rfl⟩⟩⟩
  ·simp only[uH];walk_at "u";exact⟨uH C p,_,rfl,.inr ⟨C,p,rp,nr,rfl⟩⟩
 ·rintro ρ ⟨d,x,rfl,hd⟩;dsimp only;unfold bU7;rw[aN];rcases hd with rfl| ⟨C,p,rp,nr,rfl⟩
  ·walk_at "u"
   unfold cS1;walk_at "u";refine⟨ns,(k:Int),rfl,hl,ad,ad,λc=>⟨c,rfl,λp hp=> ?_⟩⟩
   walk_at "u"
   refine⟨p,rfl,uG p hp,λnr me wh C=> ?_,λred=>absurd red (bU5 p hp).irr,λ_ z=>absurd (bU5 p hp) z⟩
   unfold b43;walk_at "u";exact h C p (uG p hp) ⟨nr,me,wh⟩
  ·simp only[uH];walk_at "u";unfold b43;walk_at "u";exact h C p rp nr
def bU9:US:=(fP<|aW zJ<|a9 (k8<|a9 (uOp M.gSub (uIx (aV 4)<|uC<|.int 2)<|uC<|.int 3)<|a9 (uOp M.gSub (uIx (aV 4)<|uC<|.int 3)<|uC<|.int 3)<|a9 (uOp M.gSub (uIx (aV 4)<|uC<|.int 4)<|uC<|.int 3)<|a9 (uOp M.gSub (uIx (aV 4)<|uC<|.int 6)<|uC<|.int 3)<|a9 (uC<|.int 1) aM)<|a9 (uOp M.gSub (uIx (aV 4)<|uC<|.int 5)<|uC<|.int 2) aM)
def bV0:US:=(aS (bX 4<|aW oE<|a9 (aD 0)<|a9 (jD<|a9 (uC<|.int 3)<|a9 (uC<|.int 8)<|a9 (uC<|.int 7)<|a9 (uC<|.int 7)<|a9 (uC<|.int 7)<|a9 (uC<|.int 5)<|a9 (uC<|.int 7) aM)<|a9 (aD 1) aM) bU9)
def bV1:US:=(aS (iO (fX<|uOp (kX false) (uIx (aV 2)<|uC<|.int 0)<|uC<|.int 1) (fP<|aW zJ<|a9 (k8<|a9 (uOp M.gSub (uIx (aV 4)<|uC<|.int 2)<|uC<|.int 4)<|a9 (uOp M.gSub (uIx (aV 4)<|uC<|.int 3)<|uC<|.int 4)<|a9 (uOp M.gSub (uIx (aV 4)<|uC<|.int 4)<|uC<|.int 4)<|a9 (uC<|.int 1) aM)<|a9 (uOp M.gSub (uIx (aV 4)<|uC<|.int 5)<|uC<|.int 2) aM) fQ) bV0)
def bV2:US:=(aS (iO (fX<|uOp (kX false) (uIx (aV 2)<|uC<|.int 0)<|uC<|.int 0) (aS (bX 4<|aW oE<|a9 (aD 0)<|a9 (jD<|a9 (uC<|.int 3)<|a9 (uC<|.int 8)<|a9 (uC<|.int 161)<|a9 (uC<|.int 41) aM)<|a9 (aD 1) aM)<|fP<|k8<|a9 (uOp M.gSub (uIx (aV 4)<|uC<|.int 2)<|uC<|.int 80)<|a9 (uOp M.gSub (uIx (aV 4)<|uC<|.int 3)<|uC<|.int 20)<|a9 (uC<|.int 1) aM) fQ) bV1)
def b44:US:=(aS (bX 4<|aW oE<|a9 (aD 0)<|a9 (jD<|a9 (uC<|.int 3)<|a9 (uC<|.int 8)<|a9 (uC<|.int 9)<|a9 (uC<|.int 9)<|a9 (uC<|.int 9)<|a9 (uC<|.int 5)<|a9 (uC<|.int 7) aM)<|a9 (aD 1) aM) bV2)
def bV3:US:=(aS (iO (fX<|uOp (kX false) (uIx (aV 2)<|uC<|.int 1)<|uC<|.int 7) (fP<|aW fM<|a9 (uOp i4 (gD [] [none,none] 1 (iJ<|aD 3) (cM 0) (λρ Q=>Q true ρ)<|uOp M.gSub (aD 0)<|uC<|.int 499)<|jD<|a9 (uC<|.int 1) aM) aM) fQ) b44)
def bV4:US:=(aS (bX 3<|uSl (uV<|aW oE<|a9 (aD 0)<|a9 (jD<|a9 (uC<|.int 3)<|a9 (uC<|.int 8)<|a9 (uC<|.int 999)<|a9 (uC<|.int 999)<|a9 (uC<|.int 999)<|a9 (uC<|.int 999) aM)<|a9 (aD 1) aM) (mM<|uC<|.int 2)<|mM<|uOp i4 (uIx (aV 2)<|uC<|.int 0)<|uC<|.int 4) bV3)
def bL9:US:=(aS (bX 2<|aW oE<|a9 (aD 0)<|a9 (jD<|a9 (uC<|.int 3)<|a9 (uC<|.int 8) aM)<|a9 (aD 1) aM) bV4)
theorem rp_two {a b:Int}(ha:a.natAbs<=499)(hb:b.natAbs<=499):eE [a,b,1]:=⟨⟨ae,ae,λx hx=>by
 simp only[aY,eN,eS]at hx;rcases hx with rfl|rfl|rfl<;>lia⟩,[a,b],rfl⟩
theorem nba {x y:Int}{m k:Nat}(hx:x.natAbs<=m)(hy:y.natAbs<=k):(x+y).natAbs<=m+k:=aL (yA x y) (Nat.add_le_add hx hy)
theorem nbm {x y:Int}{m k:Nat}(hx:x.natAbs<=m)(hy:y.natAbs<=k):(x*y).natAbs<=m*k:=by rw[fW];exact jV hx hy
theorem nbl {x:Int}{m k:Nat}(h:decide (m<=k)=true)(hx:x.natAbs<=m):x.natAbs<=k:=aL hx (pP h)
theorem nbc (n:Nat):((n:Nat):Int).natAbs<=n:=aB n
theorem rp_sh3 {a b c s:Int}(ha:a.natAbs<=4)(hb:b.natAbs<=4)(hc:c.natAbs<=4)(hs:s.natAbs<=2):eE (shK [a,b,c,1] s 3):=by
 rw[she3];refine⟨⟨by simp[sh3],by simp[sh3],λx hx=> ?_⟩,_,rfl⟩
 simp only[sh3,List.cons_append,yD,aY,eN,eS]at hx;have s2:=nbm hs hs;have s3:=nbm s2 hs;rcases hx with rfl|rfl|rfl|rfl
 ·exact nbl rfl (nba (nba (nba ha<|nbm hs hb)<|nbm s2 hc) s3)
 ·exact nbl rfl (nba (nba hb<|nbm (nbm (nbc 2) hs) hc)<|nbm (nbm (nbc 3) hs) hs)
 ·exact nbl rfl (nba hc<|nbm (nbc 3) hs)
 ·decide
theorem rp_sh4 {a b c d s:Int}(ha:a.natAbs<=3)(hb:b.natAbs<=3)(hc:c.natAbs<=3)(hd:d.natAbs<=3)(hs:s.natAbs<=2):eE (shK [a,b,c,d,1] s 4):=by
 rw[she4];refine⟨⟨by simp[sh4],by simp[sh4],λx hx=> ?_⟩,_,rfl⟩
 simp only[sh4,List.cons_append,yD,aY,eN,eS]at hx;have s2:=nbm hs hs;have s3:=nbm s2 hs;rcases hx with rfl|rfl|rfl|rfl|rfl
 ·exact nbl rfl (nba (nba (nba (nba ha<|nbm hs hb)<|nbm s2 hc)<|nbm s3 hd)<|nbm s3 hs)
 ·exact nbl rfl (nba (nba (nba hb<|nbm (nbm (nbc 2) hs) hc)<|nbm (nbm (nbm (nbc 3) hs) hs) hd)<|nbm (nbm (nbm (nbc 4) hs) hs) hs)
 ·exact nbl rfl (nba (nba hc<|nbm (nbm (nbc 3) hs) hd)<|nbm (nbm (nbc 6) hs) hs)
 ·exact nbl rfl (nba hd<|nbm (nbc 4) hs)
 ·decide
theorem d87 {ws:List Int}(h2:2<=ws.length)(h4:ws.length<=4)(hb: ∀w∈ws,0<=w/\w<999):eE (ws.map (λw=>w-499)++[1]):=by
 refine⟨⟨by rw[cY,aC];show 3<=ws.length+1;lia,by rw[cY,aC];show ws.length+1<=5;lia,λx hx=> ?_⟩,_,rfl⟩
 rcases bC.mp hx with hx|hx
 ·obtain⟨w,hw,rfl⟩:=dU.mp hx;have:=hb w hw
  lia
 ·rw[jQ.mp hx];decide
theorem cI3 (c q a b:Int)(ws:List Int)(h4:ws.length<=4)(Q:B->Prop)(h:Q (.pu<|aP<|ws.map (λw=>w-499)++[1])) :
  (fP (aW fM<|a9 (uOp i4 (gD [] [none,none] 1 (iJ<|aD 3) (cM 0) (λρ Q=>Q true ρ)<|uOp M.gSub (aD 0)<|uC<|.int 499)<|jD<|a9 (uC<|.int 1) aM) aM):US) {nx:=λ_=>Q (.pu .non),rt:=Q} [some<|.pu<|.int c,some<|.pu<|.int q,some<|.ow [.int a,.int b],some<|.ow<|ws.map .int,none]:=by
 rw[qS,iV,iW,c45];refine gL (t0:=0) ws.length (λk=>(ws.map D.int).getD k .non) [some<|.pu<|.int c,some<|.pu<|.int q,some<|.ow [.int a,.int b],some<|.pu<|.lst<|ws.map .int,none] (λQ' q=> ?_) ad (λx l'=>[x,some<|.ow l']) none rfl (λ_ _ _=>rfl) (λ_ _=>cQ _) (λ_ _ _ q=>q) (λ_ _ _=>rfl) (λk=> .int (ws.getD k 0-499)) ?_ ?_
 ·walk_at "u"
  rw[aC];exact q
 ·intro k l' Q' hk q';have e3:(ws.map D.int).getD k .non= .int (ws.getD k 0):=by
   rw[aG,bJ,aG,aJ hk];rfl
  rw[e3]at q'⊢;walk_at "u";exact q'
 ·have e4:(List.range ws.length).map (λk=>D.int (ws.getD k 0-499))=(ws.map λw=>w-499).map D.int:=by
   apply jT
   ·simp
   ·intro i h1 h2;simp at h1;simp[aG,h1]
  rw[e4];walk_at "u";have e5:(ws.map λw=>w-499).map D.int++[D.int 1]=(ws.map (λw=>w-499)++[1]).map D.int:=by rw[bM];rfl
  rw[e5];refine⟨ac,?_,h⟩
  rw[aC,aC];exact aL (show ws.length+(0+1)<=5 by lia) ac
theorem cV6 (c q a b:Int)(w:Option B)(a0:0<=a)(a1:a<3)(hq:0<q)(Q:B->Prop)(h: ∀p,eE p->Q (.pu<|aP p)) :
  b44 {nx:=λ_=>Q (.pu .non),rt:=Q} [some<|.pu<|.int c,some<|.pu<|.int q,some<|.ow [.int a,.int b],w,none]:=by
 unfold b44;rw[aN];walk_at "u";refine⟨ac,c,[3,8,9,9,9,5,7],q,rfl,ac,hq,ac,λxs hx=> ?_⟩
 obtain⟨x0,x1,x2,x3,x4,x5,x6,rfl⟩: ∃x0 x1 x2 x3 x4 x5 x6,xs=[x0,x1,x2,x3,x4,x5,x6]:=by
  match xs,hx.1 with
  | [x0,x1,x2,x3,x4,x5,x6],_=>exact⟨x0,x1,x2,x3,x4,x5,x6,rfl⟩
 have b2:=hx.2 2 x2 9 rfl rfl;have b3:=hx.2 3 x3 9 rfl rfl;have b4:=hx.2 4 x4 9 rfl rfl;have b5:=hx.2 5 x5 5 rfl rfl;simp only[d6,j6];unfold bV2;rw[aN];walk_at "u";rw[aL9];dsimp only
 by_cases c0:a=0
 ·rw[a7 c0];refine⟨ac,c,[3,8,161,41],q,rfl,ac,hq,ac,λys hy=> ?_⟩
  obtain⟨y0,y1,y2,y3,rfl⟩: ∃y0 y1 y2 y3,ys=[y0,y1,y2,y3]:=by
   match ys,hy.1 with
   | [y0,y1,y2,y3],_=>exact⟨y0,y1,y2,y3,rfl⟩
  have k2:=hy.2 2 y2 161 rfl rfl;have k3:=hy.2 3 y3 41 rfl rfl;simp only[d6,j6]
  (try walk_at "u")
  rw[show atI [D.int y0,.int y1,.int y2,.int y3] 2=some (.int y2)from cW (j:=2) rfl,show atI [D.int y0,.int y1,.int y2,.int y3] 3=some (.int y3)from cW (j:=3) rfl]
  dsimp only;exact⟨ac,h [y2-80,y3-20,1]<|rp_two ad ad⟩
 rw[a6 c0];have t2:atI [D.int x0,.int x1,.int x2,.int x3,.int x4,.int x5,.int x6] 2=some (.int x2):=cW (j:=2) rfl;have t3:atI [D.int x0,.int x1,.int x2,.int x3,.int x4,.int x5,.int x6] 3=some (.int x3):=cW (j:=3) rfl;have t4:atI [D.int x0,.int x1,.int x2,.int x3,.int x4,.int x5,.int x6] 4=some (.int x4):=cW (j:=4) rfl
 have t5:atI [D.int x0,.int x1,.int x2,.int x3,.int x4,.int x5,.int x6] 5=some (.int x5):=cW (j:=5) rfl;unfold bV1;rw[aN];walk_at "u";rw[aL9];dsimp only
 by_cases c1:a=1
 ·rw[a7 c1,t2,t3,t4,t5];dsimp only;exact⟨ac,[x2-4,x3-4,x4-4,1],x5-2,rfl,ae,ae,ad,h _<|rp_sh3 ad ad ad ad⟩
 rw[a6 c1];unfold bV0;rw[aN];walk_at "u";refine⟨ac,c,[3,8,7,7,7,5,7],q,rfl,ac,hq,ac,λys hy=> ?_⟩
 obtain⟨y0,y1,y2,y3,y4,y5,y6,rfl⟩: ∃x0 x1 x2 x3 x4 x5 x6,ys=[x0,x1,x2,x3,x4,x5,x6]:=by
  match ys,hy.1 with
  | [x0,x1,x2,x3,x4,x5,x6],_=>exact⟨x0,x1,x2,x3,x4,x5,x6,rfl⟩
 have k2:=hy.2 2 y2 7 rfl rfl;have k3:=hy.2 3 y3 7 rfl rfl;have k4:=hy.2 4 y4 7 rfl rfl;have k5:=hy.2 5 y5 5 rfl rfl;have k6:=hy.2 6 y6 7 rfl rfl;simp only[d6,j6];unfold bU9;walk_at "u"
 rw[show atI [D.int y0,.int y1,.int y2,.int y3,.int y4,.int y5,.int y6] 2=some (.int y2)from cW (j:=2) rfl,show atI [D.int y0,.int y1,.int y2,.int y3,.int y4,.int y5,.int y6] 3=some (.int y3)from cW (j:=3) rfl,show atI [D.int y0,.int y1,.int y2,.int y3,.int y4,.int y5,.int y6] 4=some (.int y4)from cW (j:=4) rfl,show atI [D.int y0,.int y1,.int y2,.int y3,.int y4,.int y5,.int y6] 5=some (.int y5)from cW (j:=5) rfl,show atI [D.int y0,.int y1,.int y2,.int y3,.int y4,.int y5,.int y6] 6=some (.int y6)from cW (j:=6) rfl]
 dsimp only;exact⟨ac,[y2-3,y3-3,y4-3,y6-3,1],y5-2,rfl,ae,ae,ad,h _<|rp_sh4 ad ad ad ad ad⟩
theorem d88: ∀ds Q,bL6 ds Q->bL9 {nx:=λ_=>Q (.pu .non),rt:=Q} (init ["c","q","d","w","f"] ds):=by
 rintro ds Q ⟨c,q,rfl,hq,h⟩;unfold bL9;show(aS _ _:US) _ [some<|.pu<|.int c,some<|.pu<|.int q,none,none,none];rw[aN];walk_at "u";refine⟨ac,c,[3,8],q,rfl,ac,hq,ac,λxs hx=> ?_⟩
 obtain⟨a,b,rfl⟩: ∃a b,xs=[a,b]:=by
  match xs,hx.1 with
  | [a,b],_=>exact⟨a,b,rfl⟩
 have ba:=hx.2 0 a 3 rfl rfl;simp only[d6,j6];unfold bV4;rw[aN];walk_at "u";refine⟨ac,c,[3,8,999,999,999,999],q,rfl,ac,hq,ac,λys hy=> ?_⟩
 obtain⟨y0,y1,y2,y3,y4,y5,rfl⟩: ∃x0 x1 x2 x3 x4 x5,ys=[x0,x1,x2,x3,x4,x5]:=by
  match ys,hy.1 with
  | [x0,x1,x2,x3,x4,x5],_=>exact⟨x0,x1,x2,x3,x4,x5,rfl⟩
 have k2:=hy.2 2 y2 999 rfl rfl;have k3:=hy.2 3 y3 999 rfl rfl;have k4:=hy.2 4 y4 999 rfl rfl;have k5:=hy.2 5 y5 999 rfl rfl;simp only[d6,j6]
 (try walk_at "u")
 rw[aL9];dsimp only;obtain⟨ws,ew,w2,w4,wb⟩: ∃ws:List Int,cutD [D.int y0,.int y1,.int y2,.int y3,.int y4,.int y5] (some 2) (some<|a+4)=ws.map D.int/\2<=ws.length/\ws.length<=4/\ ∀w∈ws,0<=w/\w<999:=by
  rcases(show a=0\/a=1\/a=2 by lia)with rfl|rfl|rfl
  ·exact⟨[y2,y3],rfl,ae,ae,by simp;lia⟩
  ·exact⟨[y2,y3,y4],rfl,ae,ae,by simp;lia⟩
  ·exact⟨[y2,y3,y4,y5],rfl,ae,ae,by simp;lia⟩
 rw[ew];unfold bV3;rw[aN,cA2];walk_at "u";rw[at1];dsimp only
 by_cases cb:b=7
 ·rw[a7 cb];exact cI3 c q a b ws w4 Q (h _<|d87 w2 w4 wb)
 ·rw[a6 cb];exact cV6 c q a b _ ba.1 ba.2 hq Q h
noncomputable def cz (n:Nat)(u:Nat->Int):Nat->Int:=λj=>if j<n then u j else 0
theorem cz_row (n:Nat)(u:Nat->Int):rwF n (cz n u)=rwF n u:=iC λi hi=>a7 hi
theorem cV7 {n:Nat}{u:Nat->Int}{j:Nat}(h:n<=j):cz n u j=0:=a6 ad
theorem cV8 {n e:Nat}{u:Nat->Int}(h: ∀j,(u j).natAbs<=2^e)(j:Nat):(cz n u j).natAbs<=2^e:=by
 unfold cz;split
 ·exact h j
 ·exact eO _
noncomputable def lM (k:Int):Nat->Int:=λj=>if j=0 then k else 0
theorem bM0 {ρ:Ev}{i:Nat}{C:Addr}{p:List Int}{Q:B->Ev->Prop}(h:ρ[i]? =some (some<|.pu<|uH C p)):c39 "measure" (aD i) ρ Q=Q (.pu<|.int<|dM 4<|cO p) ρ:=by
 unfold c39;rw[bK8 h];rfl
noncomputable def tbL (n:Nat)(t:Nat->Nat->Int):List (List Int):=(List.range n).map λi=>rwF n (t i)
theorem aB4 (T:Nat->Nat->Int):dM 4 (tbL 2 T)=1*T 0 0*(T 1 1)+(-1*T 1 0*(T 0 1)+0):=by kernel_rfl
theorem aB5 (T:Nat->Nat->Int):dM 4 (tbL 3 T)=1*T 0 0*(1*T 1 1*(T 2 2)+(-1*T 2 1*(T 1 2)+0))+(-1*T 1 0*(1*T 0 1*(T 2 2)+(-1*T 2 1*(T 0 2)+0))+(1*T 2 0*(1*T 0 1*(T 1 2)+(-1*T 1 1*(T 0 2)+0))+0)):=by kernel_rfl
theorem aB6 (T:Nat->Nat->Int):dM 4 (tbL 4 T)=1*T 0 0*(1*T 1 1*(1*T 2 2*(T 3 3)+(-1*T 3 2*(T 2 3)+0))+(-1*T 2 1*(1*T 1 2*(T 3 3)+(-1*T 3 2*(T 1 3)+0))+(1*T 3 1*(1*T 1 2*(T 2 3)+(-1*T 2 2*(T 1 3)+0))+0)))+(-1*T 1 0*(1*T 0 1*(1*T 2 2*(T 3 3)+(-1*T 3 2*(T 2 3)+0))+(-1*T 2 1*(1*T 0 2*(T 3 3)+(-1*T 3 2*(T 0 3)+0))+(1*T 3 1*(1*T 0 2*(T 2 3)+(-1*T 2 2*(T 0 3)+0))+0)))+(1*T 2 0*(1*T 0 1*(1*T 1 2*(T 3 3)+(-1*T 3 2*(T 1 3)+0))+(-1*T 1 1*(1*T 0 2*(T 3 3)+(-1*T 3 2*(T 0 3)+0))+(1*T 3 1*(1*T 0 2*(T 1 3)+(-1*T 1 2*(T 0 3)+0))+0)))+(-1*T 3 0*(1*T 0 1*(1*T 1 2*(T 2 3)+(-1*T 2 2*(T 1 3)+0))+(-1*T 1 1*(1*T 0 2*(T 2 3)+(-1*T 2 2*(T 0 3)+0))+(1*T 2 1*(1*T 0 2*(T 1 3)+(-1*T 1 2*(T 0 3)+0))+0)))+0))):=by kernel_rfl
theorem bG0 {p:List Int}{n:Nat}{u v:Nat->Int}(n2:2<=n)(n4:n<=4)(hu: ∀j,n<=j->u j=0)(hv: ∀j,n<=j->v j=0):rwF n (bG p n u v)=rwF n (bG p n v u):=by
 rw[<-bL5 n2 n4 hu hv,<-bL5 n2 n4 hv hu,show conv u v n=conv v u n from funext λm=>bF3 hu hv m]
noncomputable def tnF:Nat->Int:=λj=>if j=1 then 1 else 0
theorem cB1 {n j:Nat}(n2:2<=n)(h:n<=j):tnF j=0:=a6 ad
theorem cI4 (e j:Nat):(tnF j).natAbs<=2^e:=aL (show(tnF j).natAbs<=1 by unfold tnF;split<;>decide) Nat.one_le_two_pow
theorem tim_tn {p:List Int}{n:Nat}{u:Nat->Int}(n2:2<=n)(n4:n<=4)(j:Nat):bG p n u tnF j=ttF p n u j:=by
 show((List.range n).map λi=>tnF i*itT p n u i j).sum=ttF p n u j
 match n,n2,n4 with
 | 2,_,_=>simp[aT,tnF,itT]
 | 3,_,_=>simp[aT,tnF,itT]
 | 4,_,_=>simp[aT,tnF,itT]
theorem ttF_cz {p:List Int}{n:Nat}{u:Nat->Int}(n1:1<=n){j:Nat}(hj:j<n):ttF p n (cz n u) j=ttF p n u j:=by
 unfold ttF cz;rw[a7<|show n-1<n by omega,a7<|show j-1<n by omega]
theorem tn_row {p:List Int}{n:Nat}{u:Nat->Int}(n2:2<=n)(n4:n<=4):rwF n (bG p n (cz n u) tnF)=rwF n (ttF p n u):=iC λj hj=>by rw[tim_tn n2 n4,ttF_cz ad hj]
theorem nt_row {p:List Int}{n:Nat}{u:Nat->Int}(n2:2<=n)(n4:n<=4):rwF n (bG p n tnF<|cz n u)=rwF n (ttF p n u):=by
 rw[bG0 n2 n4 (λj hj=>cB1 n2 hj) λj hj=>cV7 hj,tn_row n2 n4]
theorem cI5 {ρ:Ev}{s:Nat}{z:Int}(c:Nat)(hz:z=(c:Int))(n:Nat)(hn:n<=4)(hs:ρ[s]? =some (some<|.pu<|.int (n:Int))){Q:B->Ev->Prop}(h:Q (.pu<|aP<|rwF n λk=>if k=c then 1 else 0) ρ) :
  aW fM (a9 (gD [] [none,none] 1 (jA<|a9 (aD s) aM) (cM 0) (λρ Q=>Q true ρ)<|aW bI0<|a9 (uOp (kX false) (aD 0)<|uC<|.int z) aM) aM) ρ Q:=by
 subst hz;rw[iV,iW];refine gL (t0:=0) n (λk=> .int (0+(k:Int))) ρ (λQ' q=> ?_) ad (λx l'=>[x,some<|.ow l']) none rfl (λ_ _ _=>rfl) (λ_ _=>cQ _) (λ_ _ _ q=>q) (λ_ _ _=>rfl) (λk=> .int (if k=c then 1 else 0)) ?_ ?_
 ·unfold jA;rw[iW,bK8 hs];walk_at "u";refine⟨⟨ad,ad⟩,?_⟩
  rw[cZ];exact q
 ·intro k l' Q' hk q';rw[bN]at q'⊢;walk_at "u"
  by_cases e:k=c
  ·subst e
   simpa using q'
  ·rw[a6 e]at q';rw[a6<|show ¬(k:Int)=(c:Int)by lia]
   exact q'
 ·rw[a40];exact h
theorem cV9 (i n:Nat)(t:Nat->Nat->Int):tbF i n t++[aP<|rwF n<|t i]=tbF (i+1) n t:=by
 unfold tbF;rw[aT,bM];rfl
theorem p6:(2:Nat)^600<=2^1000:=pG ac ac
theorem cW0 {p:List Int}{n:Nat}(u:Nat->Int)(r:Int)(n1:1<=n)(top:p.getD n 0=1):ps (ttF p n u) r n=r*ps u r n-u (n-1)*ps (fOf p) r (n+1):=by
 obtain⟨m,rfl⟩: ∃m,n=m+1:=⟨n-1,ad⟩
 have e1: ∀k,ps (ttF p (m+1) u) r k=ps (shF u 1) r k-u m*ps (fOf p) r k:=by
  intro k
  induction k with
  | zero=>simp[ps]
  | succ k ih=>
   show ps _ r k+ttF p (m+1) u k*r^k=(ps (shF u 1) r k+shF u 1 k*r^k)-u m*(ps (fOf p) r k+fOf p k*r^k)
   rw[ih];have e:ttF p (m+1) u k=shF u 1 k-u m*fOf p k:=by
    unfold ttF shF fOf;rw[mZ]
    by_cases z:k=0
    ·rw[a7 z,a6 ad]
    ·rw[a6 z,a7 ad]
   rw[e]
   grind
 rw[e1<|m+1];have e2:ps (shF u 1) r (m+1)=r*ps u r m:=by
  have:=aM7 u r 1 m;rw[show 1+m=m+1 by lia,yT]at this
  exact this
 have e3:ps u r (m+1)=ps u r m+u m*r^m:=rfl;have e4:ps (fOf p) r (m+1+1)=ps (fOf p) r (m+1)+1*r^(m+1):=by
  show _+fOf p (m+1)*_=_
  rw[show fOf p (m+1)=1 from top]
 rw[e2,e3,e4,mZ,gW]
 grind
theorem Pr.no_zero {p:Int}(pp:Pr p){a b:Int}(h:a*b%p=0):a%p=0\/b%p=0:=by
 have p2:=pp.lo
 by_cases c:a%p=0
 ·exact .inl c
 ·refine .inr ?_
  have a0:=cR a (show p≠0 by lia)
  have a1:=cP a (show 0<p by lia)
  have iv:=pp.inv (a%p) ad a1
  generalize b26 (a%p) p (p.toNat-2)=t at iv;have e:b%p=(t*(a%p))%p*b%p:=by rw[iv,iH]
  rw[e,emL,jW,<-emR,emL a b p,h,bD,cJ]
theorem c55 {p:Int}(p2:2<=p)(a:Nat×(Nat->Int))(z:Int):va p a z%p=va p a z:=j5 _ _
theorem bM1 {p:Int}{a g:Nat×(Nat->Int)}(hg: ∀j,g.1<j->g.2 j=0){z:Int}(h:va p a z=0\/va p g z=0): ∀k,(va p a z=0\/1<=k)->va p (powT p a g k) z=0
 | 0,hk=>by
  rcases hk with hk|hk
  ·exact hk
  ·omega
 | k+1,_=>by
  show va p (tm p (powT p a g k) g) z=0
  rw[cA4 hg];rcases h with h|h
  ·rw[bM1 hg (.inl h) k<|.inl h,cT,cJ]
  ·rw[h,bD,cJ]
theorem cB2 {p:Int}{z:Int}: ∀(l:List ((Nat×(Nat->Int))×Nat)) (a:Nat×(Nat->Int)),(∀x∈l,(∀j,x.1.1<j->x.1.2 j=0)/\1<=x.2)->(va p a z=0\/ ∃x∈l,va p x.1 z=0)->va p (allT p a l) z=0
 | [],a,_,h=>by
  rcases h with h| ⟨x,hx,_⟩
  ·exact h
  ·cases hx
 | y::l,a,hl,h=>by
  have hy:=hl y (cD ..);refine cB2 l (powT p a y.1 y.2) (λx hx=>hl x (bF _ hx)) ?_
  rcases h with h| ⟨x,hx,h⟩
  ·exact .inl (bM1 hy.1 (.inl h) _<|.inl h)
  ·rcases aY.mp hx with rfl|hx
   ·exact .inl (bM1 hy.1 (.inr h) _<|.inr hy.2)
   ·exact .inr ⟨x,hx,h⟩
theorem cB3 {p:Int}(pp:Pr p){a g:Nat×(Nat->Int)}(hg: ∀j,g.1<j->g.2 j=0){z:Int}(h:va p a z≠0)(h2:va p g z≠0): ∀k,va p (powT p a g k) z≠0
 | 0=>h
 | k+1=>by
  show va p (tm p (powT p a g k) g) z≠0
  rw[cA4 hg];intro e;rcases pp.no_zero e with e|e
  ·rw[c55 pp.lo]at e;exact cB3 pp hg h h2 k e
  ·rw[c55 pp.lo]at e;exact h2 e
theorem aY9 {p:Int}(pp:Pr p){z:Int}: ∀(l:List ((Nat×(Nat->Int))×Nat)) (a:Nat×(Nat->Int)),(∀x∈l,∀j,x.1.1<j->x.1.2 j=0)->va p a z≠0->(∀x∈l,va p x.1 z≠0)->va p (allT p a l) z≠0
 | [],a,_,h,_=>h
 | y::l,a,hl,h,h2=>aY9 pp l (powT p a y.1 y.2) (λx hx=>hl x (bF _ hx)) (cB3 pp (hl y<|cD ..) h (h2 y<|cD ..) _) λx hx=>h2 x (bF _ hx)
theorem c56 {p:Int}(p2:2<=p){g:Nat×(Nat->Int)}(mg:MP p g.1 g.2)(h1:g.1=1)(z:Int):va p g z=(z+g.2 0)%p:=by
 have e:g.2 1=1:=by have:=mg.top;rw[h1]at this;exact this
 unfold va;rw[h1];show(0+g.2 0*z^0+g.2 1*z^1)%p=_;rw[e,cL,yT]
 congr 1
 lia
def c57 (q:Int)(F:Nat×(Nat->Int))(c:Int)(k:Nat):Prop:= ∃H:Nat×(Nat->Int),MP q H.1 H.2/\F=powT q H (fS c) k/\va q H (-c)≠0
noncomputable def hb (r q:Int)(f:Nat->Int)(m:Nat):Nat->Int
 | 0=>0
 | k+1=>(hb r q f m k*r+f (m-k))%q
theorem d89 {p:Int}(p2:2<=p){g:Nat×(Nat->Int)}(mg:MP p g.1 g.2){l:List ((Nat×(Nat->Int))×Nat)}{a:Nat×(Nat->Int)}(ma:MP p a.1 a.2)(hl: ∀x∈l,MP p x.1.1 x.1.2):allT p (tm p a g) l=tm p (allT p a l) g:=by
 rw[a91 ma.hi mg.hi,aR6 p2 l ma hl,a91 mg.hi (MP.allT p2 l ma hl).hi]
theorem a59 {p:Int}(p2:2<=p){g:Nat×(Nat->Int)}(mg:MP p g.1 g.2){l:List ((Nat×(Nat->Int))×Nat)}{a:Nat×(Nat->Int)}(ma:MP p a.1 a.2)(hl: ∀x∈l,MP p x.1.1 x.1.2): ∀k,allT p (powT p a g k) l=powT p (allT p a l) g k
 | 0=>rfl
 | k+1=>by
  show allT p (tm p (powT p a g k) g) l=tm p (powT p (allT p a l) g k) g
  rw[d89 p2 mg (MP.powT p2 ma mg k) hl,a59 p2 mg ma hl k]
theorem cB4: ∀r:List Int,ltL r r=false
 | []=>rfl
 | a::r=>by unfold ltL;rw[a7 rfl];exact cB4 r
theorem bM2 {x y:(Nat×(Nat->Int))×Nat}(h:ltP x y):x.1≠y.1:=by
 intro e;unfold ltP at h;rw[e]at h;rcases h with h|h
 ·lia
 ·rw[cB4]at h;exact absurd h.2 ac
theorem bV5 {q c:Int}(pq:Pr q)(c0:0<=c)(c1:c<q){g:Nat×(Nat->Int)}(mg:MP q g.1 g.2)(d1:1<=g.1)(nr:2<=g.1->NoR q g)(h:g≠fS c):va q g (-c)≠0:=by
 have q2:=pq.lo
 by_cases d2:g.1=1
 ·rw[c56 q2 mg d2];intro z;have r:=mg.rng 0;obtain⟨k,hk⟩:=bZ z;have k0:k=0:=by
   rcases aG3 k 0 with z|z|z
   ·have:q*k<=q*(-1):=oY ad ad
    lia
   ·exact z
   ·have:q*1<=q*k:=oY ad ad
    lia
  rw[k0,bD]at hk;refine h ?_;rw[aS2 mg d2,show g.2 0=c by lia]
 ·have:=nr ad c.toNat ad
  rw[pK c0]at this;exact this
theorem cB5 {q c:Int}(pq:Pr q){F:Nat×(Nat->Int)}(mF:MP q F.1 F.2){xs:List ((Nat×(Nat->Int))×Nat)}(sp:SP q F xs)(c0:0<=c)(c1:c<q) :
  (∀x∈xs,x.1=fS c->c57 q F c x.2)/\((∀x∈xs,x.1≠fS c)->c57 q F c 0):=by
 have q2:=pq.lo;have mx: ∀x∈xs,MP q x.1.1 x.1.2:=λx hx=>(sp.mem x hx).1
 have nz: ∀x∈xs,x.1≠fS c->va q x.1 (-c)≠0:=λx hx h=>bV5 pq c0 c1 (mx x hx) (sp.mem x hx).2.1 (sp.mem x hx).2.2.2.2.2.1 h
 have v1:va q dX (-c)≠0:=by
  show(0+(if 0=0 then(1:Int)else 0)*(-c)^0)%q≠0
  rw[a7 rfl,cL,iG,bN,dO ac ad]
  decide
 refine⟨λx hx e=> ?_,λh=>⟨F,mF,rfl,?_⟩⟩
 ·obtain⟨l1,l2,rfl⟩:=y8 hx;have od:=sp.ord;rw[aF0,aF7]at od;have m1: ∀y∈l1,MP q y.1.1 y.1.2:=λy hy=>mx y (bC.mpr<|.inl hy)
  have m2: ∀y∈l2,MP q y.1.1 y.1.2:=λy hy=>mx y (bC.mpr<|.inr<|bF _ hy)
  have mA:=MP.allT q2 l1 (MP.one q2) m1;refine⟨allT q (allT q dX l1) l2,MP.allT q2 l2 mA m2,?_,?_⟩
  ·rw[<-sp.prod,i7];show allT q (powT q (allT q dX l1) x.1 x.2) l2=_;rw[a59 q2 (mx x hx) mA m2,e]
  ·rw[<-i7];refine aY9 pq _ _ (λy hy=> ?_) v1 λy hy=> ?_
   ·rcases bC.mp hy with hy|hy
    ·exact(m1 y hy).hi
    ·exact(m2 y hy).hi
   ·rcases bC.mp hy with hy|hy
    ·exact nz y (bC.mpr<|.inl hy) λz=>bM2 (od.2.2 y hy x<|cD ..) (z.trans e.symm)
    ·exact nz y (bC.mpr<|.inr<|bF _ hy) λz=>bM2 (od.2.1.1 y hy) (e.trans z.symm)
 ·rw[<-sp.prod];exact aY9 pq xs dX (λy hy=>(mx y hy).hi) v1 λy hy=>nz y hy (h y hy)
noncomputable def dA (c b:Int):Int:=b*b-4*c
noncomputable def dB (d c b:Int):Int:=b*b*c*c-4*c*c*c-4*b*b*b*d-27*d*d+18*b*c*d
noncomputable def dC (e d c b:Int):Int:= -27*b*b*b*b*e*e+18*b*b*b*c*d*e-4*b*b*b*d*d*d-4*b*b*c*c*c*e+b*b*c*c*d*d+144*b*b*c*e*e-6*b*b*d*d*e-80*b*c*c*d*e+18*b*c*d*d*d-192*b*d*e*e+16*c*c*c*c*e-4*c*c*c*d*d-128*c*c*e*e+144*c*d*d*e-27*d*d*d*d+256*e*e*e
theorem hank4 (e d c b:Int):dM 4 (cO [e,d,c,b,1])=dC e d c b:=by
 have h:=id4 e d c b;have h2:27*dC e d c b=27*dM 4 (cO [e,d,c,b,1]):=by
  rw[h];unfold dC
  grind
 lia
theorem dB_lin (r u v:Int):dB (r*v) (v+r*u) (u+r)=dA v u*((r*r-u*r+v)*(r*r-u*r+v)):=by unfold dB dA;grind
theorem dC_lin (r u v w:Int):dC (r*w) (w+r*v) (v+r*u) (u+r)=dB w v u*((-(r*r*r)+u*r*r-v*r+w)*(-(r*r*r)+u*r*r-v*r+w)):=by unfold dB dC;grind
theorem dC_qu (u v s t:Int):dC (v*t) (u*t+v*s) (v+u*s+t) (u+s)=dA v u*dA t s*(((v-t)*(v-t)-(u-s)*(s*v-u*t))*((v-t)*(v-t)-(u-s)*(s*v-u*t))):=by unfold dA dC;grind
theorem Pr.or {q:Int}(pq:Pr q){a b:Int}(h:q∣a*b):q∣a\/q∣b:=by
 rcases pq.no_zero (dR h)with h|h
 ·exact .inl (bZ h)
 ·exact .inr (bZ h)
theorem Pr.sq {q:Int}(pq:Pr q){a:Int}(h:q∣a*a):q∣a:=(pq.or h).elim id id
theorem Pr.cut {q:Int}(pq:Pr q){a b:Int}(h:q∣a*b)(n: ¬q∣a):q∣b:=(pq.or h).resolve_left n
theorem Pr.sol {q:Int}(pq:Pr q){a:Int}(h: ¬q∣a)(b:Int): ∃z,q∣a*z-b:=by
 have p2:=pq.lo;have a0:=cR a (show q≠0 by lia)
 have a1:=cP a (show 0<q by lia)
 have ne:a%q≠0:=λe=>h (bZ e)
 have iv:=pq.inv (a%q) ad a1
 generalize b26 (a%q) q (q.toNat-2)=t at iv;have e1:=t6 (t*(a%q)) q;have e2:=t6 a q;rw[iv]at e1;refine⟨t*b,t*(a/q)*b+t*(a%q)/q*b,?_⟩;have:a*(t*b)-b=(a%q+q*(a/q))*(t*b)-b:=by rw[e2]
 rw[this];have:t*(a%q)*b=(1+q*(t*(a%q)/q))*b:=by rw[e1]
 grind
theorem Pr.no {q:Int}(pq:Pr q)(h:5<=q): ¬q∣2/\ ¬q∣3/\ ¬q∣4:=
 ⟨λh=>by have:=jX ac h;lia,λh=>by have:=jX ac h;lia,λh=>by have:=jX ac h;lia⟩
theorem dW {q:Int}(pq:Pr q){a b:Int}(h: ¬q∣a)(h2: ¬q∣b): ¬q∣a*b:=λh3=>(pq.or h3).elim h h2
theorem dv2 {q a b x y e:Int}(h:q∣a)(h2:q∣b)(he:e=a*x+b*y):q∣e:=by
 rw[he];exact dvd_add (pB h) (pB h2)
theorem dv3 {q a b c x y z e:Int}(h:q∣a)(h2:q∣b)(h3:q∣c)(he:e=a*x+b*y+c*z):q∣e:=by
 rw[he];exact dvd_add (dvd_add (pB h)<|pB h2) (pB h3)
theorem dv1 {q a x e:Int}(h:q∣a)(he:e=a*x):q∣e:=by rw[he];exact pB h
theorem root2 {q:Int}(pq:Pr q){c b:Int}(h:q∣dA c b): ∃z,q∣z*z+b*z+c:=by
 by_cases c2:q∣2
 ·have e:q=2:=by have:=jX ac c2;have:=pq.lo;lia
  subst e;refine⟨c,?_⟩;have hb:(2:Int)∣b:=pq.sq (dv2 (x:=1) (y:=2*c) h (jY 2) (by unfold dA;grind))
  rcases Int.emod_two_eq c with e|e
  ·exact dv2 (x:=c+b+1) (y:=0) (bZ e) (jY 2) (by grind)
  ·exact dv2 (a:=c+1) (x:=c) (y:=c) ad hb (by grind)
 ·obtain⟨z,hz⟩:=pq.sol c2 (-b);refine⟨z,pq.cut (a:=2*2) ?_<|dW pq c2 c2⟩;exact dv2 (x:=2*z+b) (y:= -1) hz h (by unfold dA;grind)
theorem root3 {q:Int}(pq:Pr q)(q5:5<=q){d c b:Int}(h:q∣dB d c b): ∃z,q∣z*z*z+b*z*z+c*z+d:=by
 obtain⟨n2,n3,_⟩:=pq.no q5
 by_cases cA:q∣b*b-3*c
 ·have hN:q∣2*b*b*b-9*b*c+27*d:=pq.sq (dv2 (x:=4*(b*b-3*c)*(b*b-3*c)) (y:= -27) cA h (by unfold dB;grind))
  obtain⟨z,hz⟩:=pq.sol n3 (-b);refine⟨z,pq.cut (a:=3*3*3) ?_<|dW pq (dW pq n3 n3) n3⟩;exact dv2 (x:=9*z*z+6*b*z-2*b*b+9*c) (y:=1) hz hN (by grind)
 ·obtain⟨z,hz⟩:=pq.sol (dW pq n2 cA) (9*d-b*c);have n:=dW pq n2 cA;refine⟨z,pq.cut (a:=2*(b*b-3*c)*(2*(b*b-3*c))*(2*(b*b-3*c))) ?_<|dW pq (dW pq n n) n⟩;obtain⟨A,eA⟩: ∃A,A=2*(b*b-3*c):=⟨_,rfl⟩;obtain⟨B,eB⟩: ∃B,B=9*d-b*c:=⟨_,rfl⟩;rw[<-eA,<-eB]at hz;rw[<-eA];have h1:q∣B*B*B+b*A*B*B+c*A*A*B+d*A*A*A:=dv1 (x:= -(2*b*b*b-9*b*c+27*d)) h (by rw[eA,eB];unfold dB;grind)
  exact dv2 (x:=A*A*z*z+A*z*B+B*B+b*A*(A*z+B)+c*A*A) (y:=1) hz h1 (by grind)
theorem root4d {q:Int}(pq:Pr q)(q5:5<=q){P Q R:Int}(h:q∣4*(12*R+P*P)*(12*R+P*P)*(12*R+P*P)-(72*P*R-27*Q*Q-2*P*P*P)*(72*P*R-27*Q*Q-2*P*P*P)) :
  (∃y,q∣y*y*y*y+P*y*y+Q*y+R)\/ ∃m,q∣Q/\q∣2*m-P/\q∣R-m*m:=by
 obtain⟨n2,n3,_⟩:=pq.no q5;obtain⟨I,eI⟩: ∃I,I=12*R+P*P:=⟨_,rfl⟩;obtain⟨J,eJ⟩: ∃J,J=72*P*R-27*Q*Q-2*P*P*P:=⟨_,rfl⟩;rw[<-eI,<-eJ]at h;obtain⟨s,h3,h4⟩: ∃s,q∣s*s-I/\q∣2*I*s-J:=by
  by_cases cI:q∣I
  ·have hJ:q∣J:=pq.sq (dv2 (x:=4*I*I) (y:= -1) cI h<|by grind)
   exact⟨0,dv1 (x:= -1) cI<|by grind,dv1 (x:= -1) hJ<|by grind⟩
  ·obtain⟨s,hs⟩:=pq.sol (dW pq n2 cI) J;refine⟨s,pq.cut (a:=2*I*(2*I)) ?_<|dW pq (dW pq n2 cI)<|dW pq n2 cI,hs⟩;exact dv2 (x:=2*I*s+J) (y:= -1) hs h (by grind)
 have h2:q∣27*Q*Q+2*(s+P)*(s-2*P)*(s-2*P):=dv2 (x:= -2*s+6*P) (y:=1) (a:=I-s*s) (b:=2*I*s-J) (dv1 (x:= -1) h3<|by grind) h4 (by rw[eJ,eI];grind)
 by_cases cK:q∣s-2*P
 ·have hQ:q∣Q:=pq.sq (pq.cut (a:=3*3*3) (dv2 (x:=1) (y:= -(2*(s+P)*(s-2*P))) h2 cK<|by grind)<|dW pq (dW pq n3 n3) n3)
  obtain⟨m,hm⟩:=pq.sol n2 P;refine .inr ⟨m,hQ,hm,pq.cut (a:=2*2*3) ?_<|dW pq (dW pq n2 n2) n3⟩;exact dv3 (x:= -1) (y:=s+2*P) (z:= -3*(2*m+P)) h3 cK hm (by rw[eI];grind)
 ·obtain⟨y,hy⟩:=pq.sol (dW pq n2 cK) (3*Q);have hy2:q∣6*y*y+s+P:=pq.cut (a:=2*((s-2*P)*(s-2*P))) (dv2 (x:=3*(2*(s-2*P)*y+3*Q)) (y:=1) hy h2<|by grind) (dW pq n2<|dW pq cK cK)
  refine .inl ⟨y,pq.cut (a:=2*2*(3*3)) ?_<|dW pq (dW pq n2 n2)<|dW pq n3 n3⟩
  exact dv3 (x:=6*y*y-s-P+6*P+4*(s-2*P)) (y:= -12*y) (z:= -3) hy2 hy h3 (by rw[eI];grind)
theorem root4 {q:Int}(pq:Pr q)(q5:5<=q){e d c b:Int}(h:q∣dC e d c b) :
  (∃z,q∣z*z*z*z+b*z*z*z+c*z*z+d*z+e)\/ ∃u v,q∣2*u-b/\q∣u*u+2*v-c/\q∣2*u*v-d/\q∣v*v-e:=by
 obtain⟨n2,n3,n4⟩:=pq.no q5;obtain⟨P,eP⟩: ∃P,P=16*c-6*b*b:=⟨_,rfl⟩;obtain⟨Q,eQ⟩: ∃Q,Q=64*d-32*b*c+8*b*b*b:=⟨_,rfl⟩;obtain⟨R,eR⟩: ∃R,R=256*e-64*b*d+16*b*b*c-3*b*b*b*b:=⟨_,rfl⟩;have hD:q∣4*(12*R+P*P)*(12*R+P*P)*(12*R+P*P)-(72*P*R-27*Q*Q-2*P*P*P)*(72*P*R-27*Q*Q-2*P*P*P):=dv1 (x:=452984832) h (by rw[eP,eQ,eR];unfold dC;grind)
 have n16:=dW pq n4 n4;rcases root4d pq q5 hD with⟨y,hy⟩| ⟨m,hQ,hm,hR⟩
 ·obtain⟨z,hz⟩:=pq.sol n4 (y-b);refine .inl ⟨z,pq.cut (a:=4*4*(4*4)) ?_<|dW pq n16 n16⟩;obtain⟨Y,eY⟩: ∃Y,Y=4*z+b:=⟨_,rfl⟩;have hz':q∣Y-y:=by rw[eY,show 4*z+b-y=4*z-(y-b)by lia];exact hz
  exact dv2 (x:=Y*Y*Y+Y*Y*y+Y*y*y+y*y*y+P*(Y+y)+Q) (y:=1) hz' hy (by rw[eP,eQ,eR,eY];grind)
 ·obtain⟨u,hu⟩:=pq.sol n2 b;obtain⟨v,hv⟩:=pq.sol n16 (b*b+m);refine .inr ⟨u,v,hu,pq.cut (a:=4*4) ?_ n16,pq.cut (a:=4*4*4) ?_<|dW pq n16 n4,pq.cut (a:=4*4*(4*4)) ?_<|dW pq n16 n16⟩
  ·exact dv3 (x:=4*(2*u+b)) (y:=2) (z:=1) hu hv hm (by rw[eP];grind)
  ·exact dv3 (a:=4*(2*u-b)) (x:=4*4*v) (y:=4*b) (z:=1) (dv1 (x:=4) hu<|by grind) hv (dv2 (x:=2*b) (y:= -1) hm hQ rfl) (by rw[eP,eQ];grind)
  ·exact dv3 (x:=4*4*v+b*b+m) (y:= -1) (z:=1) hv hR (dv2 (x:=b*b) (y:= -b) hm hQ rfl) (by rw[eP,eQ,eR];grind)
theorem sm3_2: ∀d c b:Fin 2,dB (d.1:Int) (c.1:Int) (b.1:Int)%2=0-> ∃z:Fin 2,((z.1:Int)*z.1*z.1+b.1*z.1*z.1+c.1*z.1+d.1)%2=0:=af
theorem sm3_3: ∀d c b:Fin 3,dB (d.1:Int) (c.1:Int) (b.1:Int)%3=0-> ∃z:Fin 3,((z.1:Int)*z.1*z.1+b.1*z.1*z.1+c.1*z.1+d.1)%3=0:=af
theorem sm4_2: ∀e d c b:Fin 2,dC (e.1:Int) (d.1:Int) (c.1:Int) (b.1:Int)%2=0->(∃z:Fin 2,((z.1:Int)*z.1*z.1*z.1+b.1*z.1*z.1*z.1+c.1*z.1*z.1+d.1*z.1+e.1)%2=0)\/ ∃u v:Fin 2,(2*(u.1:Int)-b.1)%2=0/\((u.1:Int)*u.1+2*v.1-c.1)%2=0/\(2*(u.1:Int)*v.1-d.1)%2=0/\((v.1:Int)*v.1-e.1)%2=0:=af
theorem sm4_3: ∀e d c b:Fin 3,dC (e.1:Int) (d.1:Int) (c.1:Int) (b.1:Int)%3=0->(∃z:Fin 3,((z.1:Int)*z.1*z.1*z.1+b.1*z.1*z.1*z.1+c.1*z.1*z.1+d.1*z.1+e.1)%3=0)\/ ∃u v:Fin 3,(2*(u.1:Int)-b.1)%3=0/\((u.1:Int)*u.1+2*v.1-c.1)%3=0/\(2*(u.1:Int)*v.1-d.1)%3=0/\((v.1:Int)*v.1-e.1)%3=0:=af
theorem Pr.big {q:Int}(pq:Pr q):q=2\/q=3\/5<=q:=by
 have:=pq.lo
 by_cases c:q=4
 ·subst c;exact absurd (pq.inv 2 ac ac) af
 ·omega
theorem vG {k:Nat}{b:Int}(h:0<=b/\b< (k:Int)): ∃x:Fin k,(x.1:Int)=b:=⟨⟨b.toNat,aa⟩,pK h.1⟩
theorem root3' {q:Int}(pq:Pr q){d c b:Int}(hd:0<=d/\d<q)(hc:0<=c/\c<q)(hb:0<=b/\b<q)(h:q∣dB d c b): ∃z,q∣z*z*z+b*z*z+c*z+d:=by
 rcases pq.big with rfl|rfl|q5
 ·obtain⟨d,rfl⟩:=vG hd;obtain⟨c,rfl⟩:=vG hc;obtain⟨b,rfl⟩:=vG hb;obtain⟨z,hz⟩:=sm3_2 d c b (dR h);exact⟨_,bZ hz⟩
 ·obtain⟨d,rfl⟩:=vG hd;obtain⟨c,rfl⟩:=vG hc;obtain⟨b,rfl⟩:=vG hb;obtain⟨z,hz⟩:=sm3_3 d c b (dR h);exact⟨_,bZ hz⟩
 ·exact root3 pq q5 h
theorem root4' {q:Int}(pq:Pr q){e d c b:Int}(he:0<=e/\e<q)(hd:0<=d/\d<q)(hc:0<=c/\c<q)(hb:0<=b/\b<q)(h:q∣dC e d c b) :
  (∃z,q∣z*z*z*z+b*z*z*z+c*z*z+d*z+e)\/ ∃u v,q∣2*u-b/\q∣u*u+2*v-c/\q∣2*u*v-d/\q∣v*v-e:=by
 rcases pq.big with rfl|rfl|q5
 ·obtain⟨e,rfl⟩:=vG he;obtain⟨d,rfl⟩:=vG hd;obtain⟨c,rfl⟩:=vG hc;obtain⟨b,rfl⟩:=vG hb;rcases sm4_2 e d c b (dR h)with⟨z,hz⟩| ⟨u,v,h1,h2,h3,h4⟩
  ·exact .inl ⟨_,bZ hz⟩
  ·exact .inr ⟨_,_,bZ h1,bZ h2,bZ h3,bZ h4⟩
 ·obtain⟨e,rfl⟩:=vG he;obtain⟨d,rfl⟩:=vG hd;obtain⟨c,rfl⟩:=vG hc;obtain⟨b,rfl⟩:=vG hb;rcases sm4_3 e d c b (dR h)with⟨z,hz⟩| ⟨u,v,h1,h2,h3,h4⟩
  ·exact .inl ⟨_,bZ hz⟩
  ·exact .inr ⟨_,_,bZ h1,bZ h2,bZ h3,bZ h4⟩
 ·exact root4 pq q5 h
theorem cgA {q a b c d:Int}(h:q∣a-b)(h2:q∣c-d):q∣a+c-(b+d):=dv2 (x:=1) (y:=1) h h2 (by grind)
theorem cgS {q a b c d:Int}(h:q∣a-b)(h2:q∣c-d):q∣a-c-(b-d):=dv2 (x:=1) (y:= -1) h h2 (by grind)
theorem cgM {q a b c d:Int}(h:q∣a-b)(h2:q∣c-d):q∣a*c-b*d:=dv2 (x:=c) (y:=b) h h2 (by grind)
theorem cgR {q:Int}(a:Int):q∣a-a:=by rw[Int.sub_self];exact dvd_zero q
theorem cgE {q:Int}(a:Int):q∣a%q-a:=by
 have:=t6 a q;exact⟨-(a/q),by grind⟩
theorem cgT {q a b:Int}(h:q∣a-b):q∣a↔q∣b:=⟨λg=>dv2 (x:=1) (y:= -1) g h (by grind),λg=>dv2 (x:=1) (y:=1) g h (by grind)⟩
theorem dE3 {q c c' b b':Int}(hc:q∣c-c')(hb:q∣b-b'):q∣dA c b-dA c' b':=by
 unfold dA
 repeat' (with_reducible (first|assumption|apply cgM|apply cgA|apply cgS|exact cgR _))
theorem dE4 {q d d' c c' b b':Int}(hd:q∣d-d')(hc:q∣c-c')(hb:q∣b-b'):q∣dB d c b-dB d' c' b':=by
 unfold dB
 repeat' (with_reducible (first|assumption|apply cgM|apply cgA|apply cgS|exact cgR _))
theorem cW1 {q e e' d d' c c' b b':Int}(he:q∣e-e')(hd:q∣d-d')(hc:q∣c-c')(hb:q∣b-b'):q∣dC e d c b-dC e' d' c' b':=by
 unfold dC
 repeat' (with_reducible (first|assumption|apply cgM|apply cgA|apply cgS|exact cgR _))
noncomputable def dF (F:Nat×(Nat->Int)):Int:=if F.1=2 then dA (F.2 0) (F.2 1)else if F.1=3 then dB (F.2 0) (F.2 1) (F.2 2)else if F.1=4 then dC (F.2 0) (F.2 1) (F.2 2) (F.2 3)else 1
theorem aZ0 {q c:Int}{G:Nat×(Nat->Int)}(mG:MP q G.1 G.2)(m:Nat):q∣(tm q G<|fS c).2 m-(c*G.2 m+(if m=0 then 0 else G.2 (m-1))):=by
 show q∣conv G.2 (fS c).2 (G.1+1) m%q-_
 rw[bT8 c mG.z];exact cgE _
theorem cW2 {q c:Int}{G:Nat×(Nat->Int)}(mG:MP q G.1 G.2)(l1:1<=G.1)(l3:G.1<=3):q∣dF (tm q G<|fS c)-dF G*(va q G (-c)*va q G (-c)):=by
 have c0:=aZ0 (c:=c) mG 0;have c1:=aZ0 (c:=c) mG 1;have c2:=aZ0 (c:=c) mG 2;have c3:=aZ0 (c:=c) mG 3;have tp:=mG.top;have hv:q∣va q G (-c)-ps G.2 (-c) (G.1+1):=cgE _;have hi:=mG.hi;have e0:(tm q G<|fS c).1=G.1+1:=rfl;generalize tm q G (fS c)=T at *;obtain⟨T1,T⟩:=T;obtain⟨n,g⟩:=G;generalize va q (n,g) (-c)=V at *;dsimp only at *;subst e0;have hn:n=1\/n=2\/n=3:=aa
 rcases hn with rfl|rfl|rfl
 ·have hz:q∣V-(g 0-c):=by
   have e:ps g (-c) (1+1)=g 0-c:=by
    show 0+g 0*(-c)^0+g 1*(-c)^1=_
    rw[tp];grind
   rw[e]at hv;exact hv
  show q∣dA (T 0) (T 1)-1*(V*V)
  simp only[eU,iI,tI,pZ,tp,reduceEqDiff]at c0 c1;have:=dE3 c0 c1;have k:=cgM hz hz;exact dv2 (x:=1) (y:= -1) this k (by unfold dA;grind)
 ·have hz:q∣V-(c*c-g 1*c+g 0):=by
   have e:ps g (-c) (2+1)=c*c-g 1*c+g 0:=by
    show 0+g 0*(-c)^0+g 1*(-c)^1+g 2*(-c)^2=_
    rw[tp];grind
   rw[e]at hv;exact hv
  show q∣dB (T 0) (T 1) (T 2)-dA (g 0) (g 1)*(V*V)
  have k:=dE4 c0 c1 c2;have k2:=cgM (cgR (q:=q)<|dA (g 0)<|g 1) (cgM hz hz);have k3:=dB_lin c (g 1) (g 0);simp only[eU,iI,tI,pZ,tp,reduceEqDiff,reduceSub]at k;rw[show c*g 0+0=c*g 0 by omega,show c*g 1+g 0=g 0+c*g 1 by omega,show c*1+g 1=g 1+c by omega,k3]at k
  exact dv2 (x:=1) (y:= -1) k k2 (by grind)
 ·have hz:q∣V-(-(c*c*c)+g 2*c*c-g 1*c+g 0):=by
   have e:ps g (-c) (3+1)= -(c*c*c)+g 2*c*c-g 1*c+g 0:=by
    show 0+g 0*(-c)^0+g 1*(-c)^1+g 2*(-c)^2+g 3*(-c)^3=_
    rw[tp];grind
   rw[e]at hv;exact hv
  show q∣dC (T 0) (T 1) (T 2) (T 3)-dB (g 0) (g 1) (g 2)*(V*V)
  have k:=cW1 c0 c1 c2 c3;have k2:=cgM (cgR (q:=q)<|dB (g 0) (g 1)<|g 2) (cgM hz hz);have k3:=dC_lin c (g 2) (g 1) (g 0);simp only[eU,iI,tI,pZ,tp,reduceEqDiff,reduceSub]at k;rw[show c*g 0+0=c*g 0 by omega,show c*g 1+g 0=g 0+c*g 1 by omega,show c*g 2+g 1=g 1+c*g 2 by omega,show c*1+g 2=g 2+c by omega,k3]at k
  exact dv2 (x:=1) (y:= -1) k k2 (by grind)
theorem dE5 {q u v s t:Int}:q∣dF (tm q (quF v u)<|quF t s)-dA v u*dA t s*(((v-t)*(v-t)-(u-s)*(s*v-u*t))*((v-t)*(v-t)-(u-s)*(s*v-u*t))):=by
 obtain⟨a0,a1,a2,a3⟩:=bL2 v u t s;show q∣dC (conv (quF v u).2 (quF t s).2 3 0%q) (conv (quF v u).2 (quF t s).2 3 1%q) (conv (quF v u).2 (quF t s).2 3 2%q) (conv (quF v u).2 (quF t s).2 3 3%q)-_;rw[a0,a1,a2,a3,<-dC_qu,show v*s+u*t=u*t+v*s by omega]
 exact cW1 (cgE _) (cgE _) (cgE _) (cgE _)
theorem cW3 {q:Int}(pq:Pr q){F:Nat×(Nat->Int)}(mF:MP q F.1 F.2)(f4:F.1<=4){xs:List ((Nat×(Nat->Int))×Nat)}(sp:SP q F xs){x:(Nat×(Nat->Int))×Nat}(hx:x∈xs)(h2:2<=x.2):q∣dF F:=by
 have q2:=pq.lo;obtain⟨mx,x1,_⟩:=sp.mem x hx;have dg:=a45 q xs dX x hx;rw[sp.prod]at dg;have e0:dX.1=0:=rfl;have dg2:x.1.1*2<=x.1.1*x.2:=pJ _ h2
 by_cases d1:x.1.1=1
 ·have e:=aS2 mx d1;have r:=mx.rng 0;generalize x.1.2 0=c at *;obtain⟨H,mH,eF,_⟩:=(cB5 pq mF sp r.1 r.2).1 x hx e;have ml:=MP.lin q2 r.1 r.2;obtain⟨k,hk⟩: ∃k,x.2=k+2:=⟨x.2-2,aa⟩
  rw[hk]at eF;have mK:MP q (powT q H (fS c)<|k+1).1 (powT q H (fS c)<|k+1).2:=MP.powT q2 mH ml _;have vz:va q (powT q H (fS c)<|k+1) (-c)=0:=by
   show va q (tm q (powT q H (fS c) k)<|fS c) (-c)=0
   rw[cA4 ml.hi,c56 q2 ml rfl];show _*((-c+c)%q)%q=0;rw[show -c+c=0 by omega,cJ,bD,cJ]
  have dK:=rC q H (fS c) (k+1);have e1:(fS c).1=1:=rfl;have dF':F.1=(powT q H (fS c)<|k+1).1+1:=by rw[eF];rfl
  have:=cW2 (c:=c) mK aa aa
  rw[vz,bD,bD,Int.sub_zero]at this;rw[eF];exact this
 ·have d2:x.1.1=2:=aa
  have k2:x.2=2:=by
   rw[d2]at dg;omega
  obtain⟨l1,l2,rfl⟩:=y8 hx;have mx': ∀y∈l1++x::l2,MP q y.1.1 y.1.2:=λy hy=>(sp.mem y hy).1
  have m1: ∀y∈l1,MP q y.1.1 y.1.2:=λy hy=>mx' y (bC.mpr<|.inl hy)
  have m2: ∀y∈l2,MP q y.1.1 y.1.2:=λy hy=>mx' y (bC.mpr<|.inr<|bF _ hy)
  have mA:=MP.allT q2 l1 (MP.one q2) m1;have mH:=MP.allT q2 l2 mA m2;have eF:F=powT q (allT q (allT q dX l1) l2) x.1 2:=by
   rw[<-sp.prod,i7];show allT q (powT q (allT q dX l1) x.1 x.2) l2=_;rw[a59 q2 mx mA m2,k2]
  generalize allT q (allT q dX l1) l2=H at *;have dH:H.1=0:=by
   have:=rC q H x.1 2;rw[<-eF]at this;omega
  have eH:H=dX:=by
   refine j7 dH (funext λj=> ?_)
   show H.2 j=if j=0 then 1 else 0
   split
   ·rename_i z;rw[z,<-mH.top,dH]
   ·exact mH.hi j aa
  rw[eF,eH];show q∣dF (tm q (tm q dX x.1) x.1);rw[b30 mx,aR7 mx d2];have:=dE5 (q:=q) (u:=x.1.2 1) (v:=x.1.2 0) (s:=x.1.2 1) (t:=x.1.2 0);refine(cgT this).mpr ⟨0,by grind⟩
theorem bM3 {q z w:Int}(h:q∣z-w)(g:Nat->Int): ∀n,q∣ps g z n-ps g w n
 | 0=>cgR _
 | n+1=>by
  have p: ∀k:Nat,q∣z^k-w^k:=by
   intro k
   induction k with
   | zero=>rw[cL,cL];exact cgR _
   | succ k ih=>rw[gW,gW];exact cgM ih h
  exact cgA (bM3 h g n) (cgM (cgR _)<|p n)
theorem NoR.no {q:Int}(pq:Pr q){G:Nat×(Nat->Int)}(nr:NoR q G){z:Int}(h:q∣ps G.2 z (G.1+1)):False:=by
 have q2:=pq.lo;have r0:=cR (-z) (show q≠0 by omega)
 have r1:=cP (-z) (show 0<q by omega)
 refine nr ((-z)%q).toNat aa ?_
 rw[pK r0];refine dR ((cgT<|bM3 ?_ G.2<|G.1+1).mpr h);have:=cgE (q:=q) (-z);exact dv1 (x:= -1) this (by grind)
theorem c58 {q:Int}(pq:Pr q){G:Nat×(Nat->Int)}(mG:MP q G.1 G.2)(l4:G.1<=4)(nr:2<=G.1->NoR q G)(nq:G.1=4->NoQ q G): ¬q∣dF G:=by
 intro h;have q2:=pq.lo;have tp:=mG.top;have rg:=mG.rng
 by_cases d:2<=G.1
 ·have no:=λz=>NoR.no pq (nr d) (z:=z)
  obtain⟨n,g⟩:=G;dsimp only at *;have hn:n=2\/n=3\/n=4:=aa
  rcases hn with rfl|rfl|rfl
  ·obtain⟨z,hz⟩:=root2 pq (show q∣dA (g 0) (g 1)from h)
   refine no z ?_
   show q∣0+g 0*z^0+g 1*z^1+g 2*z^2
   rw[tp];exact dv1 (x:=1) hz (by grind)
  ·obtain⟨z,hz⟩:=root3' pq (rg 0) (rg 1) (rg 2) (show q∣dB (g 0) (g 1) (g 2)from h)
   refine no z ?_
   show q∣0+g 0*z^0+g 1*z^1+g 2*z^2+g 3*z^3
   rw[tp];exact dv1 (x:=1) hz (by grind)
  ·rcases root4' pq (rg 0) (rg 1) (rg 2) (rg 3) (show q∣dC (g 0) (g 1) (g 2) (g 3)from h)with⟨z,hz⟩| ⟨u,v,h3,h2,h1,h0⟩
   ·refine no z ?_
    show q∣0+g 0*z^0+g 1*z^1+g 2*z^2+g 3*z^3+g 4*z^4
    rw[tp];exact dv1 (x:=1) hz (by grind)
   ·have u0:=cR u (show q≠0 by omega)
    have u1:=cP u (show 0<q by omega)
    have v0:=cR v (show q≠0 by omega)
    have v1:=cP v (show 0<q by omega)
    have mq:=MP.qu q2 v0 v1 u0 u1;have cu:=cgE (q:=q) u;have cv:=cgE (q:=q) v;generalize u%q=U at *;generalize v%q=V at *;refine nq rfl V U V U v0 v1 u0 u1 v0 v1 u0 u1 ((cU2 mG mq mq q2).mpr ?_);have eqm: ∀{a b:Int},0<=a/\a<q->q∣b-a->a=b%q:=by
     intro a b ha hb;have:=Int.emod_emod_of_dvd b (jY q);have e:=dO ha.1 ha.2;obtain⟨k,hk⟩:=hb;rw[<-e,show b=a+q*k by omega,Int.add_mul_emod_self_left]
    refine⟨eqm (rg 0) ?_,eqm (rg 1) ?_,eqm (rg 2) ?_,eqm (rg 3) ?_⟩
    ·exact dv2 (x:=V+v) (y:=1) cv h0 (by grind)
    ·exact dv3 (x:=2*v) (y:=2*U) (z:=1) cu cv h1 (by grind)
    ·exact dv3 (x:=U+u) (y:=2) (z:=1) cu cv h2 (by grind)
    ·exact dv2 (x:=2) (y:=1) cu h3 (by grind)
 ·have:dF G=1:=by
   unfold dF;rw[a6 aa,a6 aa,a6 aa]
  rw[this]at h;have:=jX ac h
  omega
theorem cB6 {q:Int}(pq:Pr q): ∀(xs:List ((Nat×(Nat->Int))×Nat)),(∀x∈xs,MP q x.1.1 x.1.2/\1<=x.1.1/\x.1.1<=4/\1<=x.2/\x.2<=4/\(2<=x.1.1->NoR q x.1)/\(x.1.1=4->NoQ q x.1))->xs.Pairwise ltP->(∀x∈xs,x.2=1)->(allT q dX xs).1<=4-> ¬q∣dF (allT q dX xs)
 | [],_,_,_,_=>by
  intro h;have:=jX ac (show q∣1 from h)
  have:=pq.lo;omega
 | x::l,hm,hp,h1,h4=>by
  have q2:=pq.lo;obtain⟨mx,x1,x4,_,_,nr,nq⟩:=hm x (cD ..);have hml: ∀y∈l,MP q y.1.1 y.1.2:=λy hy=>(hm y<|bF _ hy).1
  rw[aF7]at hp;have e1:=h1 x (cD ..);have eA:allT q dX (x::l)=tm q (allT q dX l) x.1:=by
   show allT q (powT q dX x.1 x.2) l=_
   rw[a59 q2 mx (MP.one q2) hml,e1];rfl
  have mL:=MP.allT q2 l (MP.one q2) hml;rw[eA]at h4⊢
  by_cases d1:x.1.1=1
  ·have e:=aS2 mx d1;have r:=mx.rng 0;generalize x.1.2 0=c at *;have h4':(allT q dX l).1+1<=4:=by
    have:(tm q (allT q dX l) x.1).1=(allT q dX l).1+x.1.1:=rfl;omega
   have ih:=cB6 pq l (λy hy=>hm y (bF _ hy)) hp.2 (λy hy=>h1 y (bF _ hy)) aa
   rw[e]
   by_cases z:(allT q dX l).1=0
   ·intro h;have:dF (tm q (allT q dX l)<|fS c)=1:=by
     have k:(tm q (allT q dX l)<|fS c).1=(allT q dX l).1+1:=rfl;unfold dF;rw[a6 aa,a6 aa,a6 aa]
    rw[this]at h;have:=jX ac h
    omega
   ·have vn:va q (allT q dX l) (-c)≠0:=by
     refine aY9 pq l dX (λy hy=>(hml y hy).hi) ?_ λy hy=> ?_
     ·show(0+(if 0=0 then(1:Int)else 0)*(-c)^0)%q≠0
      rw[a7 rfl,cL,iG,bN,dO ac aa]
      decide
     ·obtain⟨my,y1,_,_,_,ny,_⟩:=hm y (bF _ hy);exact bV5 pq r.1 r.2 my y1 ny λze=>bM2 (hp.1 y hy) (e.trans ze.symm)
    have vn': ¬q∣va q (allT q dX l) (-c):=λhd=>vn (by
     have:=dR hd;rw[c55 q2]at this;exact this)
    have k:=cW2 (c:=c) mL aa aa
    exact λhd=>dW pq ih (dW pq vn' vn') ((cgT k).mp hd)
  ·have ge: ∀y∈l,2<=y.1.1:=λy hy=>by
    have:=hp.1 y hy;unfold ltP at this;omega
   match l,hm,hp,h1,h4,eA,mL,hml,ge with
   | [],_,_,_,_,_,_,_,_=>
    show ¬q∣dF (tm q dX x.1)
    rw[b30 mx];exact c58 pq mx x4 nr nq
   | [y],hm,hp,h1,h4,_,_,_,ge=>
    obtain⟨my,y1,y4,_,_,nry,nqy⟩:=hm y (bF _<|cD ..);have ey:=h1 y (bF _<|cD ..);have gy:=ge y (cD ..);have eL:allT q dX [y]=y.1:=by
     show powT q dX y.1 y.2=y.1
     rw[ey];exact b30 my
    rw[eL]at h4⊢;have ds:y.1.1+x.1.1<=4:=h4;have dx:x.1.1=2:=aa
    have dy:y.1.1=2:=aa
    have ix:=c58 pq mx x4 nr nq;have iy:=c58 pq my y4 nry nqy;have ne:=bM2 (hp.1 y<|cD ..);have nr:=nr aa
    have rx0:=mx.rng 0;have rx1:=mx.rng 1;have ry0:=my.rng 0;have ry1:=my.rng 1;rw[aR7 mx dx]at ix nr ne⊢;rw[aR7 my dy]at iy ne⊢;generalize x.1.2 0=t at *;generalize x.1.2 1=s at *;generalize y.1.2 0=v at *;generalize y.1.2 1=u at *;have ix: ¬q∣dA t s:=ix;have iy: ¬q∣dA v u:=iy;have res: ¬q∣(v-t)*(v-t)-(u-s)*(s*v-u*t):=by
     intro hr
     by_cases us:q∣u-s
     ·have hv:q∣v-t:=pq.sq (dv2 (x:=1) (y:=s*v-u*t) hr us<|by grind)
      have small: ∀{a b:Int},0<=a/\a<q->0<=b/\b<q->q∣a-b->b=a:=by
       intro a b ha hb ⟨k,hk⟩;have k0:k=0:=by
        rcases aG3 k 0 with z|z|z
        ·have:q*k<=q*(-1):=oY aa aa
         omega
        ·exact z
        ·have:q*1<=q*k:=oY aa aa
         omega
       rw[k0,bD]at hk;omega
      exact ne (by rw[small ry0 rx0 hv,small ry1 rx1 us])
     ·obtain⟨z,hz⟩:=pq.sol us (-(v-t));refine NoR.no pq nr (z:=z) ?_;show q∣0+t*z^0+s*z^1+1*z^2;refine pq.cut (a:=(u-s)*(u-s)) ?_ (dW pq us us);exact dv2 (x:=(u-s)*z-(v-t)+s*(u-s)) (y:=1) hz hr (by grind)
    exact λhd=>dW pq (dW pq iy ix) (dW pq res res) ((cgT<|dE5 (q:=q) (u:=u) (v:=v) (s:=s) (t:=t)).mp hd)
   | y::y2::l',hm,_,h1,h4,_,_,_,ge=>
    have g1:=ge y (cD ..);have g2:=ge y2 (bF _<|cD ..);have b1:=h1 y (bF _<|cD ..);have b2:=h1 y2 (bF _<|bF _<|cD ..);have dg:=a45 q (y2::l') (powT q dX y.1 y.2) y2 (cD ..);rw[rC,b1,b2]at dg;have ds:(allT q dX (y::y2::l')).1+x.1.1<=4:=h4;have eq:allT q dX (y::y2::l')=allT q (powT q dX y.1 1) (y2::l'):=by rw[<-b1];rfl
    rw[eq]at ds;have e0:dX.1=0:=rfl;omega
theorem dE6 {q a b:Int}(h:a%q=b%q):q∣a-b:=bZ (Int.emod_eq_emod_iff_emod_sub_eq_zero.mp h)
theorem cay2 (p:List Int)(u:Nat->Int): ∀j,j<2->itT p 2 u 2 j= -(p.getD 0 0*itT p 2 u 0 j+p.getD 1 0*itT p 2 u 1 j)
 | 0,_=>by simp[itT,ttF];grind
 | 1,_=>by simp[itT,ttF];grind
theorem cay3 (p:List Int)(u:Nat->Int): ∀j,j<3->itT p 3 u 3 j= -(p.getD 0 0*itT p 3 u 0 j+p.getD 1 0*itT p 3 u 1 j+p.getD 2 0*itT p 3 u 2 j)
 | 0,_=>by simp[itT,ttF];grind
 | 1,_=>by simp[itT,ttF];grind
 | 2,_=>by simp[itT,ttF];grind
theorem cay4 (p:List Int)(u:Nat->Int): ∀j,j<4->itT p 4 u 4 j= -(p.getD 0 0*itT p 4 u 0 j+p.getD 1 0*itT p 4 u 1 j+p.getD 2 0*itT p 4 u 2 j+p.getD 3 0*itT p 4 u 3 j)
 | 0,_=>by simp[itT,ttF];grind
 | 1,_=>by simp[itT,ttF];grind
 | 2,_=>by simp[itT,ttF];grind
 | 3,_=>by simp[itT,ttF];grind
noncomputable def dN (n:Nat)(w:Nat->Int)(r:Nat->Nat->Int):Nat->Int:=λj=>cC n λk=>w k*r k j
theorem aU9 (w:Nat->Int)(r:Nat->Nat->Int)(j:Nat):dN 2 w r j=w 0*r 0 j+w 1*r 1 j:=by simp[dN,cC,aT]
theorem aV0 (w:Nat->Int)(r:Nat->Nat->Int)(j:Nat):dN 3 w r j=w 0*r 0 j+w 1*r 1 j+w 2*r 2 j:=by simp[dN,cC,aT,Int.add_assoc]
theorem aN1 (w:Nat->Int)(r:Nat->Nat->Int)(j:Nat):dN 4 w r j=w 0*r 0 j+w 1*r 1 j+w 2*r 2 j+w 3*r 3 j:=by simp[dN,cC,aT,Int.add_assoc]
theorem bV6 {p:List Int}{n:Nat}(w u:Nat->Int)(n2:2<=n)(n4:n<=4): ∀j,j<n->ttF p n (dN n w<|itT p n u) j=dN n (ttF p n w) (itT p n u) j:=by
 intro j hj
 match n,n2,n4 with
 | 2,_,_=>
  have c:=cay2 p u j hj;have s1:itT p 2 u 1 j=ttF p 2 (itT p 2 u 0) j:=rfl;have s2:itT p 2 u 2 j=ttF p 2 (itT p 2 u 1) j:=rfl;have t0:ttF p 2 w 0= -(w 1*p.getD 0 0):=by simp[ttF]
  have t1:ttF p 2 w 1=w 0-w 1*p.getD 1 0:=by simp[ttF]
  rw[aU9,t0,t1];unfold ttF at s1 s2⊢;rw[aU9,aU9];split at s1<;>split at s2<;>split<;>grind
 | 3,_,_=>
  have c:=cay3 p u j hj;have s1:itT p 3 u 1 j=ttF p 3 (itT p 3 u 0) j:=rfl;have s2:itT p 3 u 2 j=ttF p 3 (itT p 3 u 1) j:=rfl;have s3:itT p 3 u 3 j=ttF p 3 (itT p 3 u 2) j:=rfl;have t0:ttF p 3 w 0= -(w 2*p.getD 0 0):=by simp[ttF]
  have t1:ttF p 3 w 1=w 0-w 2*p.getD 1 0:=by simp[ttF]
  have t2:ttF p 3 w 2=w 1-w 2*p.getD 2 0:=by simp[ttF]
  rw[aV0,t0,t1,t2];unfold ttF at s1 s2 s3⊢;rw[aV0,aV0]
  by_cases z:j=0
  ·rw[a7 z]at s1 s2 s3⊢
   grind
  ·rw[a6 z]at s1 s2 s3⊢
   grind
 | 4,_,_=>
  have c:=cay4 p u j hj;have s1:itT p 4 u 1 j=ttF p 4 (itT p 4 u 0) j:=rfl;have s2:itT p 4 u 2 j=ttF p 4 (itT p 4 u 1) j:=rfl;have s3:itT p 4 u 3 j=ttF p 4 (itT p 4 u 2) j:=rfl;have s4:itT p 4 u 4 j=ttF p 4 (itT p 4 u 3) j:=rfl;have t0:ttF p 4 w 0= -(w 3*p.getD 0 0):=by simp[ttF]
  have t1:ttF p 4 w 1=w 0-w 3*p.getD 1 0:=by simp[ttF]
  have t2:ttF p 4 w 2=w 1-w 3*p.getD 2 0:=by simp[ttF]
  have t3:ttF p 4 w 3=w 2-w 3*p.getD 3 0:=by simp[ttF]
  rw[aN1,t0,t1,t2,t3];unfold ttF at s1 s2 s3 s4⊢;rw[aN1,aN1]
  by_cases z:j=0
  ·rw[a7 z]at s1 s2 s3 s4⊢
   grind
  ·rw[a6 z]at s1 s2 s3 s4⊢
   grind
theorem aS4 {p:List Int}{n:Nat}{f g:Nat->Int}(n1:1<=n)(h: ∀j,j<n->f j=g j): ∀j,j<n->ttF p n f j=ttF p n g j:=by
 intro j hj;unfold ttF;rw[h (n-1) aa,h (j-1) aa]
theorem c59 {p:List Int}{n:Nat}(u v:Nat->Int)(n2:2<=n)(n4:n<=4): ∀i j,j<n->itT p n (bG p n u v) i j=dN n (itT p n v i) (itT p n u) j
 | 0,j,_=>rfl
 | i+1,j,hj=>by
  show ttF p n (itT p n (bG p n u v) i) j=_
  rw[aS4 aa (c59 u v n2 n4 i) j hj,bV6 _ _ n2 n4 j hj]
  rfl
set_option maxHeartbeats 0 in
theorem mulD4 (A B:Nat->Nat->Int):dM 4 (tbL 4 λi=>dN 4 (A i) B)=dM 4 (tbL 4 A)*dM 4 (tbL 4 B):=by
 rw[aB6,aB6,aB6];simp only[aN1]
 grind (ringSteps:=100000000)
theorem mulD3 (A B:Nat->Nat->Int):dM 4 (tbL 3 λi=>dN 3 (A i) B)=dM 4 (tbL 3 A)*dM 4 (tbL 3 B):=by
 rw[aB5,aB5,aB5];simp only[aV0]
 grind
theorem mulD2 (A B:Nat->Nat->Int):dM 4 (tbL 2 λi=>dN 2 (A i) B)=dM 4 (tbL 2 A)*dM 4 (tbL 2 B):=by
 rw[aB4,aB4,aB4];simp only[aU9]
 grind
def bV7:List Int->Int->Int
 | [],_=>0
 | c::p,r=>bV7 p r*r+c
theorem aZ (n:Nat)(f:Nat->Int):cC (n+1) f=cC n f+f n:=by
 unfold cC;rw[aT,bM,yG];simp
theorem d90 {p:List Int}{n:Nat}(u v:Nat->Int)(c:Int)(j:Nat):ttF p n (λi=>u i+c*v i) j=ttF p n u j+c*ttF p n v j:=by
 unfold ttF
 by_cases h:j=0
 ·rw[a7 h,a7 h,a7 h]
  grind
 ·rw[a6 h,a6 h,a6 h]
  grind
def ch2 (A:Nat->Nat->Int):Nat->Int
 | 0=>1
 | 1=> -((A 0 0)+(A 1 1))
 | 2=>((A 0 0*(A 1 1)-A 1 0*(A 0 1)))
 | _=>0
def ch3 (A:Nat->Nat->Int):Nat->Int
 | 0=>1
 | 1=> -((A 0 0)+(A 1 1)+(A 2 2))
 | 2=>((A 0 0*(A 1 1)-A 1 0*(A 0 1))+(A 0 0*(A 2 2)-A 2 0*(A 0 2))+(A 1 1*(A 2 2)-A 2 1*(A 1 2)))
 | 3=> -((A 0 0*(A 1 1*(A 2 2)-A 2 1*(A 1 2))-A 1 0*(A 0 1*(A 2 2)-A 2 1*(A 0 2))+A 2 0*(A 0 1*(A 1 2)-A 1 1*(A 0 2))))
 | _=>0
def ch4 (A:Nat->Nat->Int):Nat->Int
 | 0=>1
 | 1=> -((A 0 0)+(A 1 1)+(A 2 2)+(A 3 3))
 | 2=>((A 0 0*(A 1 1)-A 1 0*(A 0 1))+(A 0 0*(A 2 2)-A 2 0*(A 0 2))+(A 0 0*(A 3 3)-A 3 0*(A 0 3))+(A 1 1*(A 2 2)-A 2 1*(A 1 2))+(A 1 1*(A 3 3)-A 3 1*(A 1 3))+(A 2 2*(A 3 3)-A 3 2*(A 2 3)))
 | 3=> -((A 0 0*(A 1 1*(A 2 2)-A 2 1*(A 1 2))-A 1 0*(A 0 1*(A 2 2)-A 2 1*(A 0 2))+A 2 0*(A 0 1*(A 1 2)-A 1 1*(A 0 2)))+(A 0 0*(A 1 1*(A 3 3)-A 3 1*(A 1 3))-A 1 0*(A 0 1*(A 3 3)-A 3 1*(A 0 3))+A 3 0*(A 0 1*(A 1 3)-A 1 1*(A 0 3)))+(A 0 0*(A 2 2*(A 3 3)-A 3 2*(A 2 3))-A 2 0*(A 0 2*(A 3 3)-A 3 2*(A 0 3))+A 3 0*(A 0 2*(A 2 3)-A 2 2*(A 0 3)))+(A 1 1*(A 2 2*(A 3 3)-A 3 2*(A 2 3))-A 2 1*(A 1 2*(A 3 3)-A 3 2*(A 1 3))+A 3 1*(A 1 2*(A 2 3)-A 2 2*(A 1 3))))
 | 4=>((A 0 0*(A 1 1*(A 2 2*(A 3 3)-A 3 2*(A 2 3))-A 2 1*(A 1 2*(A 3 3)-A 3 2*(A 1 3))+A 3 1*(A 1 2*(A 2 3)-A 2 2*(A 1 3)))-A 1 0*(A 0 1*(A 2 2*(A 3 3)-A 3 2*(A 2 3))-A 2 1*(A 0 2*(A 3 3)-A 3 2*(A 0 3))+A 3 1*(A 0 2*(A 2 3)-A 2 2*(A 0 3)))+A 2 0*(A 0 1*(A 1 2*(A 3 3)-A 3 2*(A 1 3))-A 1 1*(A 0 2*(A 3 3)-A 3 2*(A 0 3))+A 3 1*(A 0 2*(A 1 3)-A 1 2*(A 0 3)))-A 3 0*(A 0 1*(A 1 2*(A 2 3)-A 2 2*(A 1 3))-A 1 1*(A 0 2*(A 2 3)-A 2 2*(A 0 3))+A 2 1*(A 0 2*(A 1 3)-A 1 2*(A 0 3)))))
 | _=>0
def chn (n:Nat)(A:Nat->Nat->Int)(k:Nat):Int:=if n=2 then ch2 A k else if n=3 then ch3 A k else ch4 A k
noncomputable def hoF (n:Nat)(A:Nat->Nat->Int):Nat->Nat->Int
 | 0=>λ_=>0
 | i+1=>λj=>dN n (hoF n A i) A j+(if j=0 then chn n A i else 0)
set_option maxHeartbeats 0 in
theorem cB7 {n:Nat}(n2:2<=n)(n4:n<=4)(A:Nat->Nat->Int)(j:Nat)(hj:j<n):hoF n A (n+1) j=0:=by
 match n,n2,n4 with
 | 2,_,_=>
  have h:j=0\/j=1:=ad
  rcases h with rfl|rfl<;>simp[hoF,aU9,chn,ch2]<;>grind
 | 3,_,_=>
  have h:j=0\/j=1\/j=2:=ad
  rcases h with rfl|rfl|rfl<;>simp[hoF,aV0,chn,ch3]<;>grind (ringSteps:=100000000)
 | 4,_,_=>
  have h:j=0\/j=1\/j=2\/j=3:=ad
  rcases h with rfl|rfl|rfl|rfl<;>simp[hoF,aN1,chn,ch4]<;>grind (ringSteps:=100000000)
set_option maxHeartbeats 0 in
theorem bM4 {n:Nat}(n2:2<=n)(n4:n<=4)(A:Nat->Nat->Int)(z:Int):bV7 (rwF (n+1) λj=>chn n A (n-j)) z=dM 4 (tbL n λi j=>z*(if i=j then 1 else 0)-A i j):=by
 match n,n2,n4 with
 | 2,_,_=>
  show(((0*z+1)*z+ch2 A 1)*z+ch2 A 2)=_
  rw[aB4];simp[ch2]
  grind
 | 3,_,_=>
  show((((0*z+1)*z+ch3 A 1)*z+ch3 A 2)*z+ch3 A 3)=_
  rw[aB5];simp[ch3]
  grind (ringSteps:=100000000)
 | 4,_,_=>
  show(((((0*z+1)*z+ch4 A 1)*z+ch4 A 2)*z+ch4 A 3)*z+ch4 A 4)=_
  rw[aB6];simp[ch4]
  grind (ringSteps:=100000000)
theorem d91 {n:Nat}(n2:2<=n)(n4:n<=4)(A:Nat->Nat->Int):chn n A n=(if n%2=0 then 1 else -1)*dM 4 (tbL n A):=by
 match n,n2,n4 with
 | 2,_,_=>
  show ch2 A 2=1*_
  rw[aB4];unfold ch2
  grind
 | 3,_,_=>
  show ch3 A 3= -1*_
  rw[aB5];unfold ch3
  grind
 | 4,_,_=>
  show ch4 A 4=1*_
  rw[aB6];unfold ch4
  grind
theorem b45 {n:Nat}(n2:2<=n)(n4:n<=4)(A:Nat->Nat->Int):chn n A 0=1:=by
 match n,n2,n4 with
 | 2,_,_=>rfl
 | 3,_,_=>rfl
 | 4,_,_=>rfl
theorem eV {n:Nat}{f g:Nat->Int}(h: ∀i,i<n->f i=g i):cC n f=cC n g:=by
 unfold cC;rw[t9 λi hi=>h i (dE.mp hi)]
theorem d92 {n:Nat}{f g:Nat->Int}(h:rwF n f=rwF n g)(j:Nat)(hj:j<n):f j=g j:=by
 have e:(rwF n f)[j]? =(rwF n g)[j]? :=by rw[h]
 rw[aY7 hj,aY7 hj]at e;exact gF e
theorem cB8 {n:Nat}(n2:2<=n)(n4:n<=4)(A:Nat->Nat->Int):hoF n A 1=lM 1:=by
 funext j
 show dN n (λ_=>0) A j+(if j=0 then chn n A 0 else 0)=lM 1 j
 rw[b45 n2 n4,show dN n (λ_=>0) A j=0 by
  match n,n2,n4 with
  | 2,_,_=>simp[aU9]
  | 3,_,_=>simp[aV0]
  | 4,_,_=>simp[aN1]]
 unfold lM
 lia
theorem mS {p:List Int}{n:Nat}{f g:Nat->Int}(n1:1<=n)(h: ∀j,j<n->f j=g j): ∀i j,j<n->itT p n f i j=itT p n g i j
 | 0,j,hj=>h j hj
 | i+1,j,hj=>aS4 n1 (mS n1 h i) j hj
theorem d93 {p:List Int}{n:Nat}(k:Int)(u:Nat->Int)(j:Nat):ttF p n (λi=>k*u i) j=k*ttF p n u j:=by
 unfold ttF
 by_cases h:j=0
 ·rw[a7 h,a7 h];grind
 ·rw[a6 h,a6 h];grind
theorem b46 {p:List Int}{n:Nat}(k:Int)(u:Nat->Int): ∀i j,itT p n (λj=>k*u j) i j=k*itT p n u i j
 | 0,j=>rfl
 | i+1,j=>by
  have e:itT p n (λj=>k*u j) i=λj=>k*itT p n u i j:=funext λj=>b46 k u i j
  show ttF p n (itT p n (λj=>k*u j) i) j=_
  rw[e,d93];rfl
theorem b47 {n:Nat}{s t:Nat->Nat->Int}(h: ∀i j,i<n->j<n->s i j=t i j):tbL n s=tbL n t:=by
 unfold tbL;refine t9 λi hi=> ?_
 exact iC λj hj=>h i j (dE.mp hi) hj
theorem lN {p:List Int}{n:Nat}{u u' v v':Nat->Int}(n1:1<=n)(hu: ∀j,j<n->u j=u' j)(hv: ∀j,j<n->v j=v' j)(j:Nat)(hj:j<n):bG p n u v j=bG p n u' v' j:=
 eV λi hi=>by rw[hv i hi,mS n1 hu i j hj]
theorem cB9 {n:Nat}(u:Nat->Int)(j:Nat)(hj:j<n):cz n u j=u j:=a7 hj
theorem zK {p:List Int}{n:Nat}(n2:2<=n)(n4:n<=4)(u v:Nat->Int)(j:Nat)(hj:j<n):bG p n u v j=bG p n v u j:=by
 have h:=d92 (bG0 (p:=p) (u:=cz n u) (v:=cz n v) n2 n4 (λk hk=>a6 ad) λk hk=>a6 ad) j hj
 rw[lN ad (cB9 u) (cB9 v) j hj,lN ad (cB9 v) (cB9 u) j hj]at h
 exact h
theorem cW4 {n:Nat}(n2:2<=n)(n4:n<=4)(w:Nat->Int)(a b:Nat->Nat->Int)(j:Nat):dN n w (λi=>dN n (a i) b) j=dN n (dN n w a) b j:=by
 match n,n2,n4 with
 | 2,_,_=>simp only[aU9];grind
 | 3,_,_=>simp only[aV0];grind
 | 4,_,_=>simp only[aN1];grind
theorem sQ {p:List Int}{n:Nat}(n2:2<=n)(n4:n<=4)(u v w:Nat->Int)(j:Nat)(hj:j<n):bG p n (bG p n u v) w j=bG p n u (bG p n v w) j:=by
 have h:bG p n (bG p n u v) w j=dN n w (λi=>dN n (itT p n v i) (itT p n u)) j:=eV λi hi=>by rw[c59 u v n2 n4 i j hj]
 rw[h,cW4 n2 n4];rfl
theorem a60 {n:Nat}(v w:Nat->Int)(c:Int)(a:Nat->Nat->Int)(j:Nat):dN n (λi=>v i+c*w i) a j=dN n v a j+c*dN n w a j:=by
 unfold dN;have: ∀k,cC k (λi=>(v i+c*w i)*a i j)=cC k (λi=>v i*a i j)+c*cC k λi=>w i*a i j:=by
  intro k
  induction k with
  | zero=>show(0:Int)=0+c*0;lia
  | succ k ih=>rw[aZ,aZ,aZ,ih];grind
 exact this n
theorem aN2 {p:List Int}{n:Nat}(u v w:Nat->Int)(c:Int)(j:Nat):bG p n u (λi=>v i+c*w i) j=bG p n u v j+c*bG p n u w j:=a60 v w c _ j
theorem aI1 {p:List Int}{n:Nat}(u v:Nat->Int)(c:Int)(j:Nat):bG p n u (λi=>c*v i) j=c*bG p n u v j:=by
 have h:=a60 (n:=n) (λ_=>0) v c (itT p n u) j
 have e:(λi=>(λ_=>(0:Int)) i+c*v i)=λi=>c*v i:=funext λi=>bN _
 rw[e]at h;have z:dN n (λ_=>0) (itT p n u) j=0:=by
  have:=a60 (n:=n) (λ_=>0) (λ_=>0) 1 (itT p n u) j
  rw[show(λi=>(λ_=>(0:Int)) i+1*(λ_=>(0:Int)) i)=λ_=>0 from rfl]at this
  lia
 rw[z,bN]at h;exact h
theorem aN3 {p:List Int}{n:Nat}(n1:1<=n)(u:Nat->Int)(j:Nat):bG p n u (lM 1) j=u j:=by
 unfold bG;have: ∀k,1<=k->cC k (λi=>lM 1 i*itT p n u i j)=u j:=by
  intro k hk
  induction k with
  | zero=>lia
  | succ k ih=>
   rw[aZ]
   by_cases z:k=0
   ·subst z;show 0+1*u j=u j
    lia
   ·rw[ih ad,show lM 1 k=0 from a6 z]
    lia
 exact this n n1
theorem bV8 {p:List Int}{n:Nat}(n2:2<=n)(n4:n<=4){x V W:Nat->Int}{q:Int}(q0:q≠0){c:Nat->Int}{Nz:(Nat->Int)->Prop}(hc: ∀k,k<=n->chn n (itT p n x) k=q^k*c k)(hx: ∀j,j<n->bG p n x V j=q*W j)
  (h1:Nz (lM 1)) (hs: ∀K v k,1<=k->k<=n->Nz K->Nz λj=>bG p n W K j+c k*bG p n V v j) (h0: ∀K,(∀j,j<n->K j=0)-> ¬Nz K):False:=by
 have key: ∀i,i<=n-> ∃v K,(∀j,j<n->bG p n v (hoF n (itT p n x)<|i+1) j=q^i*K j)/\Nz K:=by
  intro i
  induction i with
  | zero=>
   refine λ_=>⟨lM 1,lM 1,λj hj=> ?_,h1⟩
   rw[cB8 n2 n4,aN3 ad,cL,iH]
  | succ i ih=>
   intro hi;obtain⟨v,K,e,z⟩:=ih ad
   refine⟨bG p n V v,_,λj hj=> ?_,hs K v (i+1) ad hi z⟩
   have e1: ∀k,hoF n (itT p n x) (i+1+1) k=bG p n x (hoF n (itT p n x)<|i+1) k+(q^(i+1)*c (i+1))*lM 1 k:=λk=>by
    show dN n (hoF n (itT p n x)<|i+1) (itT p n x) k+(if k=0 then chn n (itT p n x) (i+1)else 0)=_
    rw[hc (i+1) hi];unfold lM;split
    ·rw[iG];rfl
    ·rw[bD];rfl
   rw[show hoF n (itT p n x) (i+1+1)=_ from funext e1,aN2,aN3 ad]
   have e2:bG p n (bG p n V v) (bG p n x<|hoF n (itT p n x)<|i+1) j=q*(q^i*bG p n W K j):=by
    rw[sQ n2 n4 _ _ _ j hj,lN (u':=V) (v':=bG p n x (bG p n v<|hoF n (itT p n x)<|i+1)) ad (λ_ _=>rfl) (λk hk=> ?_) j hj,<-sQ n2 n4 _ _ _ j hj,
     lN (u':=λk=>q*W k) (v':=λk=>q^i*K k) ad (λk hk=>by rw[zK n2 n4 _ _ k hk];exact hx k hk) e j hj,aI1,zK n2 n4 _ _ j hj,aI1,zK n2 n4 _ _ j hj]
    ·grind
    ·rw[<-sQ n2 n4 _ _ _ k hk,lN (u':=bG p n x v) (v':=hoF n (itT p n x) (i+1)) ad (zK n2 n4 _ _) (λ_ _=>rfl) k hk,sQ n2 n4 _ _ _ k hk]
   rw[e2,gW]
   grind
 obtain⟨v,K,e,z⟩:=key n (aB _);refine h0 K (λj hj=> ?_) z
 have:=e j hj;rw[lN (u':=v) (v':=λk=>0*lM 1 k) ad (λ_ _=>rfl) (λk hk=>by rw[cB7 n2 n4 _ k hk,cT]) j hj,aI1,cT]at this
 exact(Int.mul_eq_zero.mp this.symm).resolve_left (Int.pow_ne_zero q0)
theorem zL {n:Nat}(n2:2<=n)(n4:n<=4){A B:Nat->Nat->Int}(h: ∀i j,i<n->j<n->A i j=B i j)(k:Nat):chn n A k=chn n B k:=by
 match n,n2,n4 with
 | 2,_,_=>
  show ch2 A k=ch2 B k
  match k with
  | 0=>rfl
  | 1=>simp only[ch2,h _ _ (show 0<2 by decide)<|show 0<2 by decide,h _ _ (show 1<2 by decide)<|show 1<2 by decide]
  | 2=>simp(discharger:=decide) only[ch2,h]
  | k+3=>rfl
 | 3,_,_=>
  show ch3 A k=ch3 B k
  match k with
  | 0=>rfl
  | 1=>simp(discharger:=decide) only[ch3,h]
  | 2=>simp(discharger:=decide) only[ch3,h]
  | 3=>simp(discharger:=decide) only[ch3,h]
  | k+4=>rfl
 | 4,_,_=>
  show ch4 A k=ch4 B k
  match k with
  | 0=>rfl
  | 1=>simp(discharger:=decide) only[ch4,h]
  | 2=>simp(discharger:=decide) only[ch4,h]
  | 3=>simp(discharger:=decide) only[ch4,h]
  | 4=>simp(discharger:=decide) only[ch4,h]
  | k+5=>rfl
theorem c60 {n:Nat}(n2:2<=n)(n4:n<=4)(c:Int)(A:Nat->Nat->Int)(k:Nat)(kn:k<=n):chn n (λi j=>c*A i j) k=c^k*chn n A k:=by
 match n,n2,n4 with
 | 2,_,_=>
  show ch2 (λi j=>c*A i j) k=c^k*ch2 A k
  match k,kn with
  | 0,_=>exact(iH 1).symm.trans (bU (· *1) (cL c).symm)
  | 1,_=>simp only[ch2];grind
  | 2,_=>simp only[ch2];grind
 | 3,_,_=>
  show ch3 (λi j=>c*A i j) k=c^k*ch3 A k
  match k,kn with
  | 0,_=>exact(iH 1).symm.trans (bU (· *1) (cL c).symm)
  | 1,_=>simp only[ch3];grind
  | 2,_=>simp only[ch3];grind
  | 3,_=>simp only[ch3];grind
 | 4,_,_=>
  show ch4 (λi j=>c*A i j) k=c^k*ch4 A k
  match k,kn with
  | 0,_=>exact(iH 1).symm.trans (bU (· *1) (cL c).symm)
  | 1,_=>simp only[ch4];grind
  | 2,_=>simp only[ch4];grind
  | 3,_=>simp only[ch4];grind
  | 4,_=>simp only[ch4];grind
theorem d94 {n:Nat}(n2:2<=n)(n4:n<=4)(B:Nat->Nat->Int):dM 4 (tbL n λi j=> -B i j)=(if n%2=0 then 1 else -1)*dM 4 (tbL n B):=by
 match n,n2,n4 with
 | 2,_,_=>rw[aB4,aB4];simp;grind
 | 3,_,_=>rw[aB5,aB5];simp;grind
 | 4,_,_=>rw[aB6,aB6];simp;grind
theorem aN4 {n:Nat}(n2:2<=n)(n4:n<=4)(A B:Nat->Nat->Int):dM 4 (tbL n λi=>dN n (A i) B)=dM 4 (tbL n A)*dM 4 (tbL n B):=by
 match n,n2,n4 with
 | 2,_,_=>exact mulD2 A B
 | 3,_,_=>exact mulD3 A B
 | 4,_,_=>exact mulD4 A B
theorem bV9 {n i:Nat}(hi:i<n)(f:Nat->Int):cC n (λk=>if i=k then f k else 0)=f i:=by
 induction n with
 | zero=>lia
 | succ n ih=>
  rw[aZ]
  by_cases e:i=n
  ·subst e;rw[a7 rfl];have: ∀k,k<=i->cC k (λk=>if i=k then f k else 0)=0:=by
    intro k
    induction k with
    | zero=>exact λ_=>rfl
    | succ k ih=>exact λh=>by rw[aZ,ih ad,a6 ad];rfl
   rw[this i<|aB _,bN]
  ·rw[ih ad,a6 e,gH]
theorem aZ1 {n i:Nat}(hi:i<n)(d:Int)(X:Nat->Nat->Int)(j:Nat):dN n (λk=>if i=k then d else 0) X j=d*X i j:=by
 rw[<-bV9 hi λk=>d*X k j]
 exact eV λk _=>by split<;>grind
theorem bM5 {n j:Nat}(hj:j<n)(d:Nat->Int)(v:Nat->Int):dN n v (λk j=>if k=j then d k else 0) j=v j*d j:=by
 rw[<-bV9 hj λk=>v k*d k]
 exact eV λk _=>by
  dsimp only
  by_cases e:j=k
  ·rw[a7 e,a7 e.symm]
  ·rw[a6 e,a6<|show ¬k=j from λh=>e h.symm,bD]
theorem bM6 {n:Nat}(n2:2<=n)(n4:n<=4)(A:Nat->Nat->Int)(z:Int):bV7 (rwF (n+1) λj=>chn n (λi=>dN n (A i) A) (n-j)) (z*z)=(if n%2=0 then 1 else -1)*(bV7 (rwF (n+1) λj=>chn n A (n-j)) z*bV7 (rwF (n+1) λj=>chn n A (n-j)) (-z)):=by
 rw[bM4 n2 n4,bM4 n2 n4,bM4 n2 n4];have e:=aN4 n2 n4 (λi j=>z*(if i=j then 1 else 0)-A i j) (λi j=> -(-z*(if i=j then 1 else 0)-A i j))
 rw[d94 n2 n4]at e;rw[b47 (t:=λi=>dN n (λj=>z*(if i=j then 1 else 0)-A i j) (λi j=> -(-z*(if i=j then 1 else 0)-A i j))) λi j hi hj=> ?_,e]
 ·grind
 ·have e1:(λj=>z*(if i=j then 1 else 0)-A i j)=λj=>(if i=j then z else 0)+(-1)*A i j:=funext λj=>by split<;>grind
  have e2:(λi j=> -(-z*(if i=j then 1 else 0)-A i j))=fun(i j:Nat)=>(if i=j then(z:Int)else 0)+A i j:=funext λi=>funext λj=>by split<;>grind
  rw[e1,e2,a60,aZ1 hi];have e3:dN n (A i) (λi j=>(if i=j then z else 0)+A i j) j=dN n (A i) (λi j=>if i=j then(λ_=>z) i else 0) j+dN n (A i) A j:=by
   unfold dN;have: ∀k,cC k (λk=>A i k*((if k=j then z else 0)+A k j))=cC k (λk=>A i k*(if k=j then z else 0))+cC k λk=>A i k*A k j:=by
    intro k
    induction k with
    | zero=>rfl
    | succ k ih=>rw[aZ,aZ,aZ,ih];grind
   exact this n
  rw[e3,bM5 hj];split<;>grind
theorem sq_dvd {q:Int}(pq:Pr q){n:Nat}(n2:2<=n)(n4:n<=4){A:Nat->Nat->Int}(h: ∀k,1<=k->k<=n->q∣chn n (λi=>dN n (A i) A) k): ∀k,1<=k->k<=n->q∣chn n A k:=by
 have v0:=bM6 n2 n4 A 0;have v1:=bM6 n2 n4 A 1;have v2:=bM6 n2 n4 A 2;have v3:=bM6 n2 n4 A 3;have o1:=b45 n2 n4 A;have o2:=b45 n2 n4 λi=>dN n (A i) A
 match n,n2,n4 with
 | 2,_,_=>
  have k1:=h 1 ac ac
  have k2:=h 2 ac ac
  generalize chn 2 (λi=>dN 2 (A i) A)=C at *
  generalize chn 2 A=a at *;simp[rwF,aT,bV7,o1,o2]at v0 v1 v2 v3;have d2:=pq.sq (v0▸k2);have d1:q∣a 1:=pq.sq (dv2 (x:= -1) (y:=2) k1 d2<|by grind)
  intro k h1 hk;have:k=1\/k=2:=ad
  rcases this with rfl|rfl<;>assumption
 | 3,_,_=>
  have k1:=h 1 ac ac
  have k2:=h 2 ac ac
  have k3:=h 3 ac ac
  generalize chn 3 (λi=>dN 3 (A i) A)=C at *
  generalize chn 3 A=a at *;simp[rwF,aT,bV7,o1,o2]at v0 v1 v2 v3;have d3:q∣a 3:=pq.sq (dv1 (x:= -1) k3<|by grind)
  have d2:q∣a 2:=pq.sq (dv2 (x:=1) (y:=2*a 1) k2 d3<|by grind)
  have d1:q∣a 1:=pq.sq (dv2 (x:= -1) (y:=2) k1 d2<|by grind)
  intro k h1 hk;have:k=1\/k=2\/k=3:=ad
  rcases this with rfl|rfl|rfl<;>assumption
 | 4,_,_=>
  have k1:=h 1 ac ac
  have k2:=h 2 ac ac
  have k3:=h 3 ac ac
  have k4:=h 4 ac ac
  generalize chn 4 (λi=>dN 4 (A i) A)=C at *
  generalize chn 4 A=a at *;simp[rwF,aT,bV7,o1,o2]at v0 v1 v2 v3;have d4:q∣a 4:=pq.sq (dv1 (x:=1) k4<|by grind)
  have d3:q∣a 3:=pq.sq (dv2 (x:= -1) (y:=2*a 2) k3 d4<|by grind)
  have d2:q∣a 2:=pq.sq (dv3 (x:=1) (y:=2*a 1) (z:= -2) k2 d3 d4<|by grind)
  have d1:q∣a 1:=pq.sq (dv2 (x:= -1) (y:=2) k1 d2<|by grind)
  intro k h1 hk;have:k=1\/k=2\/k=3\/k=4:=ad
  rcases this with rfl|rfl|rfl|rfl<;>assumption
theorem cW5 {n:Nat}(n2:2<=n)(n4:n<=4)(A:Nat->Nat->Int):chn n (λi=>dN n (A i) A) 1=2*chn n A 2-chn n A 1*chn n A 1:=by
 match n,n2,n4 with
 | 2,_,_=>show ch2 (λi=>dN 2 (A i) A) 1=2*ch2 A 2-ch2 A 1*ch2 A 1;simp only[ch2,aU9];grind
 | 3,_,_=>show ch3 (λi=>dN 3 (A i) A) 1=2*ch3 A 2-ch3 A 1*ch3 A 1;simp only[ch3,aV0];grind
 | 4,_,_=>show ch4 (λi=>dN 4 (A i) A) 1=2*ch4 A 2-ch4 A 1*ch4 A 1;simp only[ch4,aN1];grind
theorem cC0 {p:List Int}{n:Nat}(n2:2<=n)(n4:n<=4)(u:Nat->Int)(k:Nat):chn n (itT p n<|bG p n u u) k=chn n (λi=>dN n (itT p n u i) (itT p n u)) k:=
 zL n2 n4 (λi j _ hj=>c59 u u n2 n4 i j hj) k
theorem cI6 {p:List Int}{n:Nat}(n2:2<=n)(n4:n<=4){q:Int}{u:Nat->Int}(h: ∀j,j<n->q∣u j)(k:Nat)(k1:1<=k)(kn:k<=n):q∣chn n (itT p n u) k:=by
 have e: ∀j,j<n->u j=q*(u j/q):=λj hj=>(gT<|h j hj).symm
 rw[zL n2 n4 (B:=λi j=>q*itT p n (λj=>u j/q) i j) (λi j _ hj=>by rw[mS (g:=λj=>q*(u j/q)) ad e i j hj,b46]) k,c60 n2 n4 _ _ _ kn]
 obtain⟨m,rfl⟩: ∃m,k=m+1:=⟨k-1,ad⟩
 exact⟨q^m*chn n (itT p n λj=>u j/q) (m+1),by rw[gW];grind⟩
def cI7 (p:List Int)(n:Nat)(q:Int)(u:Nat->Int):Prop:= ∀v k,1<=k->k<=n->q∣chn n (itT p n<|bG p n u v) k
theorem cI7.root {p:List Int}{n:Nat}(n2:2<=n)(n4:n<=4){q:Int}(pq:Pr q){u:Nat->Int}(h:cI7 p n q (bG p n u u)):cI7 p n q u:=λv=>by
 refine sq_dvd pq n2 n4 λk k1 kn=> ?_
 rw[<-cC0 n2 n4];have:=h (bG p n v v) k k1 kn;rw[zL n2 n4 (B:=itT p n (bG p n (bG p n u v)<|bG p n u v)) (λi j _ hj=>mS ad (λj hj=> ?_) i j hj) k]at this
 ·exact this
 ·rw[sQ n2 n4 _ _ _ j hj,sQ n2 n4 _ _ _ j hj];refine lN ad (λ_ _=>rfl) (λk hk=> ?_) j hj
  rw[<-sQ n2 n4 _ _ _ k hk,<-sQ n2 n4 _ _ _ k hk];refine(lN ad (λl hl=> ?_) (λ_ _=>rfl) k hk)
  exact zK n2 n4 _ _ l hl
theorem d95 {p:List Int}{n:Nat}(n2:2<=n)(n4:n<=4){q:Int}{x:Nat->Int}(hc: ∀k,1<=k->k<=n->q∣chn n (itT p n x) k): ∀j,j<n->q∣bG p n (bG p n x x) (bG p n x x) j:=by
 have key: ∀i,i<=n-> ∃w,(∀j,j<n->q∣hoF n (itT p n x) (i+1) j-w j)/\(i=0->w=lM 1)/\(i=2-> ∀j,j<n->w j=bG p n x x j)/\(i=3-> ∀j,j<n->w j=bG p n x (bG p n x x) j)/\(i=4-> ∀j,j<n->w j=bG p n x (bG p n x<|bG p n x x) j)/\(i=1-> ∀j,j<n->w j=x j):=by
  intro i
  induction i with
  | zero=>exact λ_=>⟨lM 1,λj hj=>by rw[cB8 n2 n4];exact cgR _,λ_=>rfl,nofun,nofun,nofun,nofun⟩
  | succ i ih=>
   intro hi;obtain⟨w,e,w0,w2,w3,w4,w1⟩:=ih ad
   refine⟨bG p n x w,λj hj=> ?_,nofun,λh j hj=> ?_,λh j hj=> ?_,λh j hj=> ?_,λh j hj=> ?_⟩
   ·show q∣dN n (hoF n (itT p n x)<|i+1) (itT p n x) j+(if j=0 then chn n (itT p n x) (i+1)else 0)-bG p n x w j
    have a:=hc (i+1) ad hi
    have b:q∣(if j=0 then chn n (itT p n x) (i+1)else 0):=by
     split
     ·exact a
     ·exact dvd_zero q
    have c:q∣dN n (hoF n (itT p n x)<|i+1) (itT p n x) j-bG p n x w j:=by
     have:dN n (hoF n (itT p n x)<|i+1) (itT p n x) j-bG p n x w j=dN n (λk=>hoF n (itT p n x) (i+1) k+(-1)*w k) (itT p n x) j:=by
      rw[a60];show _-dN n w (itT p n x) j=_
      lia
     rw[this];have:dN n (λk=>hoF n (itT p n x) (i+1) k+(-1)*w k) (itT p n x) j=dN n (λk=>q*((hoF n (itT p n x) (i+1) k-w k)/q)) (itT p n x) j:=
      eV λk hk=>by
       dsimp only;rw[gT<|e k hk]
       grind
     rw[this];have:=aI1 (p:=p) (n:=n) x (λk=>(hoF n (itT p n x) (i+1) k-w k)/q) q j
     rw[show dN n (λk=>q*((hoF n (itT p n x) (i+1) k-w k)/q)) (itT p n x) j=_ from this]
     exact⟨_,rfl⟩
    exact dv2 (x:=1) (y:=1) c b (by grind)
   ·exact lN ad (λ_ _=>rfl) (w1 ad) j hj
   ·exact lN ad (λ_ _=>rfl) (w2 ad) j hj
   ·exact lN ad (λ_ _=>rfl) (w3 ad) j hj
   ·rw[w0 ad,aN3 ad]
 have step: ∀u:Nat->Int,(∀j,j<n->q∣u j)-> ∀j,j<n->q∣bG p n x u j:=λu h j hj=>by
  rw[lN (u':=x) (v':=λk=>q*(u k/q)) ad (λ_ _=>rfl) (λk hk=>(gT<|h k hk).symm) j hj,aI1]
  exact⟨_,rfl⟩
 have fin: ∀j,j<n->q∣bG p n x (bG p n x<|bG p n x x) j:=by
  obtain⟨w,e,_,w2,w3,w4,_⟩:=key n (aB _);have e': ∀j,j<n->q∣w j:=λj hj=>by
   have:=e j hj;rw[cB7 n2 n4 _ j hj]at this;exact dv1 (x:= -1) this (by grind)
  have:n=2\/n=3\/n=4:=ad
  rcases this with h|h|h
  ·exact step _ (step _ λj hj=>w2 h j hj▸e' j hj)
  ·exact step _ λj hj=>w3 h j hj▸e' j hj
  ·exact λj hj=>w4 h j hj▸e' j hj
 intro j hj;rw[sQ n2 n4 _ _ _ j hj];exact fin j hj
theorem cI7.of {p:List Int}{n:Nat}(n2:2<=n)(n4:n<=4){q:Int}(pq:Pr q){x:Nat->Int}(hc: ∀k,1<=k->k<=n->q∣chn n (itT p n x) k):cI7 p n q x:=by
 refine .root n2 n4 pq (.root n2 n4 pq λv k k1 kn=>cI6 n2 n4 (λj hj=> ?_) k k1 kn)
 have h:=d95 n2 n4 hc;rw[zK n2 n4 _ _ j hj,lN (u':=v) (v':=λk=>q*(bG p n (bG p n x x) (bG p n x x) k/q)) ad (λ_ _=>rfl) (λk hk=>(gT<|h k hk).symm) j hj,aI1]
 exact⟨_,rfl⟩
noncomputable def aI2 (p:List Int)(n:Nat)(u:Nat->Int):Int:= -chn n (itT p n u) 1
noncomputable def pwT (p:List Int)(n k:Nat):Int:=aI2 p n (itT p n (lM 1) k)
theorem pwT2 (x y:Int):(List.range 3).map (pwT [x,y,1] 2)=cV [x,y,1] 2:=by
 simp[pwT,aI2,chn,ch2,lM,itT,ttF,cV,iK,aT]
 try grind
theorem pwT3 (x y z:Int):(List.range 5).map (pwT [x,y,z,1] 3)=cV [x,y,z,1] 4:=by
 simp[pwT,aI2,chn,ch3,lM,itT,ttF,cV,iK,aT]
 try grind
theorem pwT4 (x y z w:Int):(List.range 7).map (pwT [x,y,z,w,1] 4)=cV [x,y,z,w,1] 6:=by
 simp[pwT,aI2,chn,ch4,lM,itT,ttF,cV,iK,aT]
 try grind
theorem cW6 {p:List Int}{n:Nat}(rp:eE p)(hn:p.length=n+1):cO p=tbL n λi j=>pwT p n (i+j):=by
 rcases rp.cases with⟨x,y,rfl,_⟩| ⟨x,y,z,rfl,_⟩| ⟨x,y,z,w,rfl,_⟩
 ·have h:3=n+1:=hn;obtain rfl:n=2:=ad
  have:cO [x,y,1]=(List.range 2).map λi=>((cV [x,y,1] 2).drop i).take 2:=rfl
  rw[this,<-pwT2];rfl
 ·have h:4=n+1:=hn;obtain rfl:n=3:=ad
  have:cO [x,y,z,1]=(List.range 3).map λi=>((cV [x,y,z,1] 4).drop i).take 3:=rfl
  rw[this,<-pwT3];rfl
 ·have h:5=n+1:=hn;obtain rfl:n=4:=ad
  have:cO [x,y,z,w,1]=(List.range 4).map λi=>((cV [x,y,z,w,1] 6).drop i).take 4:=rfl
  rw[this,<-pwT4];rfl
theorem d96 {n:Nat}(n2:2<=n)(n4:n<=4)(A:Nat->Nat->Int):chn n A 1= -cC n λi=>A i i:=by
 match n,n2,n4 with
 | 2,_,_=>show ch2 A 1=_;simp[ch2,cC,aT]
 | 3,_,_=>show ch3 A 1=_;simp[ch3,cC,aT];lia
 | 4,_,_=>show ch4 A 1=_;simp[ch4,cC,aT];lia
def dgQ (c:Nat)(q:Int):Nat->Nat->Int:=λi j=>if i=j then(if i=c then q else 1)else 0
def bsX (c:Nat)(x:Nat->Int):Nat->Nat->Int:=λi j=>if i=c then x j else if i=j then 1 else 0
theorem d97 {n c:Nat}(n2:2<=n)(n4:n<=4)(hc:c<n)(q:Int):dM 4 (tbL n<|dgQ c q)=q:=by
 match n,n2,n4 with
 | 2,_,_=>
  have:c=0\/c=1:=ad
  rcases this with rfl|rfl<;>rw[aB4]<;>simp[dgQ]
 | 3,_,_=>
  have:c=0\/c=1\/c=2:=ad
  rcases this with rfl|rfl|rfl<;>rw[aB5]<;>simp[dgQ]
 | 4,_,_=>
  have:c=0\/c=1\/c=2\/c=3:=ad
  rcases this with rfl|rfl|rfl|rfl<;>rw[aB6]<;>simp[dgQ]
theorem d98 {n c:Nat}(n2:2<=n)(n4:n<=4)(hc:c<n)(x:Nat->Int):dM 4 (tbL n<|bsX c x)=x c/\dM 4 (tbL n λi j=>bsX c x j i)=x c:=by
 match n,n2,n4 with
 | 2,_,_=>
  have:c=0\/c=1:=ad
  rcases this with rfl|rfl<;>rw[aB4,aB4]<;>simp[bsX]
 | 3,_,_=>
  have:c=0\/c=1\/c=2:=ad
  rcases this with rfl|rfl|rfl<;>rw[aB5,aB5]<;>simp[bsX]
 | 4,_,_=>
  have:c=0\/c=1\/c=2\/c=3:=ad
  rcases this with rfl|rfl|rfl|rfl<;>rw[aB6,aB6]<;>simp[bsX]
theorem cW7 {n c:Nat}(n2:2<=n)(n4:n<=4)(hc:c<n){q:Int}{x z:Nat->Int}{Z:Int}{H:Nat->Nat->Int}(sy: ∀i j,H i j=H j i)(h1: ∀j,j<n->dN n x H j=q*z j)(h2:(cC n λk=>dN n x H k*x k)=q*q*Z):q*q∣x c*x c*dM 4 (tbL n H):=by
 have b:=d98 n2 n4 hc x;have m1:=aN4 n2 n4 (bsX c x) H;have m2:=aN4 n2 n4 (λi=>dN n (bsX c x i) H) (λi j=>bsX c x j i)
 rw[m1,b.1,b.2]at m2
 let M:Nat->Nat->Int:=λi j=>if i=c then(if j=c then Z else z j)else if j=c then z i else H i j
 have m3:=aN4 n2 n4 M (dgQ c q);have m4:=aN4 n2 n4 (dgQ c q) (λi=>dN n (M i) (dgQ c q))
 rw[m3,d97 n2 n4 hc]at m4;have e:tbL n (λi=>dN n (dN n (bsX c x i) H) (λi j=>bsX c x j i))=tbL n λi=>dN n (dgQ c q i) λi=>dN n (M i) (dgQ c q):=by
  refine b47 λi j hi hj=> ?_
  have d1:dN n (dgQ c q i) (λi=>dN n (M i) (dgQ c q)) j=(if i=c then q else 1)*(M i j*(if j=c then q else 1)):=by
   have a:=aZ1 hi (if i=c then q else 1) (λi=>dN n (M i) (dgQ c q)) j
   have a2:=bM5 hj (λk=>if k=c then q else 1) (M i)
   rw[<-a2];exact a
  rw[d1];have r1: ∀k,k<n->dN n (bsX c x i) H k=if i=c then q*z k else H i k:=λk hk=>by
   by_cases ic:i=c
   ·rw[a7 ic,<-h1 k hk];exact eV λl _=>by rw[show bsX c x i l=x l from a7 ic]
   ·rw[a6 ic];have:=aZ1 hi 1 H k;rw[iH]at this;rw[<-this];exact eV λl _=>by rw[show bsX c x i l=if i=l then 1 else 0 from a6 ic]
  have r2:dN n (dN n (bsX c x i) H) (λi j=>bsX c x j i) j=if j=c then(cC n λk=>dN n (bsX c x i) H k*x k)else dN n (bsX c x i) H j:=by
   by_cases jc:j=c
   ·rw[a7 jc];exact eV λl _=>by
     dsimp only;rw[show bsX c x j l=x l from a7 jc]
   ·rw[a6 jc];have:=bM5 hj (λ_=>1) (dN n (bsX c x i) H)
    rw[iG]at this;rw[<-this];exact eV λl _=>by
     dsimp only;rw[show bsX c x j l=if j=l then 1 else 0 from a6 jc]
     by_cases e:j=l
     ·rw[a7 e,a7 e.symm]
     ·rw[a6 e,a6<|show ¬l=j from λh=>e h.symm]
  rw[r2]
  by_cases jc:j=c
  ·rw[a7 jc,a7 jc]
   by_cases ic:i=c
   ·rw[a7 ic,show M i j=Z by show(if i=c then _ else _)=_;rw[a7 ic,a7 jc]]
    have:(cC n λk=>dN n (bsX c x i) H k*x k)=cC n λk=>dN n x H k*x k:=eV λk hk=>by rw[r1 k hk,a7 ic,h1 k hk]
    rw[this,h2]
    grind
   ·rw[a6 ic,show M i j=z i by show(if i=c then _ else _)=_;rw[a6 ic,a7 jc]]
    have:(cC n λk=>dN n (bsX c x i) H k*x k)=dN n x H i:=eV λk hk=>by rw[r1 k hk,a6 ic,sy i k];grind
    rw[this,h1 i hi]
    grind
  ·rw[a6 jc,a6 jc,r1 j hj]
   by_cases ic:i=c
   ·rw[a7 ic,a7 ic,show M i j=z j by show(if i=c then _ else _)=_;rw[a7 ic,a6 jc]]
    grind
   ·rw[a6 ic,a6 ic,show M i j=H i j by show(if i=c then _ else _)=_;rw[a6 ic,a6 jc]]
    grind
 rw[<-e,m2]at m4;exact⟨dM 4<|tbL n M,by grind⟩
theorem bM7 {p:List Int}{n:Nat}(u v:Nat->Int)(c:Int): ∀i j,itT p n (λi=>u i+c*v i) i j=itT p n u i j+c*itT p n v i j
 | 0,_=>rfl
 | i+1,j=>by
  have e:itT p n (λi=>u i+c*v i) i=λj=>itT p n u i j+c*itT p n v i j:=funext (bM7 u v c i)
  show ttF p n (itT p n (λi=>u i+c*v i) i) j=_
  rw[e,d90];rfl
theorem bM8 {p:List Int}{n:Nat}(w:Nat->Int)(a:Nat->Nat->Int)(i j:Nat): ∀m,itT p n (λl=>cC m λk=>w k*a k l) i j=cC m λk=>w k*itT p n (a k) i j
 | 0=>by
  exact(b46 (p:=p) (n:=n) 0 (λ_=>0) i j).trans (cT _)
 | m+1=>by
  rw[aZ,<-bM8 w a i j m,<-bM7]
  congr 1
  exact funext λl=>aZ m _
theorem bM9 {p:List Int}{n:Nat}(u:Nat->Int)(k:Nat): ∀i,itT p n (itT p n u k) i=itT p n u (k+i)
 | 0=>rfl
 | i+1=>bU (ttF p n) (bM9 u k i)
theorem d99 {p:List Int}{n:Nat}(n2:2<=n)(n4:n<=4){u v:Nat->Int}(h: ∀j,j<n->u j=v j):aI2 p n u=aI2 p n v:=
 bU Int.neg (zL n2 n4 (λi j _ hj=>mS ad h i j hj) 1)
theorem cC1 {p:List Int}{n:Nat}(n2:2<=n)(n4:n<=4)(w:Nat->Int)(a:Nat->Nat->Int)(m:Nat):aI2 p n (λl=>cC m λk=>w k*a k l)=cC m λk=>w k*aI2 p n (a k):=by
 have e: ∀u,aI2 p n u=cC n λi=>itT p n u i i:=λu=>by unfold aI2;rw[d96 n2 n4,neg_neg]
 rw[e];have e2:(λk=>w k*aI2 p n (a k))=λk=>w k*cC n λi=>itT p n (a k) i i:=funext λk=>by rw[e]
 rw[e2,eV (g:=λi=>cC m λk=>w k*itT p n (a k) i i) λi _=>bM8 w a i i m]
 have: ∀t,(cC t λi=>cC m λk=>w k*itT p n (a k) i i)=cC m λk=>w k*cC t λi=>itT p n (a k) i i:=by
  intro t
  induction t with
  | zero=>
   show(0:Int)=cC m λk=>w k*0
   have: ∀s,(cC s λk=>w k*0)=0:=by
    intro s
    induction s with
    | zero=>rfl
    | succ s ih=>rw[aZ,ih,bD];rfl
   exact(this m).symm
  | succ t ih=>
   rw[aZ,ih];have: ∀s,(cC s λk=>w k*cC t λi=>itT p n (a k) i i)+(cC s λk=>w k*itT p n (a k) t t)=cC s λk=>w k*cC (t+1) λi=>itT p n (a k) i i:=by
    intro s
    induction s with
    | zero=>rfl
    | succ s ih=>rw[aZ,aZ,aZ,<-ih,aZ];grind
   exact this m
 exact this n
theorem cW8 {p:List Int}{n:Nat}(n2:2<=n)(n4:n<=4)(x:Nat->Int)(j:Nat):dN n x (λi j=>pwT p n (i+j)) j=aI2 p n (itT p n x j):=by
 rw[d99 (v:=λl=>cC n λk=>x k*itT p n (lM 1) (k+j) l) n2 n4 λl hl=> ?_,cC1 n2 n4]
 ·rfl
 ·have: ∀l,l<n->x l=(λl=>cC n λk=>x k*itT p n (lM 1) k l) l:=λl hl=>by
   have:=aN3 (p:=p) (n:=n) ad x l
   rw[zK n2 n4 _ _ l hl]at this;exact this.symm
  rw[mS ad this j l hl,bM8]
  exact eV λk _=>by rw[bM9]
theorem dA0 {p:List Int}{n:Nat}(rp:eE p)(hn:p.length=n+1){q:Int}(pq:Pr q){x c:Nat->Int}(hc: ∀k,k<=n->chn n (itT p n x) k=q^k*c k){i:Nat}(hi:i<n)(nd: ¬q∣x i):q*q∣dM 4 (cO p):=by
 have lo:=rp.ok.lo;have hi':=rp.ok.hi;have n2:2<=n:=ad
 have n4:n<=4:=ad
 have md:cI7 p n q x:= .of n2 n4 pq λk k1 kn=>by
  rw[hc k kn];obtain⟨m,rfl⟩: ∃m,k=m+1:=⟨k-1,ad⟩
  exact⟨q^m*c (m+1),by rw[gW];grind⟩
 have d1: ∀j,j<n->q∣aI2 p n (itT p n x j):=λj hj=>by
  have:=md (λk=>if j=k then 1 else 0) 1 ac ad
  rw[zL n2 n4 (λa b _ hb=>mS (g:=itT p n x j) ad (λl _=> ?_) a b hb) 1]at this
  ·exact Int.dvd_neg.mpr this
  ·have:=aZ1 hj 1 (itT p n x) l;rw[iH]at this;exact this
 have s1:=cW5 n2 n4 (itT p n x);rw[hc 1 ad,hc 2 ad]at s1
 have f:=cW7 n2 n4 hi (q:=q) (x:=x) (z:=λj=>aI2 p n (itT p n x j)/q) (Z:=c 1*c 1-2*c 2) (H:=λi j=>pwT p n (i+j)) (λi j=>by rw[tN]) (λj hj=>by rw[cW8 n2 n4,gT<|d1 j hj]) (by
  have e:(cC n λk=>dN n x (λi j=>pwT p n (i+j)) k*x k)=cC n λk=>x k*aI2 p n (itT p n x k):=eV λk _=>by rw[cW8 n2 n4,qA]
  rw[e,<-cC1 n2 n4];show -chn n (itT p n<|bG p n x x) 1=_;rw[cC0 n2 n4,s1]
  grind)
 rw[<-cW6 rp hn]at f;generalize dM 4 (cO p)=D at f⊢;have q0:q≠0:=by have:=pq.lo;lia
 obtain⟨Z,eZ⟩:=f;obtain⟨D1,rfl⟩:=pq.cut (pq.cut (a:=x i) (b:=x i*D) ⟨q*Z,by grind⟩ nd) nd
 obtain⟨D2,rfl⟩:=pq.cut (pq.cut (a:=x i) (b:=x i*D1) ⟨Z,by
  have:q*(x i*(x i*D1))=q*(q*Z):=by grind
  exact j0 q0 this⟩ nd) nd
 exact⟨D2,by grind⟩
noncomputable def uI (p:List Int)(n:Nat)(F:Nat×(Nat->Int))(u:Nat->Int):Nat->Int:=λl=>cC (F.1+1) λk=>F.2 k*itT p n u k l
theorem cW9 (b T:Nat->Int)(N:Nat): ∀M,cC (N+M) (λm=>shF b N m*T m)=cC M λj=>b j*T (N+j)
 | 0=>by
  have: ∀k,k<=N->cC k (λm=>shF b N m*T m)=0:=by
   intro k
   induction k with
   | zero=>exact λ_=>rfl
   | succ k ih=>
    intro h;rw[aZ,ih ad,show shF b N k=0 from a6 ad,cT]
    rfl
  exact this N (aB _)
 | M+1=>by
  rw[<-kS,aZ,cW9 b T N M,aZ,show shF b N (N+M)=b M by unfold shF;rw[a7 ad,show N+M-N=M by lia]]
theorem bW0 {f:Nat->Int}{M:Nat}(h: ∀j,M<=j->f j=0): ∀k,cC (M+k) f=cC M f
 | 0=>rfl
 | k+1=>by rw[<-kS,aZ,bW0 h k,h _ ad,gH]
theorem bW1 {a b T:Nat->Int}{A B:Nat}(hb: ∀j,B<j->b j=0): ∀N,N<=A+1->(cC (A+B+1) λm=>conv a b N m*T m)=cC N λi=>a i*cC (B+1) λj=>b j*T (i+j)
 | 0,_=>by
  have: ∀k,cC k (λm=>conv a b 0 m*T m)=0:=by
   intro k
   induction k with
   | zero=>rfl
   | succ k ih=>rw[aZ,ih,show conv a b 0 k=0 from rfl,cT];rfl
  exact this _
 | N+1,h=>by
  rw[aZ N,<-bW1 (A:=A) hb N ad]
  have e: ∀k,cC k (λm=>conv a b (N+1) m*T m)=cC k (λm=>conv a b N m*T m)+a N*cC k λm=>shF b N m*T m:=by
   intro k
   induction k with
   | zero=>show(0:Int)=0+a N*0;lia
   | succ k ih=>
    rw[aZ,ih,aZ,aZ,show conv a b (N+1) k=conv a b N k+a N*shF b N k from rfl]
    grind
  rw[e]
  congr 2
  rw[show A+B+1=N+(B+1+(A-N))by lia,cW9,bW0 (M:=B+1) λj hj=>by rw[hb j ad,cT]]
theorem act_tm {p:List Int}{n:Nat}{q:Int}{a b:Nat×(Nat->Int)}(hb: ∀j,b.1<j->b.2 j=0)(u:Nat->Int)(l:Nat):q∣uI p n (tm q a b) u l-uI p n a (uI p n b u) l:=by
 have e:uI p n a (uI p n b u) l=cC (a.1+1) λi=>a.2 i*cC (b.1+1) λj=>b.2 j*itT p n u (i+j) l:=
  eV λi _=>by
   rw[show itT p n (uI p n b u) i l=_ from bM8 b.2 (λk=>itT p n u k) i l (b.1+1)]
   congr 1
   exact eV λj _=>by rw[bM9,tN]
 rw[e,<-bW1 (T:=λm=>itT p n u m l) hb (a.1+1) (aB _)]
 show q∣(cC (a.1+b.1+1) λk=>conv a.2 b.2 (a.1+1) k%q*itT p n u k l)-_
 have: ∀k,q∣(cC k λk=>conv a.2 b.2 (a.1+1) k%q*itT p n u k l)-cC k λm=>conv a.2 b.2 (a.1+1) m*itT p n u m l:=by
  intro k
  induction k with
  | zero=>exact⟨0,by show(0:Int)-0=q*0;lia⟩
  | succ k ih=>
   rw[aZ,aZ];exact cgA ih (cgM (cgE _)<|cgR _)
 exact this _
theorem act_cg {p:List Int}{n:Nat}(n1:1<=n){q:Int}{F:Nat×(Nat->Int)}{u v:Nat->Int}(h: ∀l,l<n->q∣u l-v l)(l:Nat)(hl:l<n):q∣uI p n F u l-uI p n F v l:=by
 have e: ∀l,l<n->u l=(λl=>v l+q*((u l-v l)/q)) l:=λl hl=>by
  dsimp only;rw[gT<|h l hl]
  lia
 have: ∀k,q∣(cC k λk=>F.2 k*itT p n u k l)-cC k λk=>F.2 k*itT p n v k l:=by
  intro k
  induction k with
  | zero=>exact⟨0,by show(0:Int)-0=q*0;lia⟩
  | succ k ih=>
   rw[aZ,aZ];refine cgA ih (cgM (cgR _) ?_);rw[mS n1 e k l hl,bM7];exact⟨itT p n (λl=>(u l-v l)/q) k l,ad⟩
 exact this _
theorem cX0 {p:List Int}{n:Nat}(n1:1<=n){q:Int}{P:(Nat->Int)->Prop}: ∀(xs:List ((Nat×(Nat->Int))×Nat)) {a:Nat×(Nat->Int)},(∀x∈xs,(∀j,x.1.1<j->x.1.2 j=0)/\ ∀u,P u->(∃l,l<n/\ ¬q∣u l)->P (uI p n x.1 u)/\ ∃l,l<n/\ ¬q∣uI p n x.1 u l)->
  (∀u,P u->(∃l,l<n/\ ¬q∣u l)-> ∃l,l<n/\ ¬q∣uI p n a u l)-> ∀u,P u->(∃l,l<n/\ ¬q∣u l)-> ∃l,l<n/\ ¬q∣uI p n (allT q a xs) u l
 | [],_,_,ha=>ha
 | x::xs,a,hx,ha=>by
  refine cX0 n1 xs (λy hy=>hx y (bF _ hy)) ?_
  obtain⟨hz,hs⟩:=hx x cD;have: ∀k u,P u->(∃l,l<n/\ ¬q∣u l)-> ∃l,l<n/\ ¬q∣uI p n (powT q a x.1 k) u l:=by
   intro k
   induction k with
   | zero=>exact ha
   | succ k ih=>
    intro u pu nu;obtain⟨l,hl,nd⟩:=ih _ (hs u pu nu).1 (hs u pu nu).2;exact⟨l,hl,λd=>nd ((cgT<|act_tm hz u l).mp d)⟩
  exact this x.2
theorem dA1 {p:List Int}{n:Nat}(rp:eE p)(hn:p.length=n+1)(q:Int):q∣dF (n,md q<|fOf p)-dM 4 (cO p):=by
 rcases rp.cases with⟨x,y,rfl,_⟩| ⟨x,y,z,rfl,_⟩| ⟨x,y,z,w,rfl,_⟩
 ·have h:3=n+1:=hn;obtain rfl:n=2:=aa
  rw[id2];exact dE3 (c:=x%q) (b:=y%q) (cgE x) (cgE y)
 ·have h:4=n+1:=hn;obtain rfl:n=3:=aa
  rw[id3];exact dE4 (d:=x%q) (c:=y%q) (b:=z%q) (cgE x) (cgE y) (cgE z)
 ·have h:5=n+1:=hn;obtain rfl:n=4:=aa
  rw[hank4];exact cW1 (e:=x%q) (d:=y%q) (c:=z%q) (b:=w%q) (cgE x) (cgE y) (cgE z) (cgE w)
theorem c61 {p:List Int}{n:Nat}{q:Int}(rp:eE p)(hn:p.length=n+1)(pq:Pr q)(mF:MP q n (md q<|fOf p)){xs:List ((Nat×(Nat->Int))×Nat)}(sp:SP q (n,md q<|fOf p) xs):(∃x∈xs,2<=x.2)↔dM 4 (cO p)%q=0:=by
 have hi:=rp.ok.hi;have n4:n<=4:=aa
 have cg:=cgT (dA1 rp hn q);constructor
 ·rintro⟨x,hx,h2⟩;exact dR (cg.mp<|cW3 pq (F:=(n,md q<|fOf p)) mF n4 sp hx h2)
 ·intro h;refine oZ λno=> ?_
  have h1: ∀x∈xs,x.2=1:=λx hx=>by
   have:=(sp.mem x hx).2.2.2.1;have: ¬2<=x.2:=λh2=>no ⟨x,hx,h2⟩
   omega
  have:=cB6 pq xs sp.mem sp.ord h1 (by rw[sp.prod];exact n4)
  rw[sp.prod]at this;exact this (cg.mpr<|bZ h)
theorem aN5 {p:List Int}{n:Nat}(n2:2<=n)(n4:n<=4)(x v:Nat->Int): ∀k l,l<n->itT p n (bG p n x v) k l=bG p n x (itT p n v k) l
 | 0,_,_=>rfl
 | k+1,l,hl=>by
  show ttF p n (itT p n (bG p n x v) k) l=_
  rw[aS4 ad (aN5 n2 n4 x v k) l hl]
  exact bV6 (itT p n v k) x n2 n4 l hl
theorem a61 (u v:Nat->Int)(c r:Int): ∀n,ps (λj=>u j+c*v j) r n=ps u r n+c*ps v r n
 | 0=>by show(0:Int)=0+c*0;lia
 | n+1=>by
  show ps (λj=>u j+c*v j) r n+(u n+c*v n)*r^n=_
  rw[a61 u v c r n];show _=ps u r n+u n*r^n+c*(ps v r n+v n*r^n)
  grind
theorem aS5 (r:Int): ∀k,ps (λ_=>0) r k=0
 | 0=>rfl
 | k+1=>by
  show ps (λ_=>0) r k+0*r^k=0
  rw[aS5 r k,cT];rfl
theorem c62 {u v:Nat->Int}{r:Int}: ∀n,(∀j,j<n->u j=v j)->ps u r n=ps v r n
 | 0,_=>rfl
 | n+1,h=>by
  show ps u r n+u n*r^n=ps v r n+v n*r^n
  rw[c62 n λj hj=>h j ad,h n ad]
theorem cX1 {p:List Int}{n:Nat}{u:Nat->Int}{q r:Int}(n1:1<=n)(top:p.getD n 0=1)(hf:q∣ps (fOf p) r (n+1)): ∀i,q∣ps (itT p n u i) r n-r^i*ps u r n
 | 0=>by rw[cL,iH];exact cgR _
 | i+1=>by
  show q∣ps (ttF p n<|itT p n u i) r n-_
  rw[cW0 _ r n1 top,gW];exact dv2 (x:=r) (y:= -itT p n u i (n-1)) (cX1 (u:=u) n1 top hf i) hf (by grind)
theorem cX2 {p:List Int}{n:Nat}{u v:Nat->Int}{q r:Int}(n1:1<=n)(top:p.getD n 0=1)(hf:q∣ps (fOf p) r (n+1)):q∣ps (bG p n u v) r n-ps u r n*ps v r n:=by
 have e: ∀m,ps (λj=>cC m λi=>v i*itT p n u i j) r n=cC m λi=>v i*ps (itT p n u i) r n:=by
  intro m
  induction m with
  | zero=>
   have: ∀k,ps (λj=>cC 0 λi=>v i*itT p n u i j) r k=0:=by
    intro k
    induction k with
    | zero=>rfl
    | succ k ih=>
     show ps (λj=>cC 0 λi=>v i*itT p n u i j) r k+0*r^k=0
     rw[ih,cT];rfl
   exact this n
  | succ m ih=>
   rw[aZ,<-ih,<-a61]
   congr 1
   exact funext λj=>aZ m _
 rw[show ps (bG p n u v) r n=_ from e n]
 have: ∀m,q∣(cC m λi=>v i*ps (itT p n u i) r n)-ps u r n*ps v r m:=by
  intro m
  induction m with
  | zero=>exact⟨0,by show(0:Int)-_*0=q*0;lia⟩
  | succ m ih=>
   rw[aZ];show q∣_-ps u r n*(ps v r m+v m*r^m);exact dv2 (x:=1) (y:=v m) ih (cX1 (u:=u) n1 top hf m) (by grind)
 exact this n
theorem dA2 {p:List Int}{n:Nat}(n2:2<=n)(n4:n<=4)(top:p.getD n 0=1){q r:Int}(pq:Pr q){x v c:Nat->Int}(hc: ∀k,k<=n->chn n (itT p n x) k=q^k*c k)(h1:q∣ps (fOf p) r (n+1))(h2: ¬q*q∣ps (fOf p) r (n+1))(nz: ∃l,l<n/\ ¬q∣bG p n x v l)(ha: ∀l,l<n->q∣ttF p n (bG p n x v) l-r*bG p n x v l):False:=by
 have q0:q≠0:=by have:=pq.lo;lia
 obtain⟨Y,eY⟩: ∃Y,Y=bG p n x v:=⟨_,rfl⟩;rw[<-eY]at nz ha;have last: ¬q∣Y (n-1):=λd=>by
  have: ∀k,k<n->q∣Y (n-1-k):=by
   intro k
   induction k with
   | zero=>exact λ_=>d
   | succ k ih=>
    intro hk;have a:=ha (n-1-k) ad
    unfold ttF at a;rw[a6 ad,show n-1-k-1=n-1-(k+1)by lia]at a
    exact dv3 (x:=1) (y:=r) (z:=p.getD (n-1-k) 0) a (ih ad) d (by grind)
  obtain⟨l,hl,nd⟩:=nz;have:=this (n-1-l) ad
  rw[show n-1-(n-1-l)=l by lia]at this
  exact nd this
 obtain⟨F,eF⟩:=h1;have nF: ¬q∣F:=λ⟨G,eG⟩=>h2 ⟨G,by rw[eF,eG];grind⟩
 let V:Nat->Int:=λl=>ttF p n v l+(-r)*v l
 let W:Nat->Int:=λl=>(ttF p n Y l-r*Y l)/q
 have eW: ∀l,l<n->ttF p n Y l+(-r)*Y l=q*W l:=λl hl=>by
  show _=q*((ttF p n Y l-r*Y l)/q)
  rw[gT<|ha l hl]
  grind
 have pV:q∣ps V r n:=by
  rw[show ps V r n=_ from a61 _ _ _ _ n,cW0 _ r ad top,eF]
  exact⟨-v (n-1)*F,by grind⟩
 have pW:ps W r n= -Y (n-1)*F:=by
  have a:ps (λl=>ttF p n Y l+(-r)*Y l) r n=ps (λl=>(λ_=>0) l+q*W l) r n:=c62 n λl hl=>by dsimp only;rw[eW l hl,bN]
  rw[a61,a61,cW0 _ r ad top,eF]at a
  have z:ps (λ_=>0) r n=0:=aS5 r n
  rw[z]at a;exact j0 q0 (by grind)
 have nW: ¬q∣ps W r n:=by
  rw[pW];exact dW pq (λh=>last (Int.dvd_neg.mp h)) nF
 have hf:q∣ps (fOf p) r (n+1):=⟨F,eF⟩;refine bV8 (V:=V) (W:=W) (Nz:=λK=> ¬q∣ps K r n) n2 n4 q0 hc (λl hl=> ?_) ?_ (λK w k _ _ nK h=> ?_) λK hK h=>h ?_
 ·rw[show bG p n x V l=_ from aN2 x _ _ _ l,<-eW l hl,eY]
  congr 1
  exact(aN5 n2 n4 x v 1 l hl).symm
 ·have: ∀k,1<=k->ps (lM 1) r k=1:=by
   intro k
   induction k with
   | zero=>exact nofun
   | succ k ih=>
    intro _;show ps (lM 1) r k+lM 1 k*r^k=1
    by_cases z:k=0
    ·subst z;show 0+1*r^0=1;rw[cL];rfl
    ·rw[ih ad,show lM 1 k=0 from a6 z,cT];rfl
  rw[this n ad]
  intro d;have:=jX ac d
  have:=pq.lo
  lia
 ·rw[a61]at h;have a:=cX2 (u:=W) (v:=K) (n:=n) ad top hf
  have b:=cX2 (u:=V) (v:=w) (n:=n) ad top hf
  refine dW pq nW nK (dv3 (x:=1) (y:= -1) (z:= -c k) h a (dv2 (x:=1) (y:=ps w r n) b pV (e:=ps (bG p n V w) r n)<|by grind)<|by grind)
 ·rw[c62 (v:=λ_=>0) n hK,aS5]
  exact dvd_zero q
theorem bN0 {b:Nat->Int}{d:Nat}(h1:b d=1)(hb: ∀j,d<j->b j=0): ∀(N:Nat) {f:Nat->Int},(∀m,N+d<=m->f m=0)-> ∀m,d<=m->divL b d N f m=0
 | 0,f,h,m,hm=>h m ad
 | N+1,f,h,m,hm=>by
  refine bN0 h1 hb N (λk hk=> ?_) m hm
  show f k-f (N+d)*shF b N k=0
  unfold shF;rw[a7 ad]
  by_cases e:k=N+d
  ·rw[e,show N+d-N=d by lia,h1];lia
  ·rw[h k ad,hb (k-N) ad];lia
theorem cC2 {b:Nat->Int}{d:Nat}{z:Int}(hb: ∀j,d<j->b j=0)(hz:ps b z (d+1)=0): ∀(N:Nat) {f:Nat->Int} {L:Nat},N+d<=L->ps (divL b d N f) z L=ps f z L
 | 0,f,L,_=>rfl
 | N+1,f,L,hL=>by
  show ps (divL b d N<|divS b d N f) z L=_
  rw[cC2 hb hz N ad]
  have e:divS b d N f=λm=>f m+(-f (N+d))*shF b N m:=funext λm=>by unfold divS;grind
  have e2:=aM7 b z N (L-N);rw[show N+(L-N)=L by lia,aH5 (n:=d+1) (L-N) ad λj hj _=>hb j ad,hz,bD]at e2
  rw[e,a61,e2]
  lia
theorem cX3 {q:Int}{n:Nat}{f:Nat->Int}{H g:Nat×(Nat->Int)}(h:(n,md q f)=tm q H g)(fz: ∀j,n<j->f j=0)(gz: ∀j,g.1<j->g.2 j=0): ∃R,∀z,ps f z (n+1)=ps H.2 z (H.1+1)*ps g.2 z (g.1+1)+q*ps R z (n+2):=by
 have c: ∀j,q∣f j-conv H.2 g.2 (H.1+1) j:=λj=>dE6 (show f j%q=conv H.2 g.2 (H.1+1) j%q from congrFun (bU Prod.snd h) j)
 have d:n=H.1+g.1:=bU Prod.fst h;refine⟨λj=>(f j-conv H.2 g.2 (H.1+1) j)/q,λz=> ?_⟩
 have e:f=λj=>conv H.2 g.2 (H.1+1) j+q*((f j-conv H.2 g.2 (H.1+1) j)/q):=funext λj=>by rw[gT<|c j];lia
 have e2:=aH5 (f:=f) (z:=z) (n:=n+1) (n+2) ad (λj hj _=>fz j ad)
 have e3:=bL0 (u:=H.2) (z:=z) (V:=g.1+1) (λj hj=>gz j ad) (H.1+1) (n+2) ad
 rw[<-e2,<-e3,<-a61,<-e]
theorem cI8 {n:Nat}{f:Nat->Int}{q c:Int}(n1:1<=n)(fz: ∀j,n<j->f j=0)(h: ∃x∈uD n f (fS c),x%(q*q)≠0): ¬q*q∣ps f (-c) (n+1):=by
 intro dv;obtain⟨x,hx,nx⟩:=h;have lz: ∀j,1<j->(fS c).2 j=0:=λj hj=>by
  show(if j=0 then c else if j=1 then 1 else 0)=0
  rw[a6 ad,a6 ad]
 have up:=bN0 (b:=(fS c).2) (d:=1) rfl lz n (f:=f) (λm hm=>fz m ad)
 have pd:=cC2 (b:=(fS c).2) (d:=1) (z:= -c) lz (by show 0+c*(-c)^0+1*(-c)^1=0;rw[cL,yT];lia) n (f:=f) (L:=n+1) ad
 rw[aH5 (n:=1) (n+1) ad λj hj _=>up j hj]at pd
 have e0:divL (fS c).2 1 n f 0=ps f (-c) (n+1):=by
  rw[<-pd];show _=0+divL (fS c).2 1 n f 0*(-c)^0;rw[cL]
  lia
 unfold uD rwF at hx;rw[show n+1-(fS c).1=n from rfl]at hx
 obtain⟨j,_,rfl⟩:=dU.mp hx
 by_cases z:j=0
 ·subst z;exact nx (dR<|e0▸dv)
 ·exact nx (by rw[show divL (fS c).2 (fS c).1 n f j=0 from up j ad,cJ])
theorem dA3 {n:Nat}{f:Nat->Int}(n1:1<=n)(fz: ∀j,n<j->f j=0){q:Int}(pq:Pr q){xs:List ((Nat×(Nat->Int))×Nat)}(mF:MP q n (md q f))(sp:SP q (n,md q f) xs)(fine:b34 n f q xs){x:(Nat×(Nat->Int))×Nat}(hx:x∈xs)(d1:x.1.1=1): ∃r,q∣r+x.1.2 0/\q∣ps f r (n+1)/\ ¬q*q∣ps f r (n+1):=by
 have q2:=pq.lo;obtain⟨mx,_,_,x1,_⟩:=sp.mem x hx;have e:=aS2 mx d1;have r:=mx.rng 0;generalize x.1.2 0=c at *;obtain⟨H,mH,eF,vH⟩:=(cB5 pq (F:=(n,md q f)) mF sp r.1 r.2).1 x hx e;have ml:=MP.lin q2 r.1 r.2;have lv: ∀z,ps (fS c).2 z ((fS c).1+1)=z+c:=λz=>by
  show 0+c*z^0+1*z^1=_
  rw[cL,yT]
  lia
 obtain⟨k,hk⟩: ∃k,x.2=k+1:=⟨x.2-1,ad⟩
 rw[hk]at eF;obtain⟨R,eR⟩:=cX3 (H:=powT q H (fS c) k) (g:=fS c) eF fz ml.hi;have a:=eR (-c);rw[lv,show -c+c=0 by lia,bD,bN]at a
 by_cases h2:2<=x.2
 ·refine⟨-c,⟨0,ad⟩,⟨_,a⟩,cI8 n1 fz ?_⟩
  have:=fine x hx h2;rw[e]at this;exact this
 ·obtain rfl:k=0:=ad
  by_cases h:q*q∣ps f (-c) (n+1)
  ·have b:=eR (-c-q);rw[lv]at b;have vd: ¬q∣ps H.2 (-c) (H.1+1):=λd=>vH (dR d)
   refine⟨-c-q,⟨-1,ad⟩,⟨-ps H.2 (-c-q) (H.1+1)+ps R (-c-q) (n+2),by rw[b];show ps H.2 (-c-q) (H.1+1)*_+_=_;grind⟩,λh'=>vd ?_⟩
   obtain⟨s,es⟩:=h;obtain⟨t,et⟩:=h';have q0:q≠0:=ad
   have c1:ps R (-c) (n+2)=q*s:=j0 q0 (by grind)
   have c2: -ps H.2 (-c-q) (H.1+1)+ps R (-c-q) (n+2)=q*t:=j0 q0 (by
    have:ps (powT q H (fS c) 0).2 (-c-q) ((powT q H (fS c) 0).1+1)=ps H.2 (-c-q) (H.1+1):=rfl;rw[this]at b
    grind)
   have g1:=bM3 (q:=q) (z:= -c-q) (w:= -c) ⟨-1,ad⟩ H.2 (H.1+1)
   have g2:=bM3 (q:=q) (z:= -c-q) (w:= -c) ⟨-1,ad⟩ R (n+2)
   exact dv3 (x:= -1) (y:=1) (z:=s-t) g1 g2 (jY q) (by grind)
  ·exact⟨-c,⟨0,ad⟩,⟨_,a⟩,h⟩
def eA (u v:Int)(w:Nat->Int):Int:=w 0-v*w 2+u*v*w 3
def eB (u v:Int)(w:Nat->Int):Int:=w 1-u*w 2+(u*u-v)*w 3
def rA (u v:Int)(f:Nat->Int):Int:=f 0-v*f 2+u*v*f 3+(v*v-u*u*v)
def rB (u v:Int)(f:Nat->Int):Int:=f 1-u*f 2+(u*u-v)*f 3+(2*u*v-u*u*u)
def nmQ (u v a b:Int):Int:=a*a-u*a*b+v*b*b
theorem cX4 (u v a b c d:Int):nmQ u v (a*c-v*b*d) (a*d+b*c-u*b*d)=nmQ u v a b*nmQ u v c d:=by unfold nmQ;grind
theorem e_tt (p:List Int)(u v:Int)(w:Nat->Int):eA u v (ttF p 4 w)= -v*eB u v w-w 3*rA u v (fOf p)+w 3*0/\eB u v (ttF p 4 w)=eA u v w-u*eB u v w-w 3*rB u v (fOf p):=by
 constructor
 ·simp[eA,eB,rA,ttF,fOf]
  grind
 ·simp[eA,eB,rB,ttF,fOf]
  grind
theorem cC3 (u v:Int)(a b:Nat->Int)(c:Int):eA u v (λj=>a j+c*b j)=eA u v a+c*eA u v b/\eB u v (λj=>a j+c*b j)=eB u v a+c*eB u v b:=by
 unfold eA eB;constructor<;>grind
theorem dE7 {u v:Int}{a b:Nat->Int}(h: ∀j,j<4->a j=b j):eA u v a=eA u v b/\eB u v a=eB u v b:=by
 unfold eA eB;rw[h 0 ac,h 1 ac,h 2 ac,h 3 ac]
 exact⟨rfl,rfl⟩
theorem dE8 {p:List Int}{q u v:Int}(h1:q∣rA u v (fOf p))(h2:q∣rB u v (fOf p))(a b:Nat->Int) :
  q∣eA u v (bG p 4 a b)-(eA u v a*eA u v b-v*eB u v a*eB u v b)/\q∣eB u v (bG p 4 a b)-(eA u v a*eB u v b+eB u v a*eA u v b-u*eB u v a*eB u v b):=by
 have st: ∀w:Nat->Int,q∣eA u v (ttF p 4 w)- -v*eB u v w/\q∣eB u v (ttF p 4 w)-(eA u v w-u*eB u v w):=λw=>by
  have:=e_tt p u v w;rw[this.1,this.2];exact⟨dv1 (x:= -w 3) h1<|by grind,dv1 (x:= -w 3) h2<|by grind⟩
 have s1:=st a;have s2:=st (ttF p 4 a);have s3:=st (ttF p 4<|ttF p 4 a);have e: ∀j,bG p 4 a b j=b 0*a j+b 1*ttF p 4 a j+b 2*ttF p 4 (ttF p 4 a) j+b 3*ttF p 4 (ttF p 4<|ttF p 4 a) j:=aN1 b (itT p 4 a);have eA':eA u v (bG p 4 a b)=b 0*eA u v a+b 1*eA u v (ttF p 4 a)+b 2*eA u v (ttF p 4<|ttF p 4 a)+b 3*eA u v (ttF p 4<|ttF p 4<|ttF p 4 a):=by
  unfold eA;rw[e,e,e]
  grind
 have eB':eB u v (bG p 4 a b)=b 0*eB u v a+b 1*eB u v (ttF p 4 a)+b 2*eB u v (ttF p 4<|ttF p 4 a)+b 3*eB u v (ttF p 4<|ttF p 4<|ttF p 4 a):=by
  unfold eB;rw[e,e,e]
  grind
 rw[eA',eB'];have bA:eA u v b=b 0-v*b 2+u*v*b 3:=rfl;have bB:eB u v b=b 1-u*b 2+(u*u-v)*b 3:=rfl;rw[bA,bB];generalize eA u v (ttF p 4<|ttF p 4<|ttF p 4 a)=A3 at *;generalize eB u v (ttF p 4<|ttF p 4<|ttF p 4 a)=B3 at *;generalize eA u v (ttF p 4<|ttF p 4 a)=A2 at *;generalize eB u v (ttF p 4<|ttF p 4 a)=B2 at *;generalize eA u v (ttF p 4 a)=A1 at *;generalize eB u v (ttF p 4 a)=B1 at *
 generalize eA u v a=A0 at *;generalize eB u v a=B0 at *;obtain⟨⟨k1,e1⟩,⟨l1,f1⟩⟩:=s1;obtain⟨⟨k2,e2⟩,⟨l2,f2⟩⟩:=s2;obtain⟨⟨k3,e3⟩,⟨l3,f3⟩⟩:=s3;have g1:A1= -v*B0+q*k1:=by grind
 have g2:B1=A0-u*B0+q*l1:=by grind
 subst g1 g2;have g3:A2= -v*(A0-u*B0+q*l1)+q*k2:=by grind
 have g4:B2=(-v*B0+q*k1)-u*(A0-u*B0+q*l1)+q*l2:=by grind
 subst g3 g4;have g5:A3= -v*((-v*B0+q*k1)-u*(A0-u*B0+q*l1)+q*l2)+q*k3:=by grind
 have g6:B3=(-v*(A0-u*B0+q*l1)+q*k2)-u*((-v*B0+q*k1)-u*(A0-u*B0+q*l1)+q*l2)+q*l3:=by grind
 subst g5 g6;exact⟨⟨b 1*k1+b 2*(-v*l1+k2)+b 3*(-v*(k1-u*l1+l2)+k3),by grind⟩,⟨b 1*l1+b 2*(k1-u*l1+l2)+b 3*(-v*l1+k2-u*(k1-u*l1+l2)+l3),by grind⟩⟩
theorem dE9 (p:List Int)(u v:Int)(w:Nat->Int) :
  eA u v (λl=>ttF p 4 (ttF p 4 w) l+u*ttF p 4 w l+v*w l)= -((ttF p 4 w 3+u*w 3)*rA u v (fOf p)-v*w 3*rB u v (fOf p))/\
  eB u v (λl=>ttF p 4 (ttF p 4 w) l+u*ttF p 4 w l+v*w l)= -((ttF p 4 w 3+u*w 3)*rB u v (fOf p)+w 3*rA u v (fOf p)-u*w 3*rB u v (fOf p)):=by
 have a:=e_tt p u v w;have b:=e_tt p u v (ttF p 4 w);have l1:=cC3 u v (ttF p 4<|ttF p 4 w) (ttF p 4 w) u;have l2:=cC3 u v (λl=>ttF p 4 (ttF p 4 w) l+u*ttF p 4 w l) w v
 rw[l2.1,l2.2,l1.1,l1.2,b.1,b.2,a.1,a.2];constructor<;>grind
theorem dA4 {p:List Int}{q u v:Int}(pq:Pr q)(irr: ∀a b,q∣nmQ u v a b->q∣a/\q∣b){x w c:Nat->Int}(hc: ∀k,k<=4->chn 4 (itT p 4 x) k=q^k*c k)(h1:q∣rA u v (fOf p))(h2:q∣rB u v (fOf p))(h3: ¬(q*q∣rA u v (fOf p)/\q*q∣rB u v (fOf p)))
  (nz: ∃l,l<4/\ ¬q∣bG p 4 x w l) (ha: ∀l,l<4->q∣ttF p 4 (ttF p 4<|bG p 4 x w) l+u*ttF p 4 (bG p 4 x w) l+v*bG p 4 x w l):False:=by
 have q0:q≠0:=by have:=pq.lo;lia
 obtain⟨Y,eY⟩: ∃Y,Y=bG p 4 x w:=⟨_,rfl⟩;rw[<-eY]at nz ha;have tt: ∀(z:Nat->Int) i,ttF p 4 z i=(if i=0 then 0 else z (i-1))-z 3*fOf p i:=λz i=>rfl
 obtain⟨s0,es⟩: ∃s0,s0=ttF p 4 Y 3+u*Y 3:=⟨_,rfl⟩;have last: ¬(q∣s0/\q∣Y 3):=λ⟨d0,d3⟩=>by
  have d2:q∣Y 2:=by
   rw[es,tt,a6 ac]at d0
   exact dv2 (x:=1) (y:=fOf p 3-u) d0 d3 (by grind)
  have d1:q∣Y 1:=by
   have a:=ha 3 ac
   simp only[tt,reduceSub,reduceEqDiff,iI,eU,tI]at a;exact dv3 (x:=1) (y:=fOf p 3-u) (z:=fOf p 2-fOf p 3*fOf p 3+u*fOf p 3-v) a d2 d3 (by grind)
  have dd:q∣Y 0:=by
   have a:=ha 2 ac
   simp only[tt,reduceSub,reduceEqDiff,iI,eU,tI]at a;obtain⟨k1,e1⟩:=d1;obtain⟨k2,e2⟩:=d2;obtain⟨k3,e3⟩:=d3;obtain⟨k,e⟩:=a;rw[e1,e2,e3]at e;exact⟨k-u*k1-v*k2+fOf p 2*k2+k3*fOf p 1-k3*fOf p 3*fOf p 2+u*k3*fOf p 2,by grind⟩
  obtain⟨l,hl,nd⟩:=nz;have:l=0\/l=1\/l=2\/l=3:=ad
  rcases this with rfl|rfl|rfl|rfl<;>exact nd (by assumption)
 obtain⟨ra,ea⟩:=h1;obtain⟨rb,eb⟩:=h2;have nF: ¬(q∣ra/\q∣rb):=λ⟨⟨a,e⟩,⟨b,e'⟩⟩=>h3 ⟨⟨a,by rw[ea,e];grind⟩,⟨b,by rw[eb,e'];grind⟩⟩
 let V:Nat->Int:=λl=>ttF p 4 (ttF p 4 w) l+u*ttF p 4 w l+v*w l
 let W:Nat->Int:=λl=>(ttF p 4 (ttF p 4 Y) l+u*ttF p 4 Y l+v*Y l)/q
 have eW: ∀l,l<4->ttF p 4 (ttF p 4 Y) l+u*ttF p 4 Y l+v*Y l=q*W l:=λl hl=>(gT<|ha l hl).symm
 have pV:q∣eA u v V/\q∣eB u v V:=by
  have:=dE9 p u v w;rw[show eA u v V=_ from this.1,show eB u v V=_ from this.2,ea,eb]
  exact⟨⟨-((ttF p 4 w 3+u*w 3)*ra-v*w 3*rb),by grind⟩,⟨-((ttF p 4 w 3+u*w 3)*rb+w 3*ra-u*w 3*rb),by grind⟩⟩
 have pW:eA u v W= -(s0*ra-v*Y 3*rb)/\eB u v W= -(s0*rb+Y 3*ra-u*Y 3*rb):=by
  have a:=dE7 (u:=u) (v:=v) (a:=λl=>ttF p 4 (ttF p 4 Y) l+u*ttF p 4 Y l+v*Y l) (b:=λl=>lM 0 l+q*W l) λl hl=>by
   rw[eW l hl];unfold lM;split<;>lia
  have b:=dE9 p u v Y;have l:=cC3 u v (lM 0) W q;have z:eA u v (lM 0)=0/\eB u v (lM 0)=0:=by unfold eA eB lM;constructor<;>grind
  rw[b.1,b.2,l.1,l.2,z.1,z.2,ea,eb,<-es]at a;exact⟨j0 q0<|by grind,j0 q0<|by grind⟩
 have nW: ¬q∣nmQ u v (eA u v W) (eB u v W):=by
  rw[pW.1,pW.2];have:nmQ u v (-(s0*ra-v*Y 3*rb)) (-(s0*rb+Y 3*ra-u*Y 3*rb))=nmQ u v s0 (Y 3)*nmQ u v ra rb:=by
   rw[<-cX4];unfold nmQ
   grind
  rw[this];exact dW pq (λh=>last (irr _ _ h)) λh=>nF (irr _ _ h)
 have hA:q∣rA u v (fOf p):=⟨ra,ea⟩;have hB:q∣rB u v (fOf p):=⟨rb,eb⟩;refine bV8 (n:=4) (p:=p) (x:=x) (V:=V) (W:=W) (Nz:=λK=> ¬q∣nmQ u v (eA u v K) (eB u v K)) ac ac q0 hc (λl hl=> ?_) ?_ (λK z k _ _ nK h=> ?_) λK hK h=>h ?_
 ·rw[<-eW l hl,eY];have a:=aN5 (p:=p) ac ac x w 2 l hl
  have b:=aN5 (p:=p) ac ac x w 1 l hl
  have t1:=aN2 (p:=p) (n:=4) x (ttF p 4<|ttF p 4 w) (ttF p 4 w) u l;have t2:=aN2 (p:=p) (n:=4) x (λl=>ttF p 4 (ttF p 4 w) l+u*ttF p 4 w l) w v l
  rw[show bG p 4 x V l=_ from t2,t1]
  have a':ttF p 4 (ttF p 4<|bG p 4 x w) l=bG p 4 x (ttF p 4<|ttF p 4 w) l:=a;have b':ttF p 4 (bG p 4 x w) l=bG p 4 x (ttF p 4 w) l:=b;rw[a',b']
 ·have:nmQ u v (eA u v<|lM 1) (eB u v<|lM 1)=1:=by unfold nmQ eA eB lM;simp
  rw[this];intro d;have:=jX ac d
  have:=pq.lo
  lia
 ·have l:=cC3 u v (bG p 4 W K) (bG p 4 V z) (c k);rw[l.1,l.2]at h;have a:=dE8 hA hB W K;have b:=dE8 hA hB V z;obtain⟨d1,d2⟩:=irr _ _ h;have b1:q∣eA u v (bG p 4 V z):=dv3 (x:=1) (y:=eA u v z) (z:= -v*eB u v z) b.1 pV.1 pV.2 (by grind)
  have b2:q∣eB u v (bG p 4 V z):=dv3 (x:=1) (y:=eB u v z) (z:=eA u v z-u*eB u v z) b.2 pV.1 pV.2 (by grind)
  have c1:q∣eA u v W*eA u v K-v*eB u v W*eB u v K:=dv3 (x:=1) (y:= -1) (z:= -c k) d1 a.1 b1 (by grind)
  have c2:q∣eA u v W*eB u v K+eB u v W*eA u v K-u*eB u v W*eB u v K:=dv3 (x:=1) (y:= -1) (z:= -c k) d2 a.2 b2 (by grind)
  refine dW pq nW nK ?_
  rw[<-cX4];unfold nmQ;exact dv2 (x:=(eA u v W*eA u v K-v*eB u v W*eB u v K)-u*(eA u v W*eB u v K+eB u v W*eA u v K-u*eB u v W*eB u v K)) (y:=v*(eA u v W*eB u v K+eB u v W*eA u v K-u*eB u v W*eB u v K)) c1 c2 (by grind)
 ·have:=dE7 (u:=u) (v:=v) (a:=K) (b:=λ_=>0) hK
  rw[this.1,this.2];exact⟨0,by unfold nmQ eA eB;grind⟩
theorem irr_qu {q u v:Int}(pq:Pr q)(nr:NoR q (quF v u))(a b:Int)(h:q∣nmQ u v a b):q∣a/\q∣b:=by
 by_cases d:q∣b
 ·refine⟨pq.sq ?_,d⟩
  unfold nmQ at h;exact dv2 (x:=1) (y:=u*a-v*b) h d (by grind)
 ·obtain⟨z,hz⟩:=pq.sol d (-a);refine(NoR.no pq nr (z:=z) ?_).elim;show q∣0+v*z^0+u*z^1+1*z^2;refine pq.cut (pq.cut (a:=b) (b:=b*(0+v*z^0+u*z^1+1*z^2)) ?_ d) d;unfold nmQ at h;exact dv2 (x:=1) (y:=b*z-a+u*b) h hz (by grind)
theorem dA5 {f:Nat->Int}{q u v:Int}(fz: ∀j,4<j->f j=0)(f4:f 4=1)(h: ∃x∈uD 4 f (quF v u),x%(q*q)≠0): ¬(q*q∣rA u v f/\q*q∣rB u v f):=by
 rintro⟨d0,d1⟩;obtain⟨x,hx,nx⟩:=h;have lz: ∀j,2<j->(quF v u).2 j=0:=λj hj=>by
  show(if j=0 then v else if j=1 then u else if j=2 then 1 else 0)=0
  rw[a6 ad,a6 ad,a6 ad]
 have up:=bN0 (b:=(quF v u).2) (d:=2) rfl lz 3 (f:=f) (λm hm=>fz m ad)
 unfold uD rwF at hx;obtain⟨j,_,rfl⟩:=dU.mp hx
 by_cases z:j=0
 ·subst z;refine nx (dR ?_);have e:divL (quF v u).2 2 3 f 0=rA u v f:=by
   simp[divL,divS,shF,quF,rA,f4]
   grind
  exact e▸d0
 ·by_cases z1:j=1
  ·subst z1;refine nx (dR ?_);have e:divL (quF v u).2 2 3 f 1=rB u v f:=by
    simp[divL,divS,shF,quF,rB,f4]
    grind
   exact e▸d1
  ·exact nx (by rw[show divL (quF v u).2 (quF v u).1 (4+1-(quF v u).1) f j=0 from up j ad,cJ])
theorem dA6 {n:Nat}{f:Nat->Int}(n4:n<=4)(fz: ∀j,n<j->f j=0)(fn:f n=1){q:Int}(pq:Pr q){xs:List ((Nat×(Nat->Int))×Nat)}(sp:SP q (n,md q f) xs)(fine:b34 n f q xs)(rep: ∃y∈xs,2<=y.2){x:(Nat×(Nat->Int))×Nat}(hx:x∈xs)(d2:2<=x.1.1) :
  n=4/\x.1=quF (x.1.2 0) (x.1.2 1)/\ ∃v,q∣v-x.1.2 0/\(∀a b,q∣nmQ (x.1.2 1) v a b->q∣a/\q∣b)/\q∣rA (x.1.2 1) v f/\q∣rB (x.1.2 1) v f/\ ¬(q*q∣rA (x.1.2 1) v f/\q*q∣rB (x.1.2 1) v f):=by
 have q2:=pq.lo;obtain⟨y,hy,y2⟩:=rep;obtain⟨mx,_,_,x1,_,nr,_⟩:=sp.mem x hx;obtain⟨my,yd,_⟩:=sp.mem y hy;obtain⟨l1,l2,rfl⟩:=y8 hx;have mx': ∀y∈l1++x::l2,MP q y.1.1 y.1.2:=λy hy=>(sp.mem y hy).1
 have m1: ∀y∈l1,MP q y.1.1 y.1.2:=λy hy=>mx' y (bC.mpr<|.inl hy)
 have m2: ∀y∈l2,MP q y.1.1 y.1.2:=λy hy=>mx' y (bC.mpr<|.inr<|bF _ hy)
 have mA:=MP.allT q2 l1 (MP.one q2) m1;have mH:=MP.allT q2 l2 mA m2;have eF:(n,md q f)=powT q (allT q (allT q dX l1) l2) x.1 x.2:=by
  rw[<-sp.prod,i7];show allT q (powT q (allT q dX l1) x.1 x.2) l2=_;rw[a59 q2 mx mA m2]
 have dF:=bU Prod.fst eF;rw[rC]at dF;have dF:n=(allT q (allT q dX l1) l2).1+x.1.1*x.2:=dF;have key: ∃G,MP q G.1 G.2/\G.1=2/\n=4/\x.1.1=2/\(n,md q f)=tm q G x.1/\(2<=x.2\/ ∃c,va q G c=0):=by
  by_cases h2:2<=x.2
  ·have a:x.1.1*2<=x.1.1*x.2:=pJ _ h2;have b:2*x.2<=x.1.1*x.2:=xW _ d2;have e2:x.2=2:=ad
   refine⟨tm q (allT q (allT q dX l1) l2) x.1,?_,?_,ad,ad,by rw[eF,e2];rfl,.inl h2⟩
   ·exact MP.powT q2 mH mx 1
   ·show(allT q (allT q dX l1) l2).1+x.1.1=2
    lia
  ·have e1:x.2=1:=ad
   have hy':y∈l1++l2:=by
    rcases bC.mp hy with h|h
    ·exact bC.mpr (.inl h)
    ·rcases aY.mp h with h|h
     ·rw[h]at y2;lia
     ·exact bC.mpr (.inr h)
   have dy:=a45 q (l1++l2) dX y hy';rw[i7]at dy;have a:y.1.1*2<=y.1.1*y.2:=pJ _ y2;have e0:dX.1=0:=rfl;rw[e1]at dF eF;have yl:y.1.1=1:=ad
   refine⟨allT q (allT q dX l1) l2,mH,ad,ad,ad,eF,.inr ⟨-y.1.2 0,?_⟩⟩
   rw[<-i7];refine cB2 _ _ (λz hz=> ?_) (.inr ⟨y,hy',?_⟩)
   ·have hz':z∈l1++x::l2:=by
     rcases bC.mp hz with h|h
     ·exact bC.mpr (.inl h)
     ·exact bC.mpr (.inr<|bF _ h)
    have:=sp.mem z hz';exact⟨this.1.hi,this.2.2.2.1⟩
   ·rw[c56 q2 my yl,show -y.1.2 0+y.1.2 0=0 by lia,cJ]
 obtain⟨G,mG,dG,rfl,dx,eG,alt⟩:=key;have eg:=aR7 mx dx;have eG':=aR7 mG dG;refine⟨rfl,eg,?_⟩;have nr:=nr d2;rw[eg]at nr;have fq:2<=x.2-> ∃c∈uD 4 f (quF (x.1.2 0)<|x.1.2 1),c%(q*q)≠0:=λh=>by
  have:=fine x hx h;rw[eg]at this;exact this
 rw[eG',eg]at eG;rw[eG']at alt;have rq:=dA5 (q:=q) (u:=x.1.2 1) (v:=x.1.2 0) fz fn;clear fine sp mx mx' m1 m2 mA mH eF dF hx hy eg eG' mG dG dx;generalize x.1.2 0=v at *;generalize x.1.2 1=u at *;generalize G.2 0=w at *;generalize G.2 1=s at *;have cv:=bL2 w s v u
 have cf: ∀j,q∣f j-conv (quF w s).2 (quF v u).2 3 j:=λj=>dE6 (show f j%q=conv (quF w s).2 (quF v u).2 3 j%q from congrFun (bU Prod.snd eG) j)
 have f0:=cf 0;have f1:=cf 1;have f2:=cf 2;have f3:=cf 3;rw[cv.1]at f0;rw[cv.2.1]at f1;rw[cv.2.2.1]at f2;rw[cv.2.2.2]at f3;have a1:q∣rA u v f:=by
  unfold rA;exact dv3 (x:=1) (y:= -v) (z:=u*v) f0 f2 f3 (by grind)
 have a2:q∣rB u v f:=by
  unfold rB;exact dv3 (x:=1) (y:= -u) (z:=u*u-v) f1 f2 f3 (by grind)
 have ir:=irr_qu pq nr
 by_cases bad:q*q∣rA u v f/\q*q∣rB u v f
 ·have al: ∃c,va q (quF w s) c=0:=alt.resolve_left λh=>rq (fq h) bad
  obtain⟨c,hc⟩:=al;have hc':q∣0+w*c^0+s*c^1+1*c^2:=bZ hc;have gA:rA u (v+q) f=rA u v f+q*(-f 2+u*f 3+2*v-u*u+q):=by unfold rA;grind
  have gB:rB u (v+q) f=rB u v f+q*(-f 3+2*u):=by unfold rB;grind
  refine⟨v+q,⟨1,ad⟩,λa b h=>ir a b ?_,?_,?_,λ⟨b1,b2⟩=> ?_⟩
  ·have:nmQ u (v+q) a b=nmQ u v a b+q*(b*b):=by unfold nmQ;grind
   rw[this]at h;exact dv2 (x:=1) (y:= -(b*b)) h (jY q) (by grind)
  ·rw[gA];exact dv2 (x:=1) (y:= -f 2+u*f 3+2*v-u*u+q) a1 (jY q) (by grind)
  ·rw[gB];exact dv2 (x:=1) (y:= -f 3+2*u) a2 (jY q) (by grind)
  ·rw[gA]at b1;rw[gB]at b2;obtain⟨⟨k1,e1⟩,⟨k2,e2⟩⟩:=bad;obtain⟨k3,e3⟩:=b1;obtain⟨k4,e4⟩:=b2;have q0:q≠0:=ad
   clear gA gB fz cf cv eG rq fq alt;generalize rA u v f=r1 at *;generalize rB u v f=r2 at *;have c1: -f 2+u*f 3+2*v-u*u+q=q*(k3-k1):=j0 q0 (by rw[e1]at e3;grind)
   have c2: -f 3+2*u=q*(k4-k2):=j0 q0 (by rw[e2]at e4;grind)
   have su:q∣s-u:=dv2 (x:= -1) (y:= -(k4-k2)) f3 (jY q) (by grind)
   have wv:q∣w-v:=by
    refine dv3 (x:= -1) (y:=u) (z:= -(k3-k1)+1) f2 f3 (jY q) ?_
    grind
   refine NoR.no pq nr (z:=c) ?_
   show q∣0+v*c^0+u*c^1+1*c^2
   exact dv3 (x:=1) (y:= -1) (z:= -c) hc' wv su (by grind)
 ·exact⟨v,⟨0,ad⟩,ir,a1,a2,bad⟩
theorem dA7 {p:List Int}{n:Nat}(n2:2<=n)(n4:n<=4)(F:Nat×(Nat->Int))(x w:Nat->Int)(l:Nat)(hl:l<n):uI p n F (bG p n x w) l=bG p n x (uI p n F w) l:=by
 have: ∀m,(cC m λk=>F.2 k*itT p n (bG p n x w) k l)=bG p n x (λl=>cC m λk=>F.2 k*itT p n w k l) l:=by
  intro m
  induction m with
  | zero=>
   exact(cT _).symm.trans (aI1 (p:=p) (n:=n) x (λ_=>0) 0 l).symm
  | succ m ih=>
   rw[aZ,ih,aN5 n2 n4 x w m l hl,<-aN2]
   congr 1
   exact funext λl=>(aZ m _).symm
 exact this _
theorem dA8 {p:List Int}{n:Nat}(rp:eE p)(hn:p.length=n+1)(q:Int)(u:Nat->Int)(l:Nat)(hl:l<n):q∣uI p n (n,md q<|fOf p) u l:=by
 have e:q∣uI p n (n,md q<|fOf p) u l-cC (n+1) λk=>fOf p k*itT p n u k l:=by
  have: ∀m,q∣(cC m λk=>fOf p k%q*itT p n u k l)-cC m λk=>fOf p k*itT p n u k l:=by
   intro m
   induction m with
   | zero=>exact⟨0,by show(0:Int)-0=q*0;lia⟩
   | succ m ih=>
    rw[aZ,aZ];exact cgA ih (cgM (cgE _)<|cgR _)
  exact this _
 refine(cgT e).mpr ⟨0,?_⟩
 have z:q*0=0:=bD q;rw[z];rcases rp.cases with⟨x,y,rfl,_⟩| ⟨x,y,z,rfl,_⟩| ⟨x,y,z,w,rfl,_⟩
 ·have h:3=n+1:=hn;obtain rfl:n=2:=ad
  have:=cay2 [x,y,1] u l hl;simp[cC,aT,fOf]at this⊢
  lia
 ·have h:4=n+1:=hn;obtain rfl:n=3:=ad
  have:=cay3 [x,y,z,1] u l hl;simp[cC,aT,fOf]at this⊢
  lia
 ·have h:5=n+1:=hn;obtain rfl:n=4:=ad
  have:=cay4 [x,y,z,w,1] u l hl;simp[cC,aT,fOf]at this⊢
  lia
theorem cX5 {p:List Int}{n:Nat}(rp:eE p)(hn:p.length=n+1)(rg:RG p){q:Int}(hq:q∈prL)(pq:Pr q){x c:Nat->Int}(hc: ∀k,k<=n->chn n (itT p n x) k=q^k*c k): ∀j,j<n->q∣x j:=by
 have lo:=rp.ok.lo;have hi:=rp.ok.hi;have n2:2<=n:=ad
 have n4:n<=4:=ad
 have rf:=rp.rf;rw[show p.length-1=n by lia]at rf
 refine λi hi=>oZ λnd=> ?_
 have m:=dA0 rp hn pq hc hi nd;obtain⟨xf,sps,fines⟩:=rg.wh;rw[show p.length-1=n by lia]at sps fines
 have sb:sqB (dM 4<|cO p) q=true:=gG (dR m);have sp:=sps q hq sb;have fine:=fines q hq sb;have mF:=rf.mp pq.lo;have rep:=(c61 rp hn pq mF sp).mpr (dR<|Int.dvd_trans ⟨q,rfl⟩ m);generalize xf q=xs at *;have top:p.getD n 0=1:=rf.top;have na: ∃l,l<n/\ ¬q∣uI p n (allT q dX xs) x l:=by
  refine cX0 (p:=p) (n:=n) (q:=q) (P:=λu=> ∃w,∀l,l<n->q∣u l-bG p n x w l) ad xs (a:=dX) (λy hy=>⟨(sp.mem y hy).1.hi,λu ⟨w,hw⟩ ⟨l0,hl0,nu⟩=> ?_⟩) (λu _ ⟨l,hl,nu⟩=>⟨l,hl,λd=>nu ?_⟩) x ⟨lM 1,λl hl=>by rw[aN3 ad];exact cgR _⟩ ⟨i,hi,nd⟩
  ·have cg:=λl hl=>act_cg (p:=p) (F:=y.1) (show 1<=n by lia) hw l hl
   refine⟨⟨uI p n y.1 w,λl hl=> ?_⟩,oZ λnone=> ?_⟩
   ·rw[<-dA7 n2 n4 _ _ _ l hl];exact cg l hl
   ·have ha: ∀l,l<n->q∣uI p n y.1 (bG p n x w) l:=λl hl=>(cgT<|cg l hl).mp (oZ λz=>none ⟨l,hl,z⟩)
    have nz: ∃l,l<n/\ ¬q∣bG p n x w l:=⟨l0,hl0,λd=>nu ((cgT<|hw l0 hl0).mpr d)⟩
    by_cases d1:y.1.1=1
    ·obtain⟨r,hr,r1,r2⟩:=dA3 ad rf.hi pq mF sp fine hy d1
     refine dA2 n2 n4 top pq hc r1 r2 nz λl hl=> ?_
     have a:=ha l hl;have e:=aS2 (sp.mem y hy).1 d1;generalize y.1.2 0=c0 at *;rw[e]at a;have a':q∣c0*bG p n x w l+ttF p n (bG p n x w) l:=by
      have z:uI p n (fS c0) (bG p n x w) l=c0*bG p n x w l+ttF p n (bG p n x w) l:=by
       show(cC 2 λk=>(fS c0).2 k*itT p n (bG p n x w) k l)=_
       rw[aZ,aZ];show 0+c0*bG p n x w l+1*ttF p n (bG p n x w) l=_
       lia
      exact z▸a
     exact dv2 (x:=1) (y:= -bG p n x w l) a' hr (by grind)
    ·obtain⟨rfl,e,v,hv,ir,b1,b2,b3⟩:=dA6 n4 rf.hi rf.top pq sp fine rep hy (by have:=(sp.mem y hy).2.1;lia)
     refine dA4 pq ir hc b1 b2 b3 nz λl hl=> ?_
     have a:=ha l hl;generalize y.1.2 0=v0 at *;generalize y.1.2 1=u0 at *;rw[e]at a;have a':q∣v0*bG p 4 x w l+u0*ttF p 4 (bG p 4 x w) l+ttF p 4 (ttF p 4<|bG p 4 x w) l:=by
      have z:uI p 4 (quF v0 u0) (bG p 4 x w) l=v0*bG p 4 x w l+u0*ttF p 4 (bG p 4 x w) l+ttF p 4 (ttF p 4<|bG p 4 x w) l:=by
       show(cC 3 λk=>(quF v0 u0).2 k*itT p 4 (bG p 4 x w) k l)=_
       rw[aZ,aZ,aZ];show 0+v0*bG p 4 x w l+u0*ttF p 4 (bG p 4 x w) l+1*ttF p 4 (ttF p 4<|bG p 4 x w) l=_
       lia
      exact z▸a
     exact dv2 (x:=1) (y:=bG p 4 x w l) a' hv (by grind)
  ·have z:uI p n dX u l=u l:=by
    show(cC 1 λk=>dX.2 k*itT p n u k l)=_
    rw[aZ];show 0+1*u l=_
    lia
   exact z▸d
 obtain⟨l,hl,no⟩:=na;rw[sp.prod]at no;exact no (dA8 rp hn q x l hl)
theorem cX6: ∀m:Fin 200,2<=m.1-> ∃q∈prL,(m.1:Int)%q=0:=af
theorem cX7 {p:List Int}{n:Nat}(rp:eE p)(hn:p.length=n+1)(rg:RG p): ∀(m:Nat),1<=m->m<200-> ∀{x:Nat->Int},(∀k,k<=n->((m:Int)^k)∣chn n (itT p n x) k)-> ∀j,j<n->(m:Int)∣x j:=by
 have lo:=rp.ok.lo;have hi:=rp.ok.hi;have n2:2<=n:=ad
 have n4:n<=4:=ad
 intro m
 induction m using Nat.strongRecOn with
 | _ m ih=>
  intro m1 m2 x hx j hj
  by_cases one:m=1
  ·rw[one];exact Int.one_dvd _
  ·obtain⟨q,hq,hm⟩:=cX6 ⟨m,m2⟩ (show 2<=m by lia)
   have pq:=a43 hq;have q2:=pq.lo;obtain⟨s,es⟩:q∣(m:Int):=bZ hm;have s1:1<=s:=by
    rcases aG3 s 0 with z|z|z
    ·have:q*s<=q*(-1):=oY ad ad
     lia
    ·rw[z,bD]at es;lia
    ·lia
   have s2:s< (m:Int):=by
    have:2*s<=q*s:=Int.mul_le_mul_of_nonneg_right q2 ad
    lia
   have dq:=cX5 rp hn rg hq pq (x:=x) (c:=λk=>chn n (itT p n x) k/q^k) λk hk=>(gT<|Int.dvd_trans ⟨s^k,by rw[es,Int.mul_pow]⟩<|hx k hk).symm
   have e: ∀j,j<n->x j=q*(x j/q):=λj hj=>(gT<|dq j hj).symm
   have st:(s.toNat:Int)=s:=pK ad
   obtain⟨t,et⟩:=ih s.toNat ad ad ad (x:=λj=>x j/q) (λk hk=>by
    obtain⟨d,ed⟩:=hx k hk;rw[zL n2 n4 (B:=λi j=>q*itT p n (λj=>x j/q) i j) (λi j _ hj=>by rw[mS (g:=λj=>q*(x j/q)) ad e i j hj,b46]) k,c60 n2 n4 _ _ _ hk,es,Int.mul_pow,jW]at ed
    rw[st];exact⟨d,j0 (Int.pow_ne_zero ad) ed⟩) j hj
   rw[st]at et;exact⟨t,by rw[e j hj,et,es,jW]⟩
noncomputable def prD (i:Nat):Bool:=((List.range i).map λk:Nat=>decide (0< (2+(i:Int))%(2+(k:Int)))).all id
noncomputable def sqL (m:Int)(i:Nat):List Int:=((List.range i).filter λk:Nat=>sqB m (2+(k:Int))&&prD k).map λk:Nat=>2+(k:Int)
theorem prD_C: ∀k,k<198->prD k=prC k:=by
 have h:(List.range 198).all (λk=>decide (prD k=prC k))=true:=af
 exact λk hk=>pP (dD.mp h k<|dE.mpr hk)
theorem dA9 (m:Int):sqL m 198=prL.filter (sqB m):=by
 unfold sqL prL;rw[List.filter_map,List.filter_filter];refine bU _ (List.filter_congr λk hk=> ?_)
 rw[prD_C k<|dE.mp hk];try rfl
theorem cX8 (m:Int)(i:Nat):sqL m (i+1)=sqL m i++(if(sqB m (2+(i:Int))&&prD i)=true then [2+(i:Int)]else []):=by
 unfold sqL;rw[aT,aF8,bM]
 congr 1
 by_cases c:(sqB m (2+(i:Int))&&prD i)=true
 ·rw[a7 c];simp[c]
 ·rw[a6 c];simp[c]
theorem dB0 (m:Int)(i:Nat):(sqL m i).length<=i:=by
 unfold sqL;rw[aC];exact aL (List.length_filter_le _ _) (by rw[nA];exact aB _)
def aI3:Φ:=λds Q=> ∃m:Int,ds=[.int m]/\Q (.ow<|(prL.filter<|sqB m).map .int)
def aV1:US:=(qY 1)
def aV2:US:=(aS (jL (aA7<|a9 (uC<|.int 2)<|a9 (uC<|.int 200) aM) (cM 2)<|iO (bQ7 (fX<|uOp (kX false) (uOp o8 (aD 0)<|uOp hG (aD 2)<|aD 2)<|uC<|.int 0)<|fX<|aW cF3<|a9 (gD [2] [none,some 2,none] 2 (aA7<|a9 (uC<|.int 2)<|a9 (aD 2) aM) (cM 0) (λρ Q=>Q true ρ)<|uOp (sN λi j=>decide (j<i)) (uOp o8 (aD 1)<|aD 0)<|uC<|.int 0) aM) (aH0 1<|aD 2) fQ) aV1)
def aI4:US:=(aS (bX 1<|jD aM) aV2)
theorem c63: ∀ds Q,aI3 ds Q->aI4 {nx:=λ_=>Q (.pu .non),rt:=Q} (init ["a","f","p"] ds):=by
 rintro ds Q ⟨m,rfl,h⟩;unfold aI4;show(aS _ _:US) _ [some<|.pu<|.int m,none,none];rw[aN];walk_at "u";refine⟨ac,?_⟩
 unfold aV2;rw[aN];refine bQ 198 (λi=> .int (2+(i:Int))) [some<|.pu<|.int m,some<|.ow [],none] (λQ' q=> ?_) (λi ρ=> ∃x,ρ=[some<|.pu<|.int m,some<|.ow<|(sqL m i).map .int,x]) ⟨none,rfl⟩ ?_ ?_
 ·walk_at "u"
  refine⟨⟨ac,ac,ac,ac⟩,?_⟩
  exact q
 ·rintro i ρ hi ⟨x,rfl⟩;rw[cX8];have p2:(2:Int)<=2+(i:Int):=ad
  have p3:2+(i:Int)<200:=ad
  have pq:0< (2+(i:Int))*(2+(i:Int)):=mul_pos ad ad
  walk_at "u"
  refine⟨ae,cmL ad ad,ad,?_⟩
  rw[dL _ pq]
  by_cases c:m%((2+(i:Int))*(2+(i:Int)))=0
  ·rw[a7 c,show sqB m (2+(i:Int))=true from gG c,yK]
   refine gL (t0:=0) i (λk=> .int (2+(k:Int))) [some<|.pu<|.int m,some<|.ow<|(sqL m i).map .int,some<|.pu<|.int<|2+(i:Int)] (λQ' q=> ?_) ad (λx l'=>[x,some<|.pu<|.int<|2+(i:Int),some<|.ow l']) none rfl (λ_ _ _=>rfl) (λ_ _=>cQ _) (λ_ _ _ q=>q) (λ_ _ _=>rfl) (λk:Nat=> .bl (decide (0< (2+(i:Int))%(2+(k:Int))))) ?_ ?_
   ·walk_at "u"
    refine⟨⟨ac,ac,ad,ad⟩,?_⟩
    rw[show(2+(i:Int)-2).toNat=i by lia]
    exact q
   ·intro k l' Q' hk q;walk_at "u";refine⟨ad,?_⟩
    rw[dL _ ad]
    exact q
   ·have e:(List.range i).map (λk:Nat=>D.bl (decide (0< (2+(i:Int))%(2+(k:Int)))))=((List.range i).map λk:Nat=>decide (0< (2+(i:Int))%(2+(k:Int)))).map D.bl:=by rw[gU];rfl
    rw[e];dsimp only;rw[aH3];dsimp only;change (if prD i=true then _ else _)
    by_cases d:prD i=true
    ·rw[a7 d,a7 d];refine⟨?_,some<|.pu<|.int<|2+(i:Int),?_⟩
     ·rw[aC];exact mY (dB0 m i) (aX hi ac)
     ·rw[bM];rfl
    ·rw[a6 d,a6 d,iE];exact⟨_,rfl⟩
  ·rw[a6 c,show sqB m (2+(i:Int))=false from fF c,Bool.false_and,a6 ac,iE]
   exact⟨_,rfl⟩
 ·rintro ρ ⟨x,rfl⟩;dsimp only;unfold aV1;walk_at "u";rw[dA9];exact h
def kI (l:List Int):D:= .lst (l.map .int)
theorem bW2 {t:List (List Int)}{i:Nat}(h:i<t.length):atI (t.map kI) (0+(i:Int))=some (kI<|t.getD i []):=by
 rw[bN];refine cW ?_;rw[bJ,aJ h,aG,aJ h];rfl
theorem b48 {js:List Nat}{cap:List (Option Nat)}{last t0:Nat}{ui:UI}{te:UE}{ρ:Ev}{Q:B->Ev->Prop}(n:Nat)(it:Nat->D)(ρ1:Ev)(hui: ∀Q:Nat->(Nat->D)->Ev->Prop,Q n it ρ1->ui ρ Q)(hn:n<=1000000)
  (G:Option B->List D->Ev) (x0:Option B) (h0:sF (a31 ρ1 js) cap last=G x0 []) (h1: ∀x l b,(G x l).set t0 (some b)=G (some b) l) (h1': ∀x l,t0< (G x l).length) (h2: ∀x l (Q:List D->Prop),Q l->nX (G x l) last Q) (h3: ∀x l l',(G x l).set last (some<|.ow l')=G x l')
  (f:Nat->List D) (hte: ∀i l (Q':B->Ev->Prop),i<n->Q' (.ow<|f i) (G (some<|.pu<|it i) l)->te (G (some<|.pu<|it i) l) Q') (hq:Q (.ow<|(List.range n).map λi=> .lst (f i)) (a31 ρ1 js)) :
  gD js cap last ui (cM t0) (λρ Q=>Q true ρ) te ρ Q:=by
 refine hui _ ⟨λi ρ'=> ∃x,ρ'=G x ((List.range i).map λi=> .lst (f i)),⟨x0,h0⟩,?_,?_⟩
 ·rintro i ρ' hi ⟨x,rfl⟩;refine⟨h1' _ _,?_⟩;rw[h1];dsimp only;rw[a7 rfl];refine hte i _ _ hi (h2 _ _ _ ⟨?_,some<|.pu<|it i,?_⟩)
  ·rw[aC,nA];exact aX hi (aL hn ac)
  ·rw[h3,aT,bM];rfl
 ·rintro ρ' ⟨x,rfl⟩;exact h2 _ _ _ hq
def aS6:Φ:=λds Q=> ∃(p:List Int) (n e:Nat) (u:Nat->Int),ds=[aP p,.lst<|(rwF n u).map .int]/\eE p/\p.length=n+1/\e<=1900/\(∀j,(u j).natAbs<=2^e)/\Q (.ow<|tbF n n<|itT p n u)
def b49:US:=(qY 4)
def b50:US:=(aS (jL (jA<|a9 (aD 2) aM) (cM 6)<|aS (aH0 4<|aD 5)<|bX 5<|aW b40<|a9 (aD 0)<|a9 (aD 3)<|a9 (aD 5) aM) b49)
def b51:US:=(aS (bX 5<|aW fM<|a9 (aD 1) aM) b50)
def aI5:US:=(aS (bX 4<|jD aM) b51)
def aI6:US:=(aS (bX 3<|aW fM<|a9 (gD [] [none,none] 1 (jA<|a9 (aD 2) aM) (cM 0) (λρ Q=>Q true ρ)<|aW bI0<|a9 (uOp (kX false) (aD 0)<|uC<|.int 1) aM) aM) aI5)
def aS7:US:=(aS (bX 2<|uOp M.gSub (kA<|aV 0)<|uC<|.int 1) aI6)
theorem cI9: ∀ds Q,aS6 ds Q->aS7 {nx:=λ_=>Q (.pu .non),rt:=Q} (init ["p","x","m","t","r","w","k"] ds):=by
 rintro ds Q ⟨p,n,e,u,rfl,rp,hn,he,hu,h⟩;have lo:=rp.ok.lo;have hi:=rp.ok.hi;have n2:2<=n:=ad
 have n4:n<=4:=ad
 unfold aS7;show(aS _ _:US) _ [some<|.pu<|.tup<|p.map .int,some<|.pu<|.lst<|(rwF n u).map .int,none,none,none,none,none];rw[aN];walk_at "u";rw[aC,show(p.length:Int)-1=(n:Int)by lia]
 change aI6 _ [some<|.pu<|aP p,some<|.pu<|.lst<|(rwF n u).map .int,some<|.pu<|.int (n:Int),none,none,none,none]
 unfold aI6;rw[aN,mT];refine cI5 1 rfl n n4 rfl ?_;show aI5 _ [some<|.pu<|aP p,some<|.pu<|.lst<|(rwF n u).map .int,some<|.pu<|.int (n:Int),some<|.pu<|aP<|rwF n tnF,none,none,none];unfold aI5;rw[aN];walk_at "u";refine⟨ac,?_⟩
 unfold b51;rw[aN];simp only[aP];walk_at "u";unfold b50;rw[aN];refine bQ n (λi=> .int (0+(i:Int))) [some<|.pu<|aP p,some<|.pu<|.lst<|(rwF n u).map .int,some<|.pu<|.int (n:Int),some<|.pu<|aP<|rwF n tnF,some<|.ow<|tbF 0 n<|itT p n u,some<|.pu<|aP<|rwF n<|itT p n u 0,none] (λQ' q=> ?_)
  (λi ρ=> ∃x,ρ=[some<|.pu<|aP p,some<|.pu<|.lst<|(rwF n u).map .int,some<|.pu<|.int (n:Int),some<|.pu<|aP<|rwF n tnF,some<|.ow<|tbF i n<|itT p n u,some<|.pu<|aP<|rwF n<|itT p n u i,x]) ⟨none,rfl⟩ ?_ ?_
 ·walk_at "u"
  refine⟨⟨ad,ad⟩,?_⟩
  rw[cZ];exact q
 ·rintro i ρ hi' ⟨x,rfl⟩;walk_at "u";rw[d73];refine⟨ac,aX (show i<10 by lia) ac,p,n,e+27,tnF,cz n<|itT p n u i,?_,rp,hn,ad,λj=>cI4 _ j,?_,λj hj=>cB1 n2 hj,λj hj=>cV7 hj,?_⟩
  ·rw[cz_row]
  ·exact cV8 λj=>aL (aS3 (n:=n) rp.ok.small hu i j) (pG ac ad)
  ·rw[nt_row n2 n4,cV9];exact⟨_,rfl⟩
 ·rintro ρ ⟨x,rfl⟩;dsimp only;unfold b49;walk_at "u";exact h
def jC (n:Nat):Φ:=λds Q=> ∃t:List (List Int),ds=[.lst<|t.map kI]/\Sq n t/\Q (.pu<|.int<|dM n t)
def bN1 (jC:Φ):US:=(aS (iO (fX<|uOp (kX false) (kA<|aV 0)<|uC<|.int 1) (fP<|uIx (uV<|uIx (aV 0)<|uC<|.int 0)<|uC<|.int 0) fQ)<|aS (bX 1<|uC<|.int 0)<|aS (jL (jA<|a9 (kA<|aV 0) aM) (cM 2)<|aS (bX 3<|gD [] [none,none] 1 (iJ<|uOp i4 (uSl (aV 0) lK<|mM<|aD 2)<|uSl (aV 0) (mM<|uOp i4 (aD 2)<|uC<|.int 1) lK) (cM 0) (λρ Q=>Q true ρ)<|uSl (aV 0) (mM<|uC<|.int 1) lK)<|bX 1<|uOp i4 (aD 1)<|uOp hG (uOp hG (uOp M.gSub (uC<|.int 1)<|uOp hG (uC<|.int 2)<|uOp o8 (aD 2)<|uC<|.int 2)<|uIx (uV<|uIx (aV 0)<|aD 2)<|uC<|.int 0)<|aW jC<|a9 (aD 3) aM)<|qY 1)
theorem aN6 (n:Nat): ∀ds Q,jC n ds Q->ds.length=1:=by rintro ds Q ⟨a,rfl,_⟩;rfl
theorem cJ0: ∀ds Q,¬jC 0 ds Q:=by
 rintro ds Q ⟨t,rfl,sq,_⟩;have:=sq.pos;have:=sq.le
 lia
theorem cJ1 {t:List (List Int)}{i:Nat}(hi:i<t.length):cutD (t.map kI) none (some (i:Int))++cutD (t.map kI) (some<|(i:Int)+1) none=(t.eraseIdx i).map kI:=by
 have hl:(t.map kI).length=t.length:=aC _;have e1:cutD (t.map kI) none (some (i:Int))=(t.take i).map kI:=by rw[bK2 _ _ ad,pX]
 have e2:cutD (t.map kI) (some<|(i:Int)+1) none=(t.drop<|i+1).map kI:=by
  have:=xC (t.map kI) (i+1) ad
  rw[tL]
  exact_mod_cast this
 rw[e1,e2,<-bM,<-List.eraseIdx_eq_take_drop_succ]
theorem bW3 {t:List (List Int)}{i:Nat}{ρ:Ev}{ui:UI}{Q:B->Ev->Prop}(hi:i<t.length)(h1000:t.length<=1000)(hr: ∀r∈t,1<=r.length)(hui: ∀Q':Nat->(Nat->D)->Ev->Prop,Q' ((t.eraseIdx i).map kI).length (λk=>((t.eraseIdx i).map kI).getD k .non) ρ->ui ρ Q')(h:Q (.ow<|((t.eraseIdx i).map List.tail).map kI) ρ) :
  gD [] [none,none] 1 ui (cM 0) (λρ Q=>Q true ρ) (uSl (aV 0) (mM<|uC<|.int 1) lK) ρ Q:=by
 have le:(t.eraseIdx i).length=t.length-1:=xM hi;refine b48 (t0:=0) ((t.eraseIdx i).map kI).length (λk=>((t.eraseIdx i).map kI).getD k .non) ρ hui (by rw[aC];lia)
  (λx l=>[x,some<|.ow l]) none rfl (λ_ _ _=>rfl) (λ_ _=>cQ _) (λ_ _ _ q=>q) (λ_ _ _=>rfl) (λk=>(((t.eraseIdx i).getD k []).tail).map .int) ?_ ?_
 ·intro k l Q' hk q;rw[aC]at hk;have ek:((t.eraseIdx i).map kI).getD k .non=kI ((t.eraseIdx i).getD k []):=by
   rw[aG,aG,bJ,aJ hk];rfl
  have hm:1<=((t.eraseIdx i).getD k []).length:=by
   rw[aG,aJ hk];exact hr _ (xQ<|bT hk)
  rw[ek]at q⊢;generalize (t.eraseIdx i).getD k []=r at hm q;simp only[kI]at q⊢;walk_at "u";have lr:(r.map D.int).length=r.length:=aC _;have ec:cutD (r.map D.int) (some 1) none=r.tail.map D.int:=by
   have:=xC (r.map D.int) 1 ad
   rw[show((1:Nat):Int)=1 from rfl]at this
   rw[this,<-tL,drop_one]
  rw[ec];exact q
 ·have em:(List.range ((t.eraseIdx i).map kI).length).map (λk=>kI (((t.eraseIdx i).getD k []).tail))=((t.eraseIdx i).map List.tail).map kI:=by
   rw[aC];apply jT
   ·simp
   ·intro k h1 h2;simp at h1;simp[h1,aG]
  show Q (.ow<|(List.range ((t.eraseIdx i).map kI).length).map λk=>kI (((t.eraseIdx i).getD k []).tail)) _
  rw[em];exact h
theorem aZ2 (n:Nat)(hn:n<4): ∀ds Q,jC (n+1) ds Q->bN1 (jC n) {nx:=λ_=>Q (.pu .non),rt:=Q} (init ["t","o","i","m"] ds):=by
 rintro ds Q ⟨t,rfl,sq,h⟩;have hp:=sq.pos;have hle:=sq.le;have lt:(t.map kI).length=t.length:=aC _;have lrow: ∀i,i<t.length->0< (t.getD i []).length:=λi hi=>by
  rw[aG,aJ hi];have:=sq.row _ (bT hi);show 0< (t[i]).length
  lia
 unfold bN1;show(aS _ _:US) _ [some<|.pu<|.lst<|t.map kI,none,none,none];walk_at "u";rw[lt];split
 ·rename_i h1
  have h1':t.length=1:=ad
  have:=bW2 (t:=t) (i:=0) ad
  rw[show(0:Int)+((0:Nat):Int)=0 from rfl]at this
  rw[this];simp only[kI];rw[a38<|lrow 0 ad]
  unfold dM at h;rw[a7 h1']at h;exact h
 ·rename_i h1
  have h1':t.length≠1:=ad
  unfold dM at h;rw[a6 h1']at h;refine bQ t.length (λi=> .int (0+i)) [some<|.pu<|.lst<|t.map kI,some<|.pu<|.int 0,none,none] ?_ (λi ρ=> ∃x y,ρ=[some<|.pu<|.lst<|t.map kI,some<|.pu<|.int ((List.range i).map λi=>(if i%2=0 then 1 else -1)*(t.getD i []).getD 0 0*dM n ((t.eraseIdx i).map List.tail)).sum,x,y]) ?_ ?_ ?_
  ·intro Q' q;simp only[jA];walk_at "u";rw[lt];refine⟨⟨ad,ad⟩,?_⟩
   rw[cZ];exact q
  ·exact⟨none,none,rfl⟩
  ·rintro i ρ hi ⟨x,y,rfl⟩;rw[bN];refine⟨ae,?_⟩
   dsimp only[set_cons_zero,set_cons_succ];rw[aN,mT];refine bW3 hi ad (λr hr=>by rw[sq.row r hr];exact hp) (λQ' q=> ?_) ?_
   ·simp only[iJ];walk_at "u";rw[<-cY,cJ1 hi];exact⟨aL (show _<=2000 by rw[aC,xM hi];lia) ac,q⟩
   walk_at "u"
   have ai:=bW2 hi;rw[bN]at ai;rw[ai,dL _ ad]
   simp only[kI];rw[a38<|lrow i hi];have e1:1-2*((i:Int)%2)=(if i%2=0 then(1:Int)else -1):=by
    split<;>lia
   have eg:t.getD i []=t[i]:=by rw[aG,aJ hi];rfl
   have en:((t.getD i []).getD 0 0).natAbs<=2^2000:=by
    have h0:=lrow i hi;rw[eg]at h0⊢;rw[aG,aJ h0];exact nM (sq.small _ (bT hi) _<|bT h0)
   have se:Sm ((t.getD i []).getD 0 0):=Sm.pow en ac
   have sg:Sm (if i%2=0 then(1:Int)else -1):=by split<;>exact b19 ac ac
   have sp:Sm ((if i%2=0 then(1:Int)else -1)*(t.getD i []).getD 0 0):=by
    refine Sm.pow (k:=2000) ?_ ac
    rw[fW];have e1:(if i%2=0 then(1:Int)else -1).natAbs=1:=by split<;>rfl
    rw[e1,one_mul];exact en
   have sd:Sm (dM n<|(t.eraseIdx i).map List.tail):=Sm.pow (aR1 n _ ad<|sq.less h1' hi) ad
   have sm:Sm ((i:Int)%2):=b19 ad ad
   rw[e1];refine⟨ac,.inr ⟨b19 ac ac,sm⟩,.inr ⟨sg,se⟩,(t.eraseIdx i).map List.tail,rfl,sq.less h1' hi,.inr ⟨sp,sd⟩,?_⟩
   rw[aT,bM,yG];simp
  ·rintro ρ ⟨x,y,rfl⟩;walk_at "u";exact h
def pkN:Nat->List (List Nat)
 | 0=>[[]]
 | i+1=>pkN i++(pkN i).map λl=>l++[i]
def o9 (l:List Nat):D:= .lst (l.map λi:Nat=> .int (i:Int))
def mnr (T:Nat->Nat->Int)(l:List Nat):List (List Int):=l.map λi=>l.map λj=>T i j
noncomputable def plS (T:Nat->Nat->Int)(n:Nat)(f:Nat->Int)(l:List Nat):Nat->Int:=λj=>if j=n-l.length then f j+(1-2*((l.length:Int)%2))*dM 4 (mnr T l)else f j
noncomputable def plF (T:Nat->Nat->Int)(n:Nat)(L:List (List Nat)):Nat->Int:=L.foldl (plS T n) λj=>if j=n then 1 else 0
theorem mn1 (T:Nat->Nat->Int)(i:Nat):dM 4 (mnr T [i])=T i i:=by kernel_rfl
theorem mn2 (T:Nat->Nat->Int)(i j:Nat):dM 4 (mnr T [i,j])=1*T i i*(T j j)+(-1*T j i*(T i j)+0):=by kernel_rfl
theorem mn3 (T:Nat->Nat->Int)(a b c:Nat):dM 4 (mnr T [a,b,c])=1*T a a*(1*T b b*(T c c)+(-1*T c b*(T b c)+0))+(-1*T b a*(1*T a b*(T c c)+(-1*T c b*(T a c)+0))+(1*T c a*(1*T a b*(T b c)+(-1*T b b*(T a c)+0))+0)):=by kernel_rfl
theorem mn4 (T:Nat->Nat->Int):dM 4 (mnr T [0,1,2,3])=dM 4 (tbL 4 T):=by kernel_rfl
theorem pl_chn {n:Nat}(n2:2<=n)(n4:n<=4)(T:Nat->Nat->Int)(j:Nat)(hj:j<n+1):plF T n (pkN n).tail j=chn n T (n-j):=by
 match n,n2,n4 with
 | 2,_,_=>
  have e:(pkN 2).tail=[[0],[1],[0,1]]:=ac
  rw[e];have:j=0\/j=1\/j=2:=ad
  rcases this with rfl|rfl|rfl
  ·show _=ch2 T 2
   simp[plF,plS,mn1,mn2,ch2]
   grind
  ·show _=ch2 T 1
   simp[plF,plS,mn1,mn2,ch2]
   grind
  ·show _=ch2 T 0
   simp[plF,plS,ch2]
 | 3,_,_=>
  have e:(pkN 3).tail=[[0],[1],[0,1],[2],[0,2],[1,2],[0,1,2]]:=ac
  rw[e];have:j=0\/j=1\/j=2\/j=3:=ad
  rcases this with rfl|rfl|rfl|rfl
  ·show _=ch3 T 3
   simp[plF,plS,mn1,mn2,mn3,ch3]
   grind
  ·show _=ch3 T 2
   simp[plF,plS,mn1,mn2,mn3,ch3]
   grind
  ·show _=ch3 T 1
   simp[plF,plS,mn1,mn2,mn3,ch3]
   grind
  ·show _=ch3 T 0
   simp[plF,plS,ch3]
 | 4,_,_=>
  have e:(pkN 4).tail=[[0],[1],[0,1],[2],[0,2],[1,2],[0,1,2],[3],[0,3],[1,3],[0,1,3],[2,3],[0,2,3],[1,2,3],[0,1,2,3]]:=ac
  rw[e];have:j=0\/j=1\/j=2\/j=3\/j=4:=ad
  rcases this with rfl|rfl|rfl|rfl|rfl
  ·have c:=d91 (n:=4) ac ac T
   show _=chn 4 T 4
   rw[c];simp[plF,plS,mn4]
  ·show _=ch4 T 3
   simp[plF,plS,mn1,mn2,mn3,ch4]
   grind
  ·show _=ch4 T 2
   simp[plF,plS,mn1,mn2,mn3,ch4]
   grind
  ·show _=ch4 T 1
   simp[plF,plS,mn1,mn2,mn3,ch4]
   grind
  ·show _=ch4 T 0
   simp[plF,plS,ch4]
def c64:Φ:=λds Q=> ∃(p:List Int) (n e:Nat) (u:Nat->Int),ds=[aP p,.lst<|(rwF n u).map .int]/\eE p/\p.length=n+1/\e<=400/\(∀j,(u j).natAbs<=2^e)/\Q (.ow<|(rwF (n+1) λj=>chn n (itT p n u) (n-j)).map .int)
def b52:US:=(b03 6 (uOp i4 (uIx (aV 6)<|aD 10)<|uOp hG (aD 9)<|aW (jC 4)<|a9 (aD 8) aM)<|aD 10)
def b53:US:=(aS (bX 10<|uOp M.gSub (aD 2)<|kA<|aV 7) b52)
def b54:US:=(aS (bX 9<|uOp M.gSub (uC<|.int 1)<|uOp hG (uC<|.int 2)<|uOp o8 (kA<|aV 7)<|uC<|.int 2) b53)
def b55:US:=(aS (jL (iJ<|aD 7) (cM 5)<|aH0 8<|gD [5] [none,some 3,some 5,none] 3 (iJ<|aD 7) (cM 0) (λρ Q=>Q true ρ)<|uIx (uV<|uIx (aV 1)<|aD 2)<|aD 0) b54)
def b56:US:=(aS (bX 8<|jD aM) b55)
def bW4:US:=(qY 6)
def bW5:US:=(aS (jL (iJ<|uSl (aV 4) (mM<|uC<|.int 1) lK) (cM 7) b56) bW4)
def bW6:US:=(aS (bX 6<|uOp i4 (uOp hG (jD<|a9 (uC<|.int 0) aM)<|aD 2)<|jD<|a9 (uC<|.int 1) aM) bW5)
def bW7:US:=(aS (jL (jA<|a9 (aD 2) aM) (cM 5)<|bX 4<|uOp i4 (aD 4)<|gD [5] [none,some 5,none] 2 (iJ<|aD 4) (cM 0) (λρ Q=>Q true ρ)<|uOp i4 (aD 0)<|jD<|a9 (aD 1) aM) bW6)
def bW8:US:=(aS (bX 4<|jD<|a9 (jD aM) aM) bW7)
def b57:US:=(aS (bX 3<|aW aS6<|a9 (aD 0)<|a9 (aD 1) aM) bW8)
def c65:US:=(aS (bX 2<|uOp M.gSub (kA<|aV 0)<|uC<|.int 1) b57)
theorem c66: ∀n,(pkN n).length=2^n
 | 0=>rfl
 | n+1=>by
  show(pkN n++(pkN n).map λl=>l++[n]).length=_
  rw[cY,aC,c66 n,yN]
  lia
theorem bN2: ∀n,∀l∈pkN n,l.length<=n/\ ∀i∈l,i<n
 | 0,l,hl=>by
  have:l=[]:=by simpa[pkN]using hl
  subst this;exact⟨aB _,nofun⟩
 | n+1,l,hl=>by
  rcases bC.mp (show l∈pkN n++(pkN n).map λl=>l++[n]from hl)with h|h
  ·have:=bN2 n l h;exact⟨ad,λi hi=>by have:=this.2 i hi;lia⟩
  ·obtain⟨m,hm,rfl⟩:=dU.mp h;have:=bN2 n m hm;refine⟨by simp;lia,λi hi=> ?_⟩
   rcases bC.mp hi with h|h
   ·have:=this.2 i h;lia
   ·have:=jQ.mp h;lia
theorem cC4: ∀n,∃L,pkN n=[]::L/\ ∀l∈L,l≠[]
 | 0=>⟨[],rfl,nofun⟩
 | n+1=>by
  obtain⟨L,e,h⟩:=cC4 n;refine⟨L++([]::L).map λl=>l++[n],?_,λl hl=> ?_⟩
  ·show pkN n++(pkN n).map _=_
   rw[e];rfl
  ·rcases bC.mp hl with z|z
   ·exact h l z
   ·obtain⟨m,_,rfl⟩:=dU.mp z;simp
theorem dB1 {ρ:Ev}{i:Nat}{l:List D}{te:UE}{E:UD}(h:ρ[i]? =some (some<|.ow l)):aH0 i te E ρ=te ρ λb ρ1=>nX ρ1 i λl=>l.length<sizeLine/\E.nx (ρ1.set i<|some<|.ow<|l++[b.d]):=by
 unfold aH0;rw[show ∀Q,nX ρ i Q=Q l from λQ=>by unfold nX;rw[h]]
theorem pl_0: ∀n,n<=4->(replicate n (0:Int)).map D.int++[D.int 1]=(rwF (n+1) λj=>if j=n then 1 else 0).map D.int
 | 0,_=>rfl
 | 1,_=>rfl
 | 2,_=>rfl
 | 3,_=>rfl
 | 4,_=>rfl
theorem cC5 {l:List Nat}{i:Nat}(h:i<l.length):(l.map λj:Nat=>D.int (j:Int)).getD i .non= .int ((l.getD i 0:Nat):Int):=by
 rw[aG,aG,bJ,aJ h];rfl
theorem rd_own: ∀ds Q,c64 ds Q->c65 {nx:=λ_=>Q (.pu .non),rt:=Q} (init ["p","x","m","t","k","i","o","c","w","s","a"] ds):=by
 rintro ds Q ⟨p,n,e,u,rfl,rp,hn,he,hu,h⟩;have lo:=rp.ok.lo;have hi:=rp.ok.hi;have n2:2<=n:=ad
 have n4:n<=4:=ad
 have pl:=c66 n;have pl': ∀i,i<=n->(pkN i).length<=16:=λi hi=>by
  rw[c66];exact aL (pG ac<|show i<=4 by lia) ac
 unfold c65;show(aS _ _:US) _ [some<|.pu<|.tup<|p.map .int,some<|.pu<|.lst<|(rwF n u).map .int,none,none,none,none,none,none,none,none,none];rw[aN];walk_at "u";rw[aC,show(p.length:Int)-1=(n:Int)by lia]
 change b57 _ [some<|.pu<|aP p,some<|.pu<|.lst<|(rwF n u).map .int,some<|.pu<|.int (n:Int),none,none,none,none,none,none,none,none]
 unfold b57;rw[aN];walk_at "u";refine⟨p,n,e,u,rfl,rp,hn,ad,hu,?_⟩
 obtain⟨T,eT⟩: ∃T,T=itT p n u:=⟨_,rfl⟩;have hT: ∀i j,i<n->(T i j).natAbs<=2^430:=λi j hi=>by
  rw[eT];exact aL (aS3 (n:=n) rp.ok.small hu i j) (pG ac ad)
 rw[<-eT]at h⊢;try dsimp only
 unfold bW8;rw[aN];walk_at "u";refine⟨ac,ac,?_⟩
 unfold bW7;rw[aN];refine bQ n (λi=> .int (0+(i:Int))) [some<|.pu<|aP p,some<|.pu<|.lst<|(rwF n u).map .int,some<|.pu<|.int (n:Int),some<|.ow<|tbF n n T,some<|.ow<|(pkN 0).map o9,none,none,none,none,none,none] (λQ' q=> ?_)
  (λi ρ=> ∃x,ρ=[some<|.pu<|aP p,some<|.pu<|.lst<|(rwF n u).map .int,some<|.pu<|.int (n:Int),some<|.ow<|tbF n n T,some<|.ow<|(pkN i).map o9,x,none,none,none,none,none]) ⟨none,rfl⟩ ?_ ?_
 ·walk_at "u"
  refine⟨⟨ad,ad⟩,?_⟩
  rw[cZ];exact q
 ·rintro i ρ hi' ⟨x,rfl⟩;rw[bN];refine⟨ae,?_⟩
  dsimp only[set_cons_zero,set_cons_succ];have pi:=pl' i ad
  rw[mT,c45];rw[d75 (l:=(pkN i).map o9) rfl];dsimp only[set_cons_zero,set_cons_succ];refine b48 (t0:=0) ((pkN i).map o9).length (λk=>((pkN i).map o9).getD k .non) [some<|.pu<|aP p,some<|.pu<|.lst<|(rwF n u).map .int,some<|.pu<|.int (n:Int),some<|.ow<|tbF n n T,some<|.pu<|.lst<|(pkN i).map o9,some<|.pu<|.int (i:Int),none,none,none,none,none] (λQ' q=> ?_) (by rw[aC];lia)
   (λx l=>[x,some<|.pu<|.int (i:Int),some<|.ow l]) none rfl (λ_ _ _=>rfl) (λ_ _=>cQ _) (λ_ _ _ q=>q) (λ_ _ _=>rfl) (λk=>(((pkN i).getD k []++[i]).map λj:Nat=>D.int (j:Int))) ?_ ?_
  ·walk_at "u"
   exact q
  ·intro k l Q' hk q;rw[aC]at hk;have ek:((pkN i).map o9).getD k .non=o9 ((pkN i).getD k []):=by
    rw[aG,aG,bJ,aJ hk];rfl
   have hm:=bN2 i ((pkN i).getD k []) (by rw[aG,aJ hk];exact bT hk)
   rw[ek]at q⊢;generalize (pkN i).getD k []=r at hm q;simp only[o9]at q⊢;walk_at "u";rw[aC];refine⟨ac,aL (show r.length+1<=10 by lia) ac,?_⟩
   rw[bM]at q;exact q
  ·have em:(List.range ((pkN i).map o9).length).map (λk=>D.lst (((pkN i).getD k []++[i]).map λj:Nat=>D.int (j:Int)))=((pkN i).map λl=>l++[i]).map o9:=by
    rw[aC];apply jT
    ·simp
    ·intro k h1 h2;simp at h1;simp[h1,aG,o9]
   rw[em];walk_at "u";rw[aC,aC,aC];refine⟨aL (show _<=100 by lia) ac,some<|.pu<|.int (i:Int),?_⟩
   rw[<-bM];rfl
 rintro ρ ⟨x,rfl⟩;dsimp only;unfold bW6;rw[aN];walk_at "u";have ef:(replicate (n:Int).toNat [D.int 0]).flatten=(replicate n 0).map D.int:=by rw[cZ];exact u5 _ _
 rw[ef,aC,aE3,pl_0 n n4];refine⟨ac,⟨ad,ad,aL (show _<=10 by lia) ac⟩,ac,aL (show n+(0+1)<=10 by lia) ac,?_⟩
 obtain⟨L,eL,nL⟩:=cC4 n;have mL: ∀l∈L,l.length<=n/\ ∀i∈l,i<n:=λl hl=>bN2 n l (by rw[eL];exact bF _ hl)
 have ec:cutD ((pkN n).map o9) (some 1) none=L.map o9:=by
  have:=xC ((pkN n).map o9) 1 (by rw[eL];simp)
  rw[show((1:Nat):Int)=1 from rfl]at this
  rw[this,eL];rfl
 unfold bW5;rw[aN];refine bQ (L.map o9).length (λk=>(L.map o9).getD k .non) [some<|.pu<|aP p,some<|.pu<|.lst<|(rwF n u).map .int,some<|.pu<|.int (n:Int),some<|.ow<|tbF n n T,some<|.ow<|(pkN n).map o9,x,some<|.ow<|(rwF (n+1)<|plF T n<|L.take 0).map .int,none,none,none,none] (λQ' q=> ?_)
  (λk ρ=> ∃x y z a b,ρ=[some<|.pu<|aP p,some<|.pu<|.lst<|(rwF n u).map .int,some<|.pu<|.int (n:Int),some<|.ow<|tbF n n T,some<|.ow<|(pkN n).map o9,x,some<|.ow<|(rwF (n+1)<|plF T n<|L.take k).map .int,y,z,a,b]) ⟨x,none,none,none,none,rfl⟩ ?_ ?_
 ·walk_at "u"
  rw[ec];exact q
 ·rintro k ρ hk ⟨x,y,z,a,b,rfl⟩;rw[aC]at hk;have ek:(L.map o9).getD k .non=o9 (L.getD k []):=by
   rw[aG,aG,bJ,aJ hk];rfl
  have el:L.getD k []=L[k]:=by rw[aG,aJ hk];rfl
  have tk:plF T n (L.take<|k+1)=plS T n (plF T n<|L.take k) (L.getD k []):=by
   unfold plF;rw[el,<-List.take_append_getElem hk,List.foldl_append];rfl
  have lm:=mL L[k] (bT hk);have ln:=nL L[k] (bT hk);rw[<-el]at lm ln;rw[ek,tk];generalize plF T n (L.take k)=f at *;generalize L.getD k []=l at *;have lt: ∀{i},i<l.length->l.getD i 0<n:=λ{i} h=>lm.2 _ (by rw[aG,aJ h];exact bT h)
  refine⟨ae,?_⟩
  dsimp only[set_cons_zero,set_cons_succ];unfold b56;rw[aN];walk_at "u";refine⟨ac,?_⟩
  unfold b55;rw[aN];refine bQ l.length (λi=>(l.map λj:Nat=>D.int (j:Int)).getD i .non) [some<|.pu<|aP p,some<|.pu<|.lst<|(rwF n u).map .int,some<|.pu<|.int (n:Int),some<|.ow<|tbF n n T,some<|.ow<|(pkN n).map o9,x,some<|.ow<|(rwF (n+1) f).map .int,some<|.pu<|o9 l,some<|.ow [],a,b] (λQ' q=> ?_)
   (λi ρ=> ∃x,ρ=[some<|.pu<|aP p,some<|.pu<|.lst<|(rwF n u).map .int,some<|.pu<|.int (n:Int),some<|.ow<|tbF n n T,some<|.ow<|(pkN n).map o9,x,some<|.ow<|(rwF (n+1) f).map .int,some<|.pu<|o9 l,some<|.ow<|(List.range i).map λr=>kI ((List.range l.length).map λc=>T (l.getD r 0) (l.getD c 0)),a,b]) ⟨x,rfl⟩ ?_ ?_
  ·simp only[o9]at q⊢;walk_at "u";rw[aC];exact q
  ·rintro i ρ hi' ⟨x,rfl⟩;rw[cC5 hi'];refine⟨ae,?_⟩
   dsimp only[set_cons_zero,set_cons_succ];rw[dB1 rfl]
   refine gL (t0:=0) l.length (λc=>(l.map λj:Nat=>D.int (j:Int)).getD c .non) [some<|.pu<|aP p,some<|.pu<|.lst<|(rwF n u).map .int,some<|.pu<|.int (n:Int),some<|.ow<|tbF n n T,some<|.ow<|(pkN n).map o9,some<|.pu<|.int ((l.getD i 0:Nat):Int),some<|.ow<|(rwF (n+1) f).map .int,some<|.pu<|o9 l,some<|.ow<|(List.range i).map λr=>kI ((List.range l.length).map λc=>T (l.getD r 0) (l.getD c 0)),a,b] (λQ' q=> ?_) ad
    (λx r=>[x,some<|.bo<|tbF n n T,some<|.pu<|.int ((l.getD i 0:Nat):Int),some<|.ow r]) none rfl (λ_ _ _=>rfl) (λ_ _=>cQ _) (λ_ _ _ q=>q) (λ_ _ _=>rfl) (λc=> .int (T (l.getD i 0)<|l.getD c 0)) ?_ ?_
   ·simp only[o9]at q⊢;walk_at "u";rw[aC];exact q
   ·intro c r Q' hc q;rw[cC5 hc]at q⊢;walk_at "u";rw[tbF_at<|lt hi'];simp only[aP];rw[oH<|lt hc];exact q
   ·walk_at "u"
    rw[aC,nA];refine⟨aX (show i<10 by lia) ac,some<|.pu<|.int ((l.getD i 0:Nat):Int),?_⟩
    rw[aT,bM];simp only[kI,gU];rfl
  ·rintro ρ ⟨x,rfl⟩;dsimp only;have em:((List.range l.length).map λr=>kI ((List.range l.length).map λc=>T (l.getD r 0) (l.getD c 0)))=(mnr T l).map kI:=by
    unfold mnr;rw[gU];apply jT
    ·simp
    ·intro k h1 h2;simp at h1;simp[h1,aG,kI];apply jT
     ·simp
     ·intro c h3 h4;simp at h3;simp[h3]
   rw[em];unfold b54;rw[aN];simp only[o9];walk_at "u";rw[aC,dL _ ac]
   refine⟨ac,cmL ac ac,?_⟩
   unfold b53;rw[aN];walk_at "u";rw[aC];unfold b52;walk_at "u";have l1:1<=l.length:=List.length_pos_iff.mpr ln;have l4:=lm.1;rw[show(n:Int)-(l.length:Int)=((n-l.length:Nat):Int)by lia,oH<|show n-l.length<n+1 by lia]
   dsimp only;refine⟨mnr T l,rfl,⟨by simp[mnr];lia,by simp[mnr];lia,λr hr=> ?_,λr hr v hv=> ?_⟩,?_⟩
   ·obtain⟨i,_,rfl⟩:=dU.mp hr;simp[mnr]
   ·obtain⟨i,hi,rfl⟩:=dU.mp hr;obtain⟨j,_,rfl⟩:=dU.mp hv;exact mY (hT i j<|lm.2 i hi) (aE9 ac ac)
   ·dsimp only;refine⟨cmL ad ad,?_⟩
    rw[aC,a90,bU6<|show n-l.length<n+1 by lia]
    dsimp only;rw[aM4<|show n-l.length<n+1 by lia]
    have es:plS T n f l=λj=>if j=n-l.length then f (n-l.length)+(1-2*((l.length:Int)%2))*dM 4 (mnr T l)else f j:=funext λj=>by
     unfold plS
     by_cases c:j=n-l.length
     ·rw[a7 c,a7 c,c]
     ·rw[a6 c,a6 c]
    rw[es];exact⟨x,_,_,_,_,rfl⟩
 ·rintro ρ ⟨x,y,z,a,b,rfl⟩;dsimp only;unfold bW4;walk_at "u";rw[xS ae]
  have:(rwF (n+1) λj=>chn n T (n-j))=rwF (n+1) (plF T n L):=iC λj hj=>by
   rw[<-pl_chn n2 n4 T j hj,eL];rfl
  rw[this]at h;exact h
def a62:Φ:=λds Q=> ∃(p:List Int) (n e:Nat) (u:Nat->Int) (m:Nat),ds=[aP p,.lst<|(rwF n u).map .int,.int (m:Int)]/\eE p/\p.length=n+1/\e<=400/\(∀j,(u j).natAbs<=2^e)/\1<=m/\m<200/\Q (.pu<|.bl<|decide (∀k,k<n+1->((m:Int)^k)∣chn n (itT p n u) k))
def aN7:US:=(fP<|uC<|.bl true)
def aN8:US:=(aS (jL (aA7<|a9 (uC<|.int 1)<|a9 (kA<|aV 0) aM) (cM 5)<|aS (bX 4<|uOp hG (aD 4)<|aD 2)<|iO (fX<|uOp (kX true) (uOp o8 (uIx (aV 3)<|uOp M.gSub (uOp M.gSub (kA<|aV 0)<|uC<|.int 1)<|aD 5)<|aD 4)<|uC<|.int 0) (fP<|uC<|.bl false) fQ) aN7)
def aN9:US:=(aS (bX 4<|uC<|.int 1) aN8)
def a63:US:=(aS (bX 3<|aW c64<|a9 (aD 0)<|a9 (aD 1) aM) aN9)
theorem bW9: ∀ds Q,a62 ds Q->a63 {nx:=λ_=>Q (.pu .non),rt:=Q} (init ["p","x","m","o","f","k"] ds):=by
 rintro ds Q ⟨p,n,e,u,m,rfl,rp,hn,he,hu,m1,m2,h⟩;have lo:=rp.ok.lo;have hi:=rp.ok.hi;have n2:2<=n:=ad
 have n4:n<=4:=ad
 unfold a63;show(aS _ _:US) _ [some<|.pu<|aP p,some<|.pu<|.lst<|(rwF n u).map .int,some<|.pu<|.int (m:Int),none,none,none];rw[aN];walk_at "u";refine⟨p,n,e,u,rfl,rp,hn,he,hu,?_⟩;generalize itT p n u=T at h⊢;try dsimp only
 unfold aN9;rw[aN];walk_at "u";unfold aN8;rw[aN];refine bQ n (λi=> .int (1+(i:Int))) [some<|.pu<|aP p,some<|.pu<|.lst<|(rwF n u).map .int,some<|.pu<|.int (m:Int),some<|.ow<|(rwF (n+1) λj=>chn n T (n-j)).map .int,some<|.pu<|.int 1,none] (λQ' q=> ?_)
  (λi ρ=>(∀k,k<i+1->((m:Int)^k)∣chn n T k)/\ ∃x,ρ=[some<|.pu<|aP p,some<|.pu<|.lst<|(rwF n u).map .int,some<|.pu<|.int (m:Int),some<|.ow<|(rwF (n+1) λj=>chn n T (n-j)).map .int,some<|.pu<|.int<|(m:Int)^i,x]) ⟨λk hk=> ?_,none,by rw[cL]⟩ ?_ ?_
 ·simp only[aP];walk_at "u";rw[aC];refine⟨⟨ac,ac,ad,ad⟩,?_⟩
  rw[show((p.length:Int)-1).toNat=n by lia]
  exact q
 ·obtain rfl:k=0:=ad
  rw[cL];exact Int.one_dvd _
 ·rintro i ρ hi' ⟨dv,x,rfl⟩;simp only[aP];walk_at "u";rw[aC,show(p.length:Int)-1-(1+(i:Int))=((n-(i+1):Nat):Int)by lia,oH<|show n-(i+1)<n+1 by lia]
  dsimp only;have po:0< (m:Int)^(i+1):=Int.pow_pos ad
  rw[show n-(n-(i+1))=i+1 by lia,<-gW,dL _ po]
  refine⟨ac,cmR ad ad,ad,?_⟩
  by_cases c:chn n T (i+1)%(m:Int)^(i+1)=0
  ·rw[a6 λz=>z c]
   refine⟨λk hk=> ?_,_,rfl⟩
   by_cases e:k=i+1
   ·rw[e];exact bZ c
   ·exact dv k ad
  ·rw[a7 c];rw[fF λz=>c (dR<|z (i+1) ad)]at h
   exact h
 ·rintro ρ ⟨dv,x,rfl⟩;dsimp only;unfold aN7;walk_at "u";rw[gG dv]at h;exact h
def aI7:US:=(iO (fX<|uOp (kX true) (aW a62<|a9 (aD 2)<|a9 (aD 9)<|a9 (aD 7) aM)<|aW cF3<|a9 (gD [7] [none,some 7,none] 2 (iJ<|aD 9) (cM 0) (λρ Q=>Q true ρ)<|uOp (kX false) (uOp o8 (aD 0)<|aD 1)<|uC<|.int 0) aM) (fP<|uC<|.bl false) fQ)
def aI8:US:=(aS (iO (fX<|uOp (sN λi j=>decide (j<i)) (uIx (aV 6)<|uC<|.int 0)<|uC<|.int 0) (bX 9<|gD [] [none,none,none] 2 (uZip<|a9 (aD 9)<|a9 (uSl (aV 8) (mM<|uOp i4 (uC<|.int 4)<|aD 3) lK) aM) (vB<|gQ 0<|gQ 1 v9) (λρ Q=>Q true ρ)<|uOp i4 (aD 0)<|aD 1) fQ) aI7)
def b58:US:=(aS (bX 9<|gD [7] [none,some 7,none] 2 (iJ<|uSl (aV 8) (mM<|uC<|.int 4)<|mM<|uOp i4 (uC<|.int 4)<|aD 3) (cM 0) (λρ Q=>Q true ρ)<|uOp hG (aD 1)<|uOp M.gSub (aD 0)<|uC<|.int 3) aI8)
def zM:US:=(aS (bX 8<|aW oE<|a9 (aD 5)<|a9 (uOp i4 (uOp i4 (jD<|a9 (uC<|.int 4)<|a9 (uC<|.int 2)<|a9 (uC<|.int 59)<|a9 (uC<|.int 46) aM)<|uOp hG (jD<|a9 (uC<|.int 7) aM)<|aD 3)<|uOp hG (jD<|a9 (aD 7) aM)<|aD 3)<|a9 (uC<|.int 999999739) aM) b58)
def b59:US:=(aS (iO (bQ7 (fX<|uOp (kX false) (uIx (aV 6)<|uC<|.int 1)<|uC<|.int 0)<|fX<|uOp (sN λi j=>decide (j<i)) (kA<|aV 8)<|uC<|.int 0) (bX 7<|uIx (aV 8)<|uOp o8 (uIx (aV 6)<|uC<|.int 3)<|kA<|aV 8) fQ) zM)
def b60:US:=(aS (bX 8<|aW aI3<|a9 (c39 "measure"<|aD 1) aM) b59)
def b61:US:=(aS (bX 7<|uOp i4 (uC<|.int 2)<|uIx (aV 6)<|uC<|.int 2) b60)
def b62:US:=(aS (bX 6<|aW oE<|a9 (aD 5)<|a9 (jD<|a9 (uC<|.int 4)<|a9 (uC<|.int 2)<|a9 (uC<|.int 59)<|a9 (uC<|.int 46) aM)<|a9 (uC<|.int 999999739) aM) b61)
def aI9:US:=(aS (bX 5<|aW aM0<|a9 (aD 0)<|a9 (uOp i4 (uC<|.int 3)<|aD 4) aM) b62)
def bX0:US:=(fP<|uC<|.bl true)
def b63:US:=(aS (jL (jA<|a9 (uC<|.int 2) aM) (cM 4) aI9) bX0)
def bX1:US:=(aS (bX 3<|uOp M.gSub (kA<|aV 2)<|uC<|.int 1) b63)
def bX2:US:=(aS (bX 2<|c39 "poly"<|aD 1) bX1)
def bN3:US:=(aS (bX 1<|aW bL7<|a9 (aD 0)<|a9 (uC<|.int 0)<|a9 (uC<|.int 999999751) aM) bX2)
theorem cX9 (l:List Bool):vV (l.map D.bl)=some l:=by
 induction l with
 | nil=>rfl
 | cons a l ih=>simp[vV,ih]
theorem dF0 {E:UD}{p:List Int}{n e m:Nat}{u:Nat->Int}{s0 s1 s3 s4 s5 s6 s8:Option B}(rp:eE p)(hn:p.length=n+1)(rg:RG p)(he:e<=400)(hu: ∀j,(u j).natAbs<=2^e)(m1:2<=m)(m2:m<200)
  (h:E.nx [s0,s1,some<|.pu<|aP p,s3,s4,s5,s6,some<|.pu<|.int (m:Int),s8,some<|.pu<|.lst<|(rwF n u).map .int]) :
  aI7 E [s0,s1,some<|.pu<|aP p,s3,s4,s5,s6,some<|.pu<|.int (m:Int),s8,some<|.ow<|(rwF n u).map .int]:=by
 have lo:=rp.ok.lo;have hi:=rp.ok.hi;have n2:2<=n:=ad
 have n4:n<=4:=ad
 unfold aI7;simp only[iO,fX,uOp,aW,a9,aM,aD,aA5,B.d,pA,aD6,aC8,aC9];refine⟨p,n,e,u,m,rfl,rp,hn,he,hu,ad,m2,?_⟩
 refine gL (t0:=0) n (λj=>((rwF n u).map D.int).getD j .non) [s0,s1,some<|.pu<|aP p,s3,s4,s5,s6,some<|.pu<|.int (m:Int),s8,some<|.pu<|.lst<|(rwF n u).map .int] (λQ' q=> ?_) ad
  (λx l=>[x,some<|.pu<|.int (m:Int),some<|.ow l]) none rfl (λ_ _ _=>rfl) (λ_ _=>cQ _) (λ_ _ _ q=>q) (λ_ _ _=>rfl) (λj=> .bl (decide (u j%(m:Int)=0))) ?_ ?_
 ·walk_at "u"
  rw[aC,a90];exact q
 ·intro j l Q' hj q;have ej:((rwF n u).map D.int).getD j .non= .int (u j):=by
   rw[aG,r8 hj];rfl
  rw[ej]at q⊢;walk_at "u";rw[dL _ ad]
  exact⟨ad,q⟩
 ·have eb:((List.range n).map λj=>D.bl (decide (u j%(m:Int)=0)))=((List.range n).map λj=>decide (u j%(m:Int)=0)).map D.bl:=by rw[gU];rfl
  rw[eb];walk_at "u";rw[cX9];have ew:decide (∀k,k<n+1->((m:Int)^k)∣chn n (itT p n u) k)=((List.range n).map λj=>decide (u j%(m:Int)=0)).all id:=by
   rw[tG,fV,all_map,dD];constructor
   ·intro a j hj;exact gG (dR<|cX7 rp hn rg m ad m2 (λk hk=>a k ad) j<|dE.mp hj)
   ·intro a k hk;have ee: ∀j,j<n->u j=(m:Int)*(u j/m):=λj hj=>(gT<|bZ<|pP<|a j<|dE.mpr hj).symm
    rw[zL n2 n4 (B:=λi j=>(m:Int)*itT p n (λj=>u j/m) i j) (λi j _ hj=>by rw[mS (g:=λj=>(m:Int)*(u j/m)) ad ee i j hj,b46]) k,c60 n2 n4 _ _ _ ad]
    exact⟨_,rfl⟩
  rw[ew];simp;exact h
theorem rd_b7 {E:UD}{p:List Int}{n m:Nat}{v:Nat->Int}{d0 d1 d2 d3:Int}{xs:List Int}{s0 s1 s4 s5:Option B}(rp:eE p)(hn:p.length=n+1)(rg:RG p)(hv: ∀j,(v j).natAbs<=2^20)(m1:2<=m)(m2:m<200)(xl:xs.length=4+n+n)(xb: ∀i,(xs.getD i 0).natAbs<=2^20)
  (h: ∀l,E.nx [s0,s1,some<|.pu<|aP p,some<|.pu<|.int (n:Int),s4,s5,some<|.ow<|[d0,d1,d2,d3].map .int,some<|.pu<|.int (m:Int),some<|.ow<|xs.map .int,some<|.pu<|.lst l]) :
  aI8 E [s0,s1,some<|.pu<|aP p,some<|.pu<|.int (n:Int),s4,s5,some<|.ow<|[d0,d1,d2,d3].map .int,some<|.pu<|.int (m:Int),some<|.ow<|xs.map .int,some<|.ow<|(rwF n v).map .int]:=by
 have lo:=rp.ok.lo;have hi:=rp.ok.hi;have n2:2<=n:=ad
 have n4:n<=4:=ad
 unfold aI8;rw[aN,cA2];have t0: ∀(Q:Bool->Ev->Prop),Q (decide (0<d0)) [s0,s1,some<|.pu<|aP p,some<|.pu<|.int (n:Int),s4,s5,some<|.ow<|[d0,d1,d2,d3].map .int,some<|.pu<|.int (m:Int),some<|.ow<|xs.map .int,some<|.ow<|(rwF n v).map .int]->
   (fX<|uOp (sN λi j=>decide (j<i)) (uIx (aV 6)<|uC<|.int 0)<|uC<|.int 0) [s0,s1,some<|.pu<|aP p,some<|.pu<|.int (n:Int),s4,s5,some<|.ow<|[d0,d1,d2,d3].map .int,some<|.pu<|.int (m:Int),some<|.ow<|xs.map .int,some<|.ow<|(rwF n v).map .int] Q:=λQ q=>by
  simp only[d6,j6]at q⊢;walk_at "u";rw[show atI [D.int d0,D.int d1,D.int d2,D.int d3] 0=some (.int d0)from cW (j:=0) rfl]
  exact q
 refine t0 _ ?_
 split
 ·rw[mT];refine c43 (t0:=0) (t1:=1) n (λj=>((rwF n v).map D.int).getD j .non) (λj=>((xs.map D.int).drop<|4+n).getD j .non) [s0,s1,some<|.pu<|aP p,some<|.pu<|.int (n:Int),s4,s5,some<|.ow<|[d0,d1,d2,d3].map .int,some<|.pu<|.int (m:Int),some<|.ow<|xs.map .int,some<|.pu<|.lst<|(rwF n v).map .int] (λQ' q=> ?_) ad
   (λx y l=>[x,y,some<|.ow l]) none none rfl (λ_ _ _ _ _=>rfl) (λ_ _ _=>⟨cQ _,Nat.succ_lt_succ<|cQ _⟩) (λ_ _ _ _ q=>q) (λ_ _ _ _=>rfl) (λj=> .int (v j+xs.getD (4+n+j) 0)) ?_ ?_
  ·walk_at "u"
   have ec:cutD (xs.map D.int) (some<|4+(n:Int)) none=(xs.map D.int).drop (4+n):=by
    have:=xC (xs.map D.int) (4+n) (by rw[aC];lia)
    rw[<-this];rfl
   rw[ec];rw[show min ((rwF n v).map D.int).length ((xs.map D.int).drop<|4+n).length=n by rw[aC,a90,nB,aC,xl];lia]
   exact q
  ·intro j l Q' hj q;have e1:((rwF n v).map D.int).getD j .non= .int (v j):=by
    rw[aG,r8 hj];rfl
   have e2:((xs.map D.int).drop<|4+n).getD j .non= .int (xs.getD (4+n+j) 0):=by
    have:4+n+j<xs.length:=ad
    rw[aG,List.getElem?_drop,bJ,aG,aJ this];rfl
   rw[e1,e2]at q⊢;walk_at "u";exact q
  ·rw[a40];refine dF0 (e:=21) rp hn rg ac (λj=> ?_) m1 m2 (h _)
   have a:=hv j;have b:=xb (4+n+j);have:(v j+xs.getD (4+n+j) 0).natAbs<=2^20+2^20:=aL (yA _ _) (Nat.add_le_add a b);exact aL this ac
 ·exact dF0 (e:=20) rp hn rg ac hv m1 m2 (h _)
theorem dB2 (a b:Int)(n:Nat):([D.int 4,D.int 2,D.int 59,D.int 46]++(replicate n [D.int a]).flatten)++(replicate n [D.int b]).flatten=([4,2,59,46]++replicate n a++replicate n b).map D.int:=by
 rw[u5,u5,bM,bM];rfl
theorem rd_b5 {E:UD}{p:List Int}{n m:Nat}{c d0 d1 d2 d3:Int}{s0 s1 s4 s8 s9:Option B}(rp:eE p)(hn:p.length=n+1)(rg:RG p)(m1:2<=m)(m2:m<200)
  (h: ∀a l,E.nx [s0,s1,some<|.pu<|aP p,some<|.pu<|.int (n:Int),s4,some<|.pu<|.int c,some<|.ow<|[d0,d1,d2,d3].map .int,some<|.pu<|.int (m:Int),a,some<|.pu<|.lst l]) :
  zM E [s0,s1,some<|.pu<|aP p,some<|.pu<|.int (n:Int),s4,some<|.pu<|.int c,some<|.ow<|[d0,d1,d2,d3].map .int,some<|.pu<|.int (m:Int),s8,s9]:=by
 have lo:=rp.ok.lo;have hi:=rp.ok.hi;have n2:2<=n:=ad
 have n4:n<=4:=ad
 unfold zM;rw[aN];walk_at "u";rw[cZ,dB2,u5,u5];have wl:([4,2,59,46]++replicate n 7++replicate n (m:Int)).length=4+n+n:=by simp;lia
 have ww: ∀w∈([4,2,59,46]++replicate n 7++replicate n (m:Int)),0<w/\w<200:=λw hw=>by
  rcases bC.mp hw with hw|hw
  ·rcases bC.mp hw with hw|hw
   ·have:w=4\/w=2\/w=59\/w=46:=by simpa using hw
    lia
   ·have:=(List.mem_replicate.mp hw).2
    lia
  ·have:=(List.mem_replicate.mp hw).2
   lia
 have big:(100:Nat)<=sizeLine:=ac
 refine⟨ac,ac,⟨ad,ad,ad⟩,by simp;lia,ac,⟨ad,ad,ad⟩,by simp;lia,c,_,999999739,rfl,by rw[wl];lia,ac,λw hw=>⟨(ww w hw).1,by have:=(ww w hw).2;lia⟩,λxs hx=> ?_⟩
 have xl:xs.length=4+n+n:=hx.1.trans wl;have xb: ∀i,(xs.getD i 0).natAbs<=200:=λi=>by
  by_cases hi:i<xs.length
  ·have hw:i< ([4,2,59,46]++replicate n 7++replicate n (m:Int)).length:=by rw[wl,<-xl];exact hi
   have b:=hx.2 i _ _ (aJ hi) (aJ hw);have c:=ww _ (bT hw);rw[aG,aJ hi];show(xs[i]).natAbs<=200
   lia
  ·rw[aG,mW ad]
   exact eO _
 dsimp only;unfold b58;rw[aN,mT];refine gL (t0:=0) n (λj=>(((xs.map D.int).drop 4).take n).getD j .non) [s0,s1,some<|.pu<|aP p,some<|.pu<|.int (n:Int),s4,some<|.pu<|.int c,some<|.ow<|[d0,d1,d2,d3].map .int,some<|.pu<|.int (m:Int),some<|.ow<|xs.map .int,s9] (λQ' q=> ?_) ad
  (λx l=>[x,some<|.pu<|.int (m:Int),some<|.ow l]) none rfl (λ_ _ _=>rfl) (λ_ _=>cQ _) (λ_ _ _ q=>q) (λ_ _ _=>rfl) (λj=> .int ((m:Int)*(xs.getD (4+j) 0-3))) ?_ ?_
 ·walk_at "u"
  have ec:cutD (xs.map D.int) (some 4) (some<|4+(n:Int))=((xs.map D.int).drop 4).take n:=by
   rw[<-cA1 (xs.map D.int) 4 n (by rw[aC];lia)]
   rfl
  rw[ec,show(((xs.map D.int).drop 4).take n).length=n by rw[pR,nB,aC,xl];lia]
  exact q
 ·intro j l Q' hj q;have e2:(((xs.map D.int).drop 4).take n).getD j .non= .int (xs.getD (4+j) 0):=by
   have:4+j<xs.length:=ad
   rw[aG,List.getElem?_take_of_lt hj,List.getElem?_drop,bJ,aG,aJ this];rfl
  rw[e2]at q⊢;walk_at "u";exact⟨cmL ad ad,q⟩
 ·rw[a40];refine rd_b7 rp hn rg (λj=> ?_) m1 m2 xl (λi=>aL (xb i) ac) λl=>h _ l
  rw[fW];have a:=xb (4+j);exact aL (jV (show((m:Int)).natAbs<=200 by lia)<|show(xs.getD (4+j) 0-3).natAbs<=300 by lia) ac
theorem rd_b0 {E:UD}{ns:List Int}{C:Addr}{p:List Int}{n k:Nat}{s5 s6 s7 s8 s9:Option B}(hl:ns.length<=63)(rp:eE p)(hn:p.length=n+1)(rg:RG p)(hk:k<2)
  (h: ∀a b c d e,E.nx [some<|.pu<|.rol<|ns.map .int,some<|.pu<|uH C p,some<|.pu<|aP p,some<|.pu<|.int (n:Int),some<|.pu<|.int (k:Int),a,b,c,d,e]) :
  aI9 E [some<|.pu<|.rol<|ns.map .int,some<|.pu<|uH C p,some<|.pu<|aP p,some<|.pu<|.int (n:Int),some<|.pu<|.int (k:Int),s5,s6,s7,s8,s9]:=by
 have lo:=rp.ok.lo;have hi:=rp.ok.hi;unfold aI9;rw[aN];walk_at "u";refine⟨ns,3+(k:Int),rfl,hl,ad,ad,λc=> ?_⟩
 try dsimp only
 unfold b62;rw[aN];walk_at "u";refine⟨ac,c,[4,2,59,46],999999739,rfl,ac,ac,ac,λxs hx=> ?_⟩
 obtain⟨d0,d1,d2,d3,rfl⟩: ∃d0 d1 d2 d3,xs=[d0,d1,d2,d3]:=by
  match xs,hx.1 with
  | [a,b,c,d],_=>exact⟨a,b,c,d,rfl⟩
 have b2:=hx.2 2 d2 59 rfl rfl;have b3:=hx.2 3 d3 46 rfl rfl;try dsimp only
 unfold b61;rw[aN];simp only[d6,j6];walk_at "u";rw[show atI [D.int d0,D.int d1,D.int d2,D.int d3] 2=some (.int d2)from cW (j:=2) rfl]
 dsimp only;unfold b60;rw[aN,mT,iV,iW,bM0 (C:=C) (p:=p) rfl];refine⟨_,rfl,?_⟩;dsimp only[set_cons_zero,set_cons_succ];generalize eP:prL.filter (sqB<|dM 4<|cO p)=P;have pm: ∀q∈P,q∈prL:=λq hq=>by rw[<-eP]at hq;exact(nE.mp hq).1
 have plen:P.length<=46:=by rw[<-eP,<-pr_len];exact List.length_filter_le _ _
 have go: ∀m:Int,2<=m->m<200->zM E [some<|.pu<|.rol<|ns.map .int,some<|.pu<|uH C p,some<|.pu<|aP p,some<|.pu<|.int (n:Int),some<|.pu<|.int (k:Int),some<|.pu<|.int c,some<|.ow [D.int d0,D.int d1,D.int d2,D.int d3],some<|.pu<|.int m,some<|.ow<|P.map .int,s9]:=λm m1 m2=>by
  have:=rd_b5 (E:=E) (s0:=some (.pu<|.rol<|ns.map .int)) (s1:=some (.pu<|uH C p)) (s4:=some (.pu<|.int (k:Int))) (c:=c) (d0:=d0) (d1:=d1) (d2:=d2) (d3:=d3) (s8:=some (.ow<|P.map .int)) (s9:=s9) rp hn rg (m:=m.toNat) ad ad λa l=>h _ _ _ _ _
  rw[pK ad]at this
  exact this
 unfold b59;rw[aN];walk_at "u";rw[show atI [D.int d0,D.int d1,D.int d2,D.int d3] 1=some (.int d1)from cW (j:=1) rfl,show atI [D.int d0,D.int d1,D.int d2,D.int d3] 3=some (.int d3)from cW (j:=3) rfl,aC]
 dsimp only;split
 ·split
  ·have Pl:0<P.length:=ad
   have r0:=cR d3 (show(P.length:Int)≠0 by lia)
   have r1:=cP d3 (show 0< (P.length:Int)by lia)
   have hj:(d3%(P.length:Int)).toNat<P.length:=ad
   have ea:=bJ9 hj;rw[bN,pK r0]at ea;rw[dL _ ad,ea]
   have pq:=a43 (pm _<|bT hj);exact⟨ad,go _ pq.lo pq.hi⟩
  ·exact go _ ad ad
 ·exact go _ ad ad
theorem rd_law: ∀ds Q,bD1 ds Q->bN3 {nx:=λ_=>Q (.pu .non),rt:=Q} (init ["s","a","p","n","k","c","d","m","f","x"] ds):=by
 rintro ds Q ⟨ns,rfl,hl,h⟩;unfold bN3;show(aS _ _:US) _ [some<|.pu<|.rol<|ns.map .int,none,none,none,none,none,none,none,none,none];rw[aN];walk_at "u";refine⟨ns,0,999999751,rfl,hl,ac,ac,λC p rp rg=> ?_⟩
 try dsimp only
 have lo:=rp.ok.lo;have hi:=rp.ok.hi;obtain⟨n,hn⟩: ∃n,p.length=n+1:=⟨p.length-1,ad⟩
 unfold bX2;rw[aN,mT,cI1 (C:=C) (p:=p) rfl];dsimp only[set_cons_zero,set_cons_succ];unfold bX1;rw[aN];simp only[aP];walk_at "u";rw[aC,show(p.length:Int)-1=(n:Int)by lia]
 change b63 _ [some<|.pu<|.rol<|ns.map .int,some<|.pu<|uH C p,some<|.pu<|aP p,some<|.pu<|.int (n:Int),none,none,none,none,none,none]
 unfold b63;rw[aN];refine bQ 2 (λi=> .int (0+(i:Int))) [some<|.pu<|.rol<|ns.map .int,some<|.pu<|uH C p,some<|.pu<|aP p,some<|.pu<|.int (n:Int),none,none,none,none,none,none] (λQ' q=> ?_)
  (λ_ ρ=> ∃k a b c d e,ρ=[some<|.pu<|.rol<|ns.map .int,some<|.pu<|uH C p,some<|.pu<|aP p,some<|.pu<|.int (n:Int),k,a,b,c,d,e]) ⟨none,none,none,none,none,none,rfl⟩ ?_ ?_
 ·walk_at "u"
  exact⟨⟨ac,ac⟩,q⟩
 ·rintro i ρ hi' ⟨k,a,b,c,d,e,rfl⟩;rw[bN];refine⟨ae,?_⟩
  dsimp only[set_cons_zero,set_cons_succ];exact rd_b0 hl rp hn rg hi' λ_ _ _ _ _=>⟨_,_,_,_,_,_,rfl⟩
 ·rintro ρ ⟨k,a,b,c,d,e,rfl⟩;dsimp only;unfold bX0;walk_at "u";exact h
abbrev oU:=rS
abbrev oV:=rT
theorem a21: ∀ds Q,oU ds Q->oV {nx:=λ_=>Q (.pu .non),rt:=Q} (init ["f","p","u","s","total","v","w"] ds):=aW7
theorem cJ2:bootBuiltins "sorted"=some (.builtin "sorted"):=af
end M
end
namespace M
open PySem PySem.Spec PyProof.Rows L2
set_option maxHeartbeats 4000000
noncomputable def top (i:Nat):Stmt:=PySem.Challenge.pw_ringhouse_k17_whole_no_quotient.main.body.getD i (.Pass ⟨0,0,0,0⟩)
noncomputable abbrev lP:Stmt:=top 9
noncomputable abbrev qH:List Str:=["row"]
noncomputable abbrev vI:List Str:=["row"]
noncomputable abbrev nQ:Stmt:=top 10
noncomputable abbrev uJ:List Str:=["row"]
noncomputable abbrev sI:List Str:=["row"]
noncomputable abbrev bN4:Stmt:=top 12
noncomputable abbrev cC6:List Str:=["row","size"]
noncomputable abbrev bX3:List Str:=["row"]
noncomputable abbrev aJ0:Stmt:=top 13
noncomputable abbrev b64:List Str:=["row","size"]
noncomputable abbrev aV3:List Str:=["row","size"]
noncomputable abbrev rX:Stmt:=top 14
noncomputable abbrev a13:List Str:=["f","g","degree","size","left","quotient","at","many","j","c"]
noncomputable abbrev xG:List Str:=["f","g"]
noncomputable abbrev a64:Stmt:=top 15
noncomputable abbrev aV4:List Str:=["f","z","value","c"]
noncomputable abbrev aO0:List Str:=["f","z"]
noncomputable abbrev b65:Stmt:=top 18
noncomputable abbrev bX4:List Str:=["m","guess","better"]
noncomputable abbrev bG1:List Str:=["m"]
noncomputable abbrev qI:Stmt:=top 19
noncomputable abbrev xH:List Str:=[]
noncomputable abbrev vJ:List Str:=[]
noncomputable abbrev aS8:Stmt:=top 21
noncomputable abbrev bG2:List Str:=["poly","pair"]
noncomputable abbrev b66:List Str:=["poly"]
noncomputable abbrev zN:Stmt:=top 22
noncomputable abbrev aO1:List Str:=["m","found","d"]
noncomputable abbrev aB7:List Str:=["m"]
noncomputable abbrev oK:Stmt:=top 23
noncomputable abbrev vK:List Str:=["poly","z","left"]
noncomputable abbrev uK:List Str:=["poly"]
noncomputable abbrev kY:Stmt:=top 24
noncomputable abbrev rH:List Str:=["poly","v","w","u","s"]
noncomputable abbrev oW:List Str:=["poly"]
noncomputable abbrev zO:Stmt:=top 26
noncomputable abbrev aO2:List Str:=["total","times","square","gap"]
noncomputable abbrev aB8:List Str:=["total","times"]
noncomputable abbrev aZ3:Stmt:=top 28
noncomputable abbrev cC7:List Str:=["table","total","sign","i"]
noncomputable abbrev jG:List Str:=["table"]
noncomputable abbrev vL:Stmt:=top 29
noncomputable abbrev a65:List Str:=["table","i"]
noncomputable abbrev aO3:List Str:=["table","i"]
noncomputable abbrev vM:Stmt:=top 31
noncomputable abbrev a66:List Str:=["poly","n","sums"]
noncomputable abbrev aO4:List Str:=["poly"]
noncomputable abbrev qU:Stmt:=top 32
noncomputable abbrev wF:List Str:=["poly","many","n","sums","k","total"]
noncomputable abbrev a67:List Str:=["poly","many"]
noncomputable abbrev sR:Stmt:=top 34
noncomputable abbrev zP:List Str:=["row","p"]
noncomputable abbrev aB9:List Str:=["row","p"]
noncomputable abbrev uL:Stmt:=top 35
noncomputable abbrev a68:List Str:=["a","b","p","low","turn","quotient","rest"]
noncomputable abbrev a14:List Str:=["a","b","p"]
noncomputable abbrev zQ:Stmt:=top 36
noncomputable abbrev aJ1:List Str:=["f","k","p"]
noncomputable abbrev aV5:List Str:=["f","k","p"]
noncomputable abbrev uM:Stmt:=top 37
noncomputable abbrev a69:List Str:=["c","p","value","step"]
noncomputable abbrev a15:List Str:=["c","p"]
noncomputable abbrev zR:Stmt:=top 39
noncomputable abbrev aO5:List Str:=["poly","p","parts","left"]
noncomputable abbrev aC0:List Str:=["poly","p"]
noncomputable abbrev wG:Stmt:=top 40
noncomputable abbrev aC1:List Str:=["f","p","parts","left","c","often"]
noncomputable abbrev a70:List Str:=["f","p"]
noncomputable abbrev kB:Stmt:=top 41
noncomputable abbrev nR:List Str:=["f","p","pair"]
noncomputable abbrev sJ:List Str:=["f","p"]
noncomputable abbrev kZ:Stmt:=top 42
noncomputable abbrev rJ:List Str:=["f","p","u","s","total","v","w"]
noncomputable abbrev oX:List Str:=["f","p"]
noncomputable abbrev qV:Stmt:=top 45
noncomputable abbrev wH:List Str:=["poly","size"]
noncomputable abbrev a71:List Str:=["poly","size"]
noncomputable abbrev sS:Stmt:=top 46
noncomputable abbrev zS:List Str:=["poly","p"]
noncomputable abbrev aC2:List Str:=["poly","p"]
noncomputable abbrev oM:Stmt:=top 47
noncomputable abbrev uN:List Str:=["poly","rows","p","parts","g","often","rest"]
noncomputable abbrev a16:List Str:=["poly","rows"]
noncomputable abbrev iY:Stmt:=top 51
noncomputable abbrev vN:List Str:=["poly","pair"]
noncomputable abbrev uO:List Str:=["poly"]
noncomputable abbrev jH:Stmt:=top 52
noncomputable abbrev uP:List Str:=["poly","size","found","p","f"]
noncomputable abbrev a17:List Str:=["poly","size"]
noncomputable abbrev c67:Stmt:=top 54
noncomputable abbrev cY0:List Str:=["_law_script","_law_k"]
noncomputable abbrev cC8:List Str:=["_law_script","_law_k"]
noncomputable abbrev bN5:Stmt:=top 55
noncomputable abbrev cC9:List Str:=["_law_cell_here","_law_k","_law_prime","_law_far"]
noncomputable abbrev bX5:List Str:=["_law_cell_here","_law_k","_law_prime"]
noncomputable abbrev bN6:Stmt:=top 56
noncomputable abbrev cD0:List Str:=["_law_cell_here","_law_widths","_law_prime","_law_left","_law_found","_law_k"]
noncomputable abbrev bX6:List Str:=["_law_cell_here","_law_widths","_law_prime"]
noncomputable abbrev aS9:Stmt:=top 57
noncomputable abbrev bG3:List Str:=["_law_poly_here","_law_s","_law_row","_law_low","_law_at"]
noncomputable abbrev b67:List Str:=["_law_poly_here","_law_s"]
noncomputable abbrev bN7:Stmt:=top 58
noncomputable abbrev c68:List Str:=["_law_cell_here","_law_prime","_law_deep","_law_wide","_law_found"]
noncomputable abbrev cD1:List Str:=["_law_cell_here","_law_prime"]
noncomputable abbrev zT:Stmt:=top 59
noncomputable abbrev aO6:List Str:=["_law_cell_here","_law_known"]
noncomputable abbrev aC3:List Str:=["_law_cell_here"]
noncomputable abbrev c69:Stmt:=top 60
noncomputable abbrev cY1:List Str:=["_law_script","_law_k","_law_prime","_law_found","_law_j"]
noncomputable abbrev cD2:List Str:=["_law_script","_law_k","_law_prime"]
noncomputable abbrev bN8:Stmt:=top 61
noncomputable abbrev cD3:List Str:=["_law_poly_here","_law_x","_law_y","_law_many","_law_raw","_law_i","_law_j","_law_k","_law_at"]
noncomputable abbrev bX7:List Str:=["_law_poly_here","_law_x","_law_y"]
noncomputable abbrev aO7:Stmt:=top 62
abbrev b68:List Str:=["_law_poly_here","_law_x","_law_many","_law_turn","_law_rows","_law_row","_law_k"]
abbrev bG4:List Str:=["_law_poly_here","_law_x"]
noncomputable abbrev b69:Stmt:=top 63
abbrev c70:List Str:=["_law_rows","_law_total","_law_i","_law_minor"]
abbrev lQ:List Str:=["_law_rows"]
noncomputable abbrev bX8:Stmt:=top 64
abbrev cD4:List Str:=["_law_poly_here","_law_x","_law_many","_law_table_here","_law_picks","_law_i","_law_places","_law_pick","_law_minor","_law_sign","_law_at"]
abbrev cY2:List Str:=["_law_poly_here","_law_x"]
noncomputable abbrev aJ2:Stmt:=top 65
abbrev b70:List Str:=["_law_poly_here","_law_x","_law_m","_law_places","_law_far","_law_k"]
abbrev aV6:List Str:=["_law_poly_here","_law_x","_law_m"]
noncomputable abbrev a92:Stmt:=top 66
noncomputable abbrev aT0:List Str:=["_law_amount","_law_found","_law_p"]
noncomputable abbrev b71:List Str:=["_law_amount"]
noncomputable abbrev aC4:Stmt:=top 67
noncomputable abbrev bX9:List Str:=["_law_script","_law_ring_here","_law_poly_here","_law_many","_law_k","_law_cell_here","_law_deep","_law_m","_law_found","_law_x"]
noncomputable abbrev PP_law:List Str:=["_law_script"]
local macro_rules| `(tactic| walk_at "s")=> `(tactic| exact⟨rfl,rfl,rfl,by decide +kernel,rfl,by decide +kernel,by decide +kernel⟩)
theorem aO8:b6 qH vI (aE lP):=by walk_at "s"
theorem aA2:b6 uJ sI (aE nQ):=by walk_at "s"
theorem b72:b6 cC6 bX3 (aE bN4):=by walk_at "s"
theorem bY0:b6 b64 aV3 (aE aJ0):=by walk_at "s"
theorem eC:b6 a13 xG (aE rX):=by walk_at "s"
theorem sT:b6 aV4 aO0 (aE a64):=by walk_at "s"
theorem xI:b6 bX4 bG1 (aE b65):=by walk_at "s"
theorem aO9:b6 xH vJ (aE qI):=by walk_at "s"
theorem aJ3:b6 bG2 b66 (aE aS8):=by walk_at "s"
theorem wI:b6 aO1 aB7 (aE zN):=by walk_at "s"
theorem nS:b6 vK uK (aE oK):=by walk_at "s"
theorem gE:b6 rH oW (aE kY):=by walk_at "s"
theorem wJ:b6 aO2 aB8 (aE zO):=by walk_at "s"
theorem oN:b6 cC7 jG (aE aZ3):=by walk_at "s"
theorem bN9:b6 a65 aO3 (aE vL):=by walk_at "s"
theorem zU:b6 a66 aO4 (aE vM):=by walk_at "s"
theorem jI:b6 wF a67 (aE qU):=by walk_at "s"
theorem bA4:b6 zP aB9 (aE sR):=by walk_at "s"
theorem kE:b6 a68 a14 (aE uL):=by walk_at "s"
theorem bY1:b6 aJ1 aV5 (aE zQ):=by walk_at "s"
theorem mU:b6 a69 a15 (aE uM):=by walk_at "s"
theorem wK:b6 aO5 aC0 (aE zR):=by walk_at "s"
theorem iL:b6 aC1 a70 (aE wG):=by walk_at "s"
theorem sK:b6 nR sJ (aE kB):=by walk_at "s"
theorem eX:b6 rJ oX (aE kZ):=by walk_at "s"
theorem b73:b6 wH a71 (aE qV):=by walk_at "s"
theorem bA5:b6 zS aC2 (aE sS):=by walk_at "s"
theorem iR:b6 uN a16 (aE oM):=by walk_at "s"
theorem uQ:b6 vN uO (aE iY):=by walk_at "s"
theorem mV:b6 uP a17 (aE jH):=by walk_at "s"
theorem dB3:b6 cY0 cC8 (aE c67):=by walk_at "s"
theorem b74:b6 cC9 bX5 (aE bN5):=by walk_at "s"
theorem xJ:b6 cD0 bX6 (aE bN6):=by walk_at "s"
theorem zV:b6 bG3 b67 (aE aS9):=by walk_at "s"
theorem a93:b6 c68 cD1 (aE bN7):=by walk_at "s"
theorem wL:b6 aO6 aC3 (aE zT):=by walk_at "s"
theorem a94:b6 cY1 cD2 (aE c69):=by walk_at "s"
theorem rK:b6 cD3 bX7 (aE bN8):=by walk_at "s"
theorem qJ:b6 b68 bG4 (aE aO7):=by walk_at "s"
theorem vO:b6 c70 lQ (aE b69):=by walk_at "s"
theorem rY:b6 cD4 cY2 (aE bX8):=by walk_at "s"
theorem rL:b6 b70 aV6 (aE aJ2):=by walk_at "s"
theorem aJ4:b6 aT0 b71 (aE a92):=by walk_at "s"
theorem qK:b6 bX9 PP_law (aE aC4):=by walk_at "s"
noncomputable abbrev oO:Stmt:=(bJ8<|top 3).getD 0 (.Pass ⟨0,0,0,0⟩)
theorem bA6:b6 ["self","left","right"] ["self","left","right"] (aE oO):=by walk_at "s"
noncomputable abbrev uS:Stmt:=(bJ8<|top 5).getD 0 (.Pass ⟨0,0,0,0⟩)
theorem bY2:b6 ["self","prime","number"] ["self","prime","number"] (aE uS):=by walk_at "s"
noncomputable abbrev a72:Stmt:=(bJ8<|top 50).getD 0 (.Pass ⟨0,0,0,0⟩)
theorem cD5:b6 ["self","poly","size"] ["self","poly"] (aE a72):=by walk_at "s"
structure Zs (mg:Str->Option Value):Prop where
 z0:mg "len"=none
 z1:mg "all"=none
 z2:mg "abs"=none
 z3:mg "max"=none
 z4:mg "list"=none
 z5:mg "reversed"=none
 z6:mg "range"=none
 z7:mg "enumerate"=none
 z8:mg "tuple"=none
 z9:mg "sum"=none
 z10:mg "min"=none
 z11:mg "sorted"=none
 z12:mg "int"=none
 z13:mg "zip"=none
abbrev DT (P:Program)(w:World)(K:Frag)(mg:Str->Option Value)(base:Heap)(N:List Str)(q:Str)(t:Stmt)(k:Nat)(u:US):Prop:= ∀{f:Addr} {cdv:Value} {A:Around} {outer:List Env} {s:Shared} {H:Hp} {E:XK},hZ k (A.deeper<|envOfC q (aE t) s.heap.objs.size f cdv)->rN (tV CX0 P w K mg base N q (aE t) f cdv A outer s H E).nox (dQ t) u
section
variable (P:Program)(w:World)(K:Frag)(mg:Str->Option Value)(base:Heap)
abbrev aP0:=Fn P w K mg base "is_ring_poly" vI 1 oF
abbrev mI:=Fn P w K mg base "need_ring_poly" sI 2 hV
abbrev bY3:=Fn P w K mg base "cut" bX3 1 a41
abbrev bY4:=Fn P w K mg base "padded" aV3 1 a54
abbrev lU:=Fn P w K mg base "poly_parted" xG 2 gN
abbrev aP1:=Fn P w K mg base "poly_at" aO0 1 sP
abbrev cJ3:=Fn P w K mg base "root" bG1 1 aR9
abbrev vP:=Fn P w K mg base "small_primes" vJ 1 kM
abbrev c71:=Fn P w K mg base "apart" b66 4 aH7
abbrev aC5:=Fn P w K mg base "dividers" aB7 1 qT
abbrev aJ5:=Fn P w K mg base "line_and_rest" uK 3 nO
abbrev a22:=Fn P w K mg base "two_by_two_apart" oW 3 kG
abbrev bA7:=Fn P w K mg base "two_with" aB8 2 wB
abbrev cY3:=Fn P w K mg base "det" jG 5 (gS 4)
abbrev bO0:=Fn P w K mg base "without" aO3 1 zC
abbrev bO1:=Fn P w K mg base "measure" aO4 6 zF
abbrev b75:=Fn P w K mg base "root_sums" a67 1 u7
abbrev wM:=Fn P w K mg base "mod_poly" aB9 2 j9
abbrev aX0:=Fn P w K mg base "mod_parted" a14 4 rQ
abbrev bY5:=Fn P w K mg base "scaled" aV5 3 vF
abbrev aX1:=Fn P w K mg base "inverse_of" a15 1 rO
abbrev bA8:=Fn P w K mg base "split_by" aC0 6 vY
abbrev b76:=Fn P w K mg base "lines_out" a70 5 uA
abbrev aA3:=Fn P w K mg base "rootless_parts" sJ 2 mC
abbrev a23:=Fn P w K mg base "two_by_two_split" oX 1 oU
abbrev b77:=Fn P w K mg base "papers_of" a71 8 uE
abbrev bA9:=Fn P w K mg base "parts_at" aC2 7 w6
abbrev aX2:=Fn P w K mg base "outside_of" a16 3 rV
abbrev cD6:=Fn P w K mg base "_law_cell" cC8 1 aM0
abbrev bY6:=Fn P w K mg base "_law_mixed" bX5 1 a37
abbrev bY7:=Fn P w K mg base "_law_draws" bX6 2 oE
abbrev c72:=Fn P w K mg base "_law_shifted" b67 1 zJ
abbrev dB4:=Fn P w K mg base "_law_poly" cD1 3 bL6
abbrev bB0:=Fn P w K mg base "_law_known_ring" aC3 2 wD
abbrev dB5:=Fn P w K mg base "_law_ring" cD2 12 bL7
abbrev cY4:=Fn P w K mg base "_law_times" bX7 1 b40
abbrev cJ4:=Fn P w K mg base "_law_table" bG4 2 aS6
abbrev dB6:=Fn P w K mg base "_law_det" lQ 5 (jC 4)
abbrev TF_own:=Fn P w K mg base "_law_own" cY2 6 c64
abbrev bY8:=Fn P w K mg base "_law_whole_by" aV6 7 a62
abbrev c73:=Fn P w K mg base "_law_squared" b71 1 aI3
end
section
variable {P:Program}{w:World}{K:Frag}{mg:Str->Option Value}{base:Heap}
theorem aJ6 (Z:Zs mg){qL:Tok}(gO:mg "GREATEST_PLACE"=some (.int 499 qL)):DT P w K mg base qH "is_ring_poly" lP 0 oG:=λhr=>
 (oC (PUW.pt<|cN3 (kF c92 (dZ (cF 0) rfl Z.z0) aF)<|cN3 (kF aU2 (dZ (cF 0) rfl Z.z0) aF)<|d27<|kF c93 (fH (cF 0)<|oA aF) aF) (iP bQ5)<|iP<|kW (bI5 rfl) rfl Z.z1 bI6 (aH (tZ ["c",".acc"] (aE lP).names qH (iQ<|aR 0) (λ_ _ _ _ _ _=>i5) λ_ _ _ _ _ _=>(cQ9 dD4 (kW c20 rfl Z.z2 c40 (aU 0 aA))<|c95 rfl gO)) aA))
theorem a73 (Z:Zs mg)(qM:aP0 P w K mg base):DT P w K mg base uJ "need_ring_poly" nQ 1 lZ:=λhr=>
 (bH<|aW4 (d28<|cN2<|gC qM hr<|aU 0 aA)<|bH bQ8)
theorem cJ5 (Z:Zs mg):DT P w K mg base cC6 "cut" bN4 0 b24:=λhr=>
 (bW 1 b72.nd (dZ (cF 0) rfl Z.z0)<|bP (b01 jU (PUW.pt<|a86 (kF aU2 (aR 1) aF)<|wZ<|kF kL (fH (cF 0)<|aK bV (aR 1) aF) aF)<|bH<|us_g 1 b72.nd aF iu_sub)<|iP<|cG1 (aR 0) mO<|gZ<|aR 1)
theorem bO2 (Z:Zs mg):DT P w K mg base b64 "padded" aJ0 0 a55:=λhr=>
 (iP<|aK cN (aR 0)<|aK d56 (fY<|bE aA)<|aK bV (aR 1)<|dZ (cF 0) rfl Z.z0)
theorem aP2 (Z:Zs mg)(zY:bY3 P w K mg base):DT P w K mg base a13 "poly_parted" rX 1 qD:=λhr=>
 (bW 2 eC.nd (aK bV (dZ (cF 1) rfl Z.z0) aF)<|bW 3 eC.nd (kW (cu_max rfl) rfl Z.z3 bt_max (bE<|aH (aK bV (dZ (cF 0) rfl Z.z0)<|aR 2) aA))<|bW 4 eC.nd (fK bI1 rfl Z.z4 bK1 (aU 0 aA))<|bW 5 eC.nd (aK cH (dP<|bE aA)<|aR 3)<|bP (r6 6 eC.nd (d50 rfl Z.z5 rfl Z.z6 (aU 3 aA))<|bW 7 eC.nd (fH (cF 4)<|aK cN (aR 6)<|aR 2)<|bP (tX 5 (pv 5) (aR 7)<|aR 6)<|bH<|aQ1 jU rfl (d49 (by rfl) Z.z7<|aU 1 aA) (a26 rfl (gR 8 (dY eC.nd rfl (Or.inl rfl))<|gR 9 (dY eC.nd rfl (Or.inl rfl)) vA) (fN<|fN qZ)) (bH<|d48 4 (pv 4) (aK cN (aR 6)<|aR 8) (aK cH (aR 7)<|aR 9) cL4))<|iP<|fY<|aH (gC zY hr<|aH (fK jE rfl Z.z8 jF (aU 5 aA)) aA)<|aH (gC zY hr<|aH (fK jE rfl Z.z8 jF (aU 4 aA)) aA) aA)
theorem bB1 (Z:Zs mg):DT P w K mg base aV4 "poly_at" a64 0 zI:=λhr=>
 (bW 2 sT.nd aF<|bP (r6 3 sT.nd (d55 rfl Z.z5 (aU 0 aA))<|bH<|aW3 2 sT.nd<|aK cN (aK cH (aR 2)<|aR 1)<|aR 3)<|bH<|lF 2<|pv 2)
theorem c74 (Z:Zs mg):DT P w K mg base bX4 "root" b65 0 aS0:=λhr=>
 (bW 1 xI.nd (aR 0)<|bW 2 xI.nd (aK aH1 (aK cN (aR 0) aF) aF)<|bP (b01 jU (kF c92 (aR 2)<|aR 1)<|bW 1 xI.nd (aR 2)<|bH<|aW3 2 xI.nd<|aK aH1 (aK cN (aR 1)<|aK aH1 (aR 0)<|aR 1) aF)<|bH<|lF 1<|pv 1)
theorem aJ7 (Z:Zs mg){jJ:Addr}(iN:mg "SMALL_PRIMES"=some (.ref jJ))(uT:KT K jJ (T_SMALL_PRIMES.map V.int)):DT P w K mg base xH "small_primes" qI 0 oJ:=λhr=>
 (iP<|fK bI1 rfl Z.z4 bK1 (aH (d57 rfl iN uT) aA))
theorem bY9 (Z:Zs mg)(dJ:mI P w K mg base)(oP:aJ5 P w K mg base)(l6:a22 P w K mg base):DT P w K mg base bG2 "apart" aS8 3 aH8:=λhr=>
 (bP (bI7<|gC dJ hr<|aU 0 aA)<|bW 1 aJ3.nd (gC oP hr<|aU 0 aA)<|oC (PUW.pt<|a86 (bI9<|aR 1)<|wZ<|kF kL (dZ (cF 0) rfl Z.z0) aF) (bH<|aW3 1 aJ3.nd<|gC l6 hr<|aU 0 aA)<|bH<|lF 1<|pv 1)
theorem b78 (Z:Zs mg):DT P w K mg base aO1 "dividers" zN 0 wA:=λhr=>
 (oC (kF kL (aR 0) aF) (iP<|dP<|bE aA)<|bW 1 wI.nd (dP aA)<|bP (r6 2 wI.nd (sV rfl Z.z6 (bE<|aH (aK cN (kW c20 rfl Z.z2 c40 (aU 0 aA)) aF) aA))<|bH<|aW4 (kF kL (aK gX (aR 0)<|aR 2) aF)<|bP (lJ 1 (pv 1)<|aR 2)<|bH<|lJ 1 (pv 1)<|oA<|aR 2)<|bH<|lF 1<|pv 1)
theorem aA4 (Z:Zs mg)(lW:aC5 P w K mg base)(nZ:aP1 P w K mg base)(cX:lU P w K mg base):DT P w K mg base vK "line_and_rest" oK 2 nP:=λhr=>
 (bP (r6 1 nS.nd (iQ<|gC lW hr<|aH (fH (cF 0) aF) aA)<|bH<|aW4 (kF kL (gC nZ hr<|aU 0<|aU 1 aA) aF)<|bW 2 nS.nd (fY<|aL3 (oA<|aR 1)<|bE aA)<|iP<|fY<|aU 2<|aH (fH (aA6<|gC cX hr<|aU 0<|aU 2 aA) aF) aA)<|iP aZ9)
theorem zW (Z:Zs mg)(lW:aC5 P w K mg base)(zZ:bA7 P w K mg base):DT P w K mg base rH "two_by_two" kY 2 kH:=λhr=>
 (bP (r6 1 gE.nd (iQ<|gC lW hr<|aH (fH (cF 0) aF) aA)<|bW 2 gE.nd (aK aH1 (fH (cF 0) aF)<|aR 1)<|bH<|r6 3 gE.nd (iQ<|gC zZ hr<|aH (fH (cF 0) aF)<|aH (aK bV (aK bV (fH (cF 0) aF)<|aR 1)<|aR 2) aA)<|bW 4 gE.nd (aK bV (fH (cF 0) aF)<|aR 3)<|bH<|aW4 (kF kL (aK cN (aK cH (aR 3)<|aR 2)<|aK cH (aR 1)<|aR 4)<|fH (cF 0) aF)<|iP<|fY<|sG (fY<|aU 1<|aU 3<|bE aA)<|sG (fY<|aU 2<|aU 4<|bE aA) aA)<|iP aZ9)
theorem b79 (Z:Zs mg)(b84:cJ3 P w K mg base):DT P w K mg base aO2 "two_with" zO 1 wC:=λhr=>
 (bW 2 wJ.nd (aK bV (aK cH (aR 0)<|aR 0)<|aK cH aF<|aR 1)<|oC (kF c92 (aR 2) aF) (iP<|dP aA)<|bW 3 wJ.nd (gC b84 hr<|aU 2 aA)<|oC (kF c93 (aK cH (aR 3)<|aR 3)<|aR 2) (iP<|dP aA)<|iP<|dP<|aH (aK aH1 (aK cN (aR 0)<|aR 3) aF)<|aH (aK aH1 (aK bV (aR 0)<|aR 3) aF) aA)
theorem a95 (Z:Zs mg){k:Nat}{gS:Φ}(hk:1<=k)(aP5:Fn P w K mg base "det" jG k gS)(o7:bO0 P w K mg base):DT P w K mg base cC7 "det" aZ3 k (b21 gS):=λhr=>
 (bP (c90 (aK8 kL (dZ (lY 0<|pv 0) rfl Z.z0) aF<|aZ6 _) (bH<|c17<|a27 (aA6<|a27 (lY 0<|pv 0) aF λ_ _=>rfl) aF λ_ _=>rfl) bH7)<|bP (vU 1 oN.nd rfl (Or.inl rfl) aF (hl:=il (n:=4) rfl ac))<|bP (vU 2 oN.nd rfl (Or.inl rfl) aF (hl:=il (n:=4) rfl ac))<|bP (aQ1 jU rfl (fL rfl Z.z6 (aH (dZ (lY 0<|pv 0) rfl Z.z0) aA)) (yV 3<|dY oN.nd rfl (Or.inl rfl)) (bP (cN8 1 oN.nd rfl (Or.inl rfl) (aK cH (aK cH (fA 2<|pv 2)<|a27 (aA6<|a27 (lY 0<|pv 0) (fA 3<|pv 3) λ_ _=>rfl) aF λ_ _=>rfl)<|aA8 aP5 hr (aB _) rfl (aH (aA8 o7 hr hk rfl (aH (fA 0<|pv 0)<|aH (fA 3<|pv 3) aA)) aA)) c19 (hl:=il (n:=4) rfl ac))<|bH<|vU 2 oN.nd rfl (Or.inl rfl) (oA<|fA 2<|pv 2) (hl:=il (n:=4) rfl ac)))<|bH<|lF 1<|pv 1)
theorem bB2 (Z:Zs mg):DT P w K mg base a65 "without" vL 0 zD:=λhr=>
 (iP<|fK jE rfl Z.z8 jF (aH (tZ ["row",".acc"] (aE vL).names a65 (iQ<|aK cN (kD (cF 0) mO<|gZ<|aR 1)<|kD (cF 0) (gZ<|aK cN (aR 1) aF) mO) (λ_ _ _ _ _ _=>i5) λ_ _ _ _ _ _=>(kD (cF 0) (gZ aF) mO)) aA))
theorem bB3 (Z:Zs mg)(dJ:mI P w K mg base)(wN:b75 P w K mg base)(aP5:cY3 P w K mg base):DT P w K mg base a66 "measure" vM 5 zG:=λhr=>
 (bP (bI7<|gC dJ hr<|aU 0 aA)<|bW 1 zU.nd (aK bV (dZ (cF 0) rfl Z.z0) aF)<|bW 2 zU.nd (gC wN hr<|aU 0<|aH (aK bV (aK cH aF<|aR 1) aF) aA)<|iP<|gC aP5 hr<|aH (fK jE rfl Z.z8 jF (aH (tZ ["i","sums","n",".acc"] (aE vM).names a66 (fL rfl Z.z6 (aU 1 aA)) (λ_ _ _ _ _ _=>i5) λ_ _ _ _ _ _=>(fK jE rfl Z.z8 jF (aH (kD (cF 1) (gZ<|aR 0)<|gZ<|aK cN (aR 0)<|aR 2) aA))) aA)) aA)
theorem aX3 (Z:Zs mg):DT P w K mg base wF "root_sums" qU 0 u8:=λhr=>
 (bW 2 jI.nd (aK bV (dZ (cF 0) rfl Z.z0) aF)<|bW 3 jI.nd (dP<|aU 2 aA)<|bP (r6 4 jI.nd (sV rfl Z.z6 (bE<|aU 1 aA))<|bW 5 jI.nd (kW (cu_sum rfl) rfl Z.z9 bt_sum (aH (tZ ["i","poly","n","sums","k",".acc"] (aE qU).names wF (sV rfl Z.z6 (bE<|aH (aK cN (kW (cu_min rfl) rfl Z.z10 bt_min (aH (aK bV (aR 4) aF)<|aU 2 aA)) aF) aA)) (λ_ _ _ _ _ _=>i5) λ_ _ _ _ _ _=>(aK cH (fH (cF 1)<|aK bV (aR 2)<|aR 0)<|fH (cF 3)<|aK bV (aR 4)<|aR 0)) aA))<|oC (kF dD4 (aR 4)<|aR 2) (bH<|us_g 5 jI.nd (aK cH (aR 4)<|fH (cF 0)<|aK bV (aR 2)<|aR 4) c19)<|bH<|lJ 3 (pv 3)<|oA<|aR 5)<|bH<|lF 3<|pv 3)
theorem b80 (Z:Zs mg)(zY:bY3 P w K mg base):DT P w K mg base zP "mod_poly" sR 1 vX:=λhr=>
 (iP<|gC zY hr<|aH (fK jE rfl Z.z8 jF (aH (tZ ["c","p",".acc"] (aE sR).names zP (iQ<|aR 0) (λ_ _ _ _ _ _=>i5) λ_ _ _ _ _ _=>(aK gX (aR 0)<|aR 1)) aA)) aA)
theorem aT1 (Z:Zs mg)(fZ:wM P w K mg base)(uU:aX1 P w K mg base)(cX:lU P w K mg base)(a00:bY5 P w K mg base):DT P w K mg base a68 "mod_parted" uL 3 rR:=λhr=>
 (bW 3 kE.nd (gC fZ hr<|aU 1<|aU 2 aA)<|bW 4 kE.nd (gC uU hr<|aH (fH (cF 3)<|oA aF)<|aU 2 aA)<|bP (c18 (gC cX hr<|aH (gC fZ hr<|aU 0<|aU 2 aA)<|aH (gC a00 hr<|aU 3<|aU 4<|aU 2 aA) aA)<|a26 rfl (gR 5 (dY kE.nd rfl (Or.inl rfl))<|gR 6 (dY kE.nd rfl (Or.inl rfl)) vA) (fN<|fN qZ))<|iP<|fY<|aH (gC a00 hr<|aU 5<|aU 4<|aU 2 aA)<|aH (gC fZ hr<|aU 6<|aU 2 aA) aA)
theorem bO3 (Z:Zs mg)(fZ:wM P w K mg base):DT P w K mg base aJ1 "scaled" zQ 2 a42:=λhr=>
 (iP<|gC fZ hr<|aH (fK jE rfl Z.z8 jF (aH (tZ ["c","k",".acc"] (aE zQ).names aJ1 (iQ<|aR 0) (λ_ _ _ _ _ _=>i5) λ_ _ _ _ _ _=>(aK cH (aR 1)<|aR 0)) aA))<|aU 2 aA)
theorem aT2 (Z:Zs mg):DT P w K mg base a69 "inverse_of" uM 0 rP:=λhr=>
 (bW 2 mU.nd aF<|bP (r6 3 mU.nd (fL rfl Z.z6 (aH (aK bV (aR 1) aF) aA))<|bH<|aW3 2 mU.nd<|aK gX (aK cH (aR 2)<|aR 0)<|aR 1)<|bH<|lF 2<|pv 2)
theorem b81 (Z:Zs mg)(iD:vP P w K mg base)(wO:b76 P w K mg base)(fZ:wM P w K mg base)(nT:aA3 P w K mg base):DT P w K mg base aO5 "split_by" zR 5 vZ:=λhr=>
 (oC (aK8 cO8 (aR 1) (cO5 iD hr ac rfl) rfl) (bH bQ8)<|bP (c18 (gC wO hr<|aH (gC fZ hr<|aU 0<|aU 1 aA)<|aU 1 aA)<|a26 rfl (gR 2 (dY wK.nd rfl (Or.inl rfl))<|gR 3 (dY wK.nd rfl (Or.inl rfl)) vA) (fN<|fN qZ))<|iP<|aK cN (aR 2)<|gC nT hr<|aU 3<|aU 1 aA)
theorem aX4 (Z:Zs mg)(nZ:aP1 P w K mg base)(uW:aX0 P w K mg base):DT P w K mg base aC1 "lines_out" wG 4 uB:=λhr=>
 (bW 2 iL.nd (dP aA)<|bW 3 iL.nd (aR 0)<|bP (r6 4 iL.nd (fL rfl Z.z6 (aU 1 aA))<|bW 5 iL.nd aF<|bP (b01 jU (kF kL (aK gX (gC nZ hr<|aU 3<|aL3 (oA<|aR 4) aA)<|aR 1) aF)<|bW 3 iL.nd (fH (aA6<|gC uW hr<|aU 3<|sG (fY<|aU 4<|bE aA)<|aU 1 aA) aF)<|bH<|us_g 5 iL.nd aF c19)<|bH<|aW4 (kF aU2 (aR 5) aF)<|bH<|lJ 2 (pv 2)<|fY<|sG (fY<|aU 4<|bE aA)<|aU 5 aA)<|iP<|fY<|aU 2<|aU 3 aA)
theorem a74 (Z:Zs mg)(l7:a23 P w K mg base):DT P w K mg base nR "rootless_parts" kB 1 mD:=λhr=>
 (oC (kF kL (dZ (cF 0) rfl Z.z0) aF) (iP<|dP aA)<|bW 2 sK.nd (cN4 (kF kL (dZ (cF 0) rfl Z.z0) aF) (gC l7 hr<|aU 0<|aU 1 aA)<|dP aA)<|oC (kF kL (dZ (cF 2) rfl Z.z0) aF) (iP<|dP<|sG (fY<|aU 0<|bE aA) aA)<|oC (kF (ou_eqD hr.units) (fH (cF 2) aF)<|fH (cF 2) aF) (iP<|dP<|sG (fY<|aH (fH (cF 2) aF)<|bE aA) aA)<|iP<|tZ ["g",".acc"] (aE kB).names nR (iQ<|kW cQ8 rfl Z.z11 cJ2 (aU 2 aA)) (λ_ _ _ _ _ _=>i5) λ_ _ _ _ _ _=>(fY<|aU 0<|bE aA))
theorem zX (Z:Zs mg):DT P w K mg base rJ "two_by_two" kZ 0 oV:=λhr=>
 (bP (r6 2 eX.nd (fL rfl Z.z6 (aU 1 aA))<|bW 3 eX.nd (aK gX (aK bV (fH (cF 0) aF)<|aR 2)<|aR 1)<|bW 4 eX.nd (aK bV (fH (cF 0) aF)<|aK cH (aR 2)<|aR 3)<|bH<|r6 5 eX.nd (fL rfl Z.z6 (aU 1 aA))<|bW 6 eX.nd (aK gX (aK bV (aR 4)<|aR 5)<|aR 1)<|bH<|aW4 (PUW.pt<|a86 (kF kL (aK gX (aK cH (aR 5)<|aR 6)<|aR 1)<|fH (cF 0) aF)<|wZ<|kF kL (aK gX (aK cN (aK cH (aR 2)<|aR 6)<|aK cH (aR 5)<|aR 3)<|aR 1)<|fH (cF 0) aF)<|iP<|dP<|sG (fY<|aU 5<|aU 2<|bE aA)<|sG (fY<|aU 6<|aU 3<|bE aA) aA)<|iP<|dP aA)
theorem aX5 (Z:Zs mg)(iD:vP P w K mg base)(a01:bA9 P w K mg base):DT P w K mg base wH "papers_of" qV 7 uF:=λhr=>
 (iP<|tZ ["p","poly","size",".acc"] (aE qV).names wH (iQ<|cO5 iD hr ac rfl) (λ_ _ _ _ _ _=>(d42<|kF kL (aK gX (aR 2)<|aK cH (aR 0)<|aR 0) aF)) λ_ _ _ _ _ _=>(fY<|aU 0<|aH (gC a01 hr<|aU 1<|aU 0 aA) aA))
theorem b82 (Z:Zs mg)(a02:bA8 P w K mg base)(cX:lU P w K mg base):DT P w K mg base zS "parts_at" sS 6 w8:=λhr=>
 (iP<|b05 (js:=[0]) (N:=["g","often","poly",".acc"]) (cap:=[none,none,some 0,none]) (last:=3) (esc:=(aE sS).names) (XN:=zS) rfl rfl af ac ac rfl (iQ<|gC a02 hr<|aU 0<|aU 1 aA) (λ_ _ _ _ _ _=>(a26 rfl (gR 0 (dY (show Nodup (["g","often","poly",".acc"]:List Str)by decide +kernel) rfl (Or.inl rfl))<|gR 1 (dY (show Nodup (["g","often","poly",".acc"]:List Str)by decide +kernel) rfl (Or.inl rfl)) vA) (fN<|fN qZ))) (λ_ _ _ _ _ _=>i5) (λ_ _ _ _ _ _=>(fY<|aU 0<|aU 1<|aH (fH (aA6<|gC cX hr<|aU 2<|aU 0 aA) aF) aA)))
theorem aT3 (Z:Zs mg)(cX:lU P w K mg base):DT P w K mg base uN "outside_of" oM 2 rW:=λhr=>
 (bP (aQ1 jU rfl (iQ<|aR 1) (a26 rfl (gR 2 (dY iR.nd rfl (Or.inr rfl))<|gR 3 (dY iR.nd rfl (Or.inl rfl)) vA) (fN<|fN qZ)) (bH<|aQ1 jU rfl (iQ<|aR 3) (a26 rfl (gR 4 (dY iR.nd rfl (Or.inl rfl))<|gR 5 (dY iR.nd rfl (Or.inl rfl))<|gR 6 (dY iR.nd rfl (Or.inl rfl)) vA) (fN<|fN<|fN qZ)) (bH<|aW4 (PUW.pt<|a86 (kF dD5 (aR 5) aF)<|wZ<|cN2<|kW (bI5 rfl) rfl Z.z1 bI6 (aH (tZ ["c","p",".acc"] (aE oM).names uN (iQ<|aR 6) (λ_ _ _ _ _ _=>i5) λ_ _ _ _ _ _=>(cQ9 kL (aK gX (aR 0)<|aK cH (aR 1)<|aR 1) aF)) aA))<|iP<|fY<|aU 2<|aH (fH (aA6<|gC cX hr<|aU 0<|aU 4 aA) aF) aA)))<|iP aZ9)
theorem a75 (Z:Zs mg){fE:Addr}(iZ:mg "FallsApart"=some (.ref fE)){i9:Addr}{bB4:FuncData}(lX:aB2 K fE i9 [.type "ValueError",.type "Exception",.type "BaseException",.type "object"] "ValueError.__new__"=true)(a03:bS5 K fE i9 bB4 "left" "right")(aT4:c71 P w K mg base){f:Addr}{cdv:Value}{A:Around}{outer:List Env}{s:Shared}{H:Hp}{E:XK}(hr:hZ 4 (A.deeper<|envOfC "need_together" (aE iY) s.heap.objs.size f cdv)) :
  a09 (tV (CXr P w base) P w K mg base vN "need_together" (aE iY) f cdv A outer s H E) E (dQ iY) mE:=
 (bJ5 (aL6<|vU 1 uQ.nd rfl (Or.inl rfl) (aA8 aT4 hr ac rfl (aH (fA 0<|pv 0) aA)) (hl:=il (n:=2) rfl ac))<|b14<|cR6 (bR9<|fA 1<|pv 1) (b14<|bE5 (k:=0) xN lX a03 (hr.mono ac) rfl iZ rfl (aH (a27 (lY 1<|pv 1) aF λ_ _=>rfl)<|aH (a27 (lY 1<|pv 1) aF λ_ _=>rfl) aA) c36 rfl ac) c38)
theorem aP3 (Z:Zs mg){gY:Addr}(l8:mg "NotWhole"=some (.ref gY)){jM:Addr}{bZ2:FuncData}(qN:aB2 K gY jM [.type "ValueError",.type "Exception",.type "BaseException",.type "object"] "ValueError.__new__"=true)(aJ8:bS5 K gY jM bZ2 "prime" "number")(uX:aX2 P w K mg base)(wP:b77 P w K mg base)(aJ9:bY4 P w K mg base){f:Addr}{cdv:Value}{A:Around}{outer:List Env}{s:Shared}{H:Hp}{E:XK}(hr:hZ 8 (A.deeper<|envOfC "need_whole" (aE jH) s.heap.objs.size f cdv)) :
  a09 (tV (CXr P w base) P w K mg base uP "need_whole" (aE jH) f cdv A outer s H E) E (dQ jH) qF:=
 (bJ5 (aL6<|vU 2 mV.nd rfl (Or.inl rfl) (aA8 uX hr ac rfl (aH (fA 0<|pv 0)<|aH (aA8 wP hr ac rfl (aH (fA 0<|pv 0)<|aH (fA 1<|pv 1) aA)) aA)) (hl:=il (n:=5) rfl ac))<|b14<|cR6 (bR9<|fA 2<|pv 2) (bJ5 (aL6<|c18 (fA 2<|pv 2)<|a26 rfl (gR 3 (dY mV.nd rfl (Or.inr rfl))<|gR 4 (dY mV.nd rfl (Or.inl rfl)) vA) (fN<|fN qZ))<|b14<|bE5 (k:=0) xN qN aJ8 (hr.mono ac) rfl l8 rfl (aH (fA 3<|pv 3)<|aH (aA8 aJ9 hr ac rfl (aH (fK jE rfl Z.z8 jF (aH (b05 (js:=[3]) (N:=["c","p",".acc"]) (cap:=[none,some 3,none]) (last:=2) (esc:=(aE jH).names) (XN:=uP) rfl rfl af ac ac rfl (iQ<|fA 4<|pv 4) (λ_ _ _ _ _ _=>(yV 0<|dY (show Nodup (["c","p",".acc"]:List Str)by decide +kernel) rfl (Or.inl rfl))) (λ_ _ _ _ _ _=>i5) (λ_ _ _ _ _ _=>(aK gX (fA 0<|pv 0)<|fA 1<|pv 1))) aA))<|aH (aK bV (dZ (lY 0<|pv 0) rfl Z.z0) aF) aA)) aA) c36 rfl ac) c38)
theorem cY5 (Z:Zs mg):DT P w K mg base cY0 "_law_cell" c67 0 bK0:=λhr=>
 (oC (kF kL (dZ (cF 0) rfl Z.z0) aF) (iP<|aK cH aF<|aK cN (aR 1) aF)<|oC (kF c92 (aR 1)<|dZ (cF 0) rfl Z.z0) (iP<|fH (cF 0)<|aR 1)<|iP<|aK cN (fH (cF 0)<|aK gX (aR 1)<|dZ (cF 0) rfl Z.z0)<|aK cH aF<|aR 1)
theorem cJ6 (Z:Zs mg):DT P w K mg base cC9 "_law_mixed" bN5 0 b17:=λhr=>
 (bW 3 b74.nd (aK gX (aK cH (aK cN (aK cN (aK cN (aR 0)<|aK cH (aK cH aF<|aR 1)<|aR 1)<|aK cH aF<|aR 1) aF) aF) aF)<|bW 3 b74.nd (aK gX (aK cH (aR 3)<|aR 3) aF)<|iP<|aK gX (aK cH (aR 3) aF)<|aR 2)
theorem cJ7 (Z:Zs mg)(a96:bY6 P w K mg base):DT P w K mg base cD0 "_law_draws" bN6 1 b18:=λhr=>
 (bW 3 xJ.nd aF<|oC (kF dD5 (aR 0)<|aK cO1 aF aF) (bH<|aW3 3 xJ.nd<|aK bV (aR 0)<|aK cO1 aF aF)<|bW 4 xJ.nd (dP aA)<|bP (r6 5 xJ.nd (fL rfl Z.z6 (aH (dZ (cF 1) rfl Z.z0) aA))<|bH<|c90 (kF aU2 (aR 3) aF) (bP (lJ 4 (pv 4)<|aK gX (aR 3)<|fH (cF 1)<|aR 5)<|bH<|aW3 3 xJ.nd<|aK aH1 (aR 3)<|fH (cF 1)<|aR 5)<|bH<|lJ 4 (pv 4)<|aK gX (gC a96 hr<|aU 0<|aU 5<|aU 2 aA)<|fH (cF 1)<|aR 5)<|bH<|lF 4<|pv 4)
theorem bZ0 (Z:Zs mg):DT P w K mg base bG3 "_law_shifted" aS9 0 aI0:=λhr=>
 (bW 2 zV.nd (fK bI1 rfl Z.z4 bK1 (aU 0 aA))<|bP (r6 3 zV.nd (fL rfl Z.z6 (aH (aK bV (dZ (cF 2) rfl Z.z0) aF) aA))<|bH<|r6 4 zV.nd (bD9 rfl Z.z6 (aH (aK bV (dZ (cF 2) rfl Z.z0) aF)<|aH (aK bV (aR 3) aF)<|aL3 (oA aF) aA))<|bH<|tX 2 (pv 2) (aK cN (fH (cF 2)<|aR 4)<|aK cH (aR 1)<|fH (cF 2)<|aK cN (aR 4) aF)<|aR 4)<|iP<|fK jE rfl Z.z8 jF (aU 2 aA))
theorem cY6 (Z:Zs mg)(oQ:bY7 P w K mg base)(a97:c72 P w K mg base):DT P w K mg base c68 "_law_poly" bN7 2 bL9:=λhr=>
 (bW 2 a93.nd (gC oQ hr<|aU 0<|aH (dP<|bE<|bE aA)<|aU 1 aA)<|bW 3 a93.nd (kD (aA6<|gC oQ hr<|aU 0<|aH (dP<|bE<|bE<|bE<|bE<|bE<|bE aA)<|aU 1 aA) (gZ aF)<|gZ<|aK cN (fH (cF 2) aF) aF)<|oC (kF kL (fH (cF 2) aF) aF) (iP<|fK jE rfl Z.z8 jF (aH (aK cN (tZ ["_law_place",".acc"] (aE bN7).names c68 (iQ<|aR 3) (λ_ _ _ _ _ _=>i5) λ_ _ _ _ _ _=>(aK bV (aR 0) aF))<|dP<|bE aA) aA))<|bW 4 a93.nd (gC oQ hr<|aU 0<|aH (dP<|bE<|bE<|bE<|bE<|bE<|bE<|bE aA)<|aU 1 aA)<|oC (kF kL (fH (cF 2) aF) aF) (bW 4 a93.nd (gC oQ hr<|aU 0<|aH (dP<|bE<|bE<|bE<|bE aA)<|aU 1 aA)<|iP<|fY<|aH (aK bV (fH (cF 4) aF) aF)<|aH (aK bV (fH (cF 4) aF) aF)<|bE aA)<|oC (kF kL (fH (cF 2) aF) aF) (iP<|gC a97 hr<|sG (fY<|aH (aK bV (fH (cF 4) aF) aF)<|aH (aK bV (fH (cF 4) aF) aF)<|aH (aK bV (fH (cF 4) aF) aF)<|bE aA)<|aH (aK bV (fH (cF 4) aF) aF) aA)<|bW 4 a93.nd (gC oQ hr<|aU 0<|aH (dP<|bE<|bE<|bE<|bE<|bE<|bE<|bE aA)<|aU 1 aA)<|iP<|gC a97 hr<|sG (fY<|aH (aK bV (fH (cF 4) aF) aF)<|aH (aK bV (fH (cF 4) aF) aF)<|aH (aK bV (fH (cF 4) aF) aF)<|aH (aK bV (fH (cF 4) aF) aF)<|bE aA)<|aH (aK bV (fH (cF 4) aF) aF) aA)
theorem b83 (Z:Zs mg)(a96:bY6 P w K mg base):DT P w K mg base aO6 "_law_known_ring" zT 1 wE:=λhr=>
 (by refine WS.out ?_;exact ws_lw (c31 (a18<|a18<|a18 a35)<|c31 (cG4<|a18<|a18 a35)<|c31 (a18<|a18<|a18 a35)<|c31 (cG4<|a18<|a18 a35)<|c31 (cG4<|cG4<|a18<|a18 a35)<|c31 (cG4<|a18<|a18<|a18 a35)<|c31 (cG4<|a18<|a18<|a18 a35) a35) (ws_of<|bW 1 wL.nd (aK cN (aR 1)<|dP<|sG (fY<|bE<|bE<|bE<|bE<|bE aA)<|sG (fY<|aL3 (oA aF)<|aL3 (oA aF)<|bE<|bE<|bE aA)<|sG (fY<|bE<|bE<|bE<|bE<|bE aA)<|sG (fY<|aL3 (oA aF)<|bE<|bE<|bE<|bE aA)<|sG (fY<|bE<|bE<|aL3 (oA aF)<|bE<|bE aA) aA)<|iP<|fH (cF 1)<|aK gX (gC a96 hr<|aU 0<|bE<|bE aA) aF) wL.nd)
theorem cY7 (Z:Zs mg){iA:Addr}(lB:mg "RingError"=some (.ref iA))(rM:excIn K iA [.type "ValueError",.type "Exception",.type "BaseException",.type "object"] "ValueError.__new__"=true)(qO: ∀n∈(["FallsApart","TooGreat","NotWhole"]:List Str),∀C,mg n=some (.ref C)->aQ8 K iA C [.type "ValueError",.type "Exception",.type "BaseException",.type "object"] "ValueError.__new__")(aZ4:MkX P w K mg base "Ring" 10 ["poly","degree","measure"] xF)(c76:dB4 P w K mg base)(aK0:cD6 P w K mg base)(a04:bB0 P w K mg base):DT P w K mg base cY1 "_law_ring" c69 11 bL8:=λhr=>
 (bW 3 a94.nd aZ9<|bP (r6 4 a94.nd (fL rfl Z.z6 (bE aA))<|bH<|aW4 (bI9<|aR 3)<|bH<|d64 3 ["FallsApart","TooGreat","NotWhole"] xN aZ4 hr ac rfl rfl rfl rfl rfl (λ_=>(aH (gC c76 hr<|aH (gC aK0 hr<|aU 0<|aH (aK cN (aR 1)<|aR 4) aA)<|aU 2 aA) aA)) a94.nd rfl (Or.inl rfl) (λ_=>(bH<|aW3 3 a94.nd aZ9)) rfl lB rM qO (il (n:=5) rfl ac))<|oC (bI9<|aR 3) (bH<|aW3 3 a94.nd<|d63 aZ4 hr ac rfl (aH (gC a04 hr<|aH (gC aK0 hr<|aU 0<|aU 1 aA) aA) aA))<|bH<|lF 3<|pv 3)
theorem cJ8 (Z:Zs mg):DT P w K mg base cD3 "_law_times" bN8 0 b41:=λhr=>
 (bW 3 rK.nd (aK bV (dZ (cF 0) rfl Z.z0) aF)<|bW 4 rK.nd (aK cH (dP<|bE aA)<|aK bV (aK cH aF<|aR 3) aF)<|bP (r6 5 rK.nd (fL rfl Z.z6 (aU 3 aA))<|bH<|r6 6 rK.nd (fL rfl Z.z6 (aU 3 aA))<|bH<|tX 4 (pv 4) (aK cN (fH (cF 4)<|aK cN (aR 5)<|aR 6)<|aK cH (fH (cF 1)<|aR 5)<|fH (cF 2)<|aR 6)<|aK cN (aR 5)<|aR 6)<|bP (r6 7 rK.nd (bD9 rfl Z.z6 (aH (aK bV (aK cH aF<|aR 3) aF)<|aH (aK bV (aR 3) aF)<|aL3 (oA aF) aA))<|bH<|r6 6 rK.nd (fL rfl Z.z6 (aU 3 aA))<|bW 8 rK.nd (aK cN (aK bV (aR 7)<|aR 3)<|aR 6)<|bH<|tX 4 (pv 4) (aK bV (fH (cF 4)<|aR 8)<|aK cH (fH (cF 4)<|aR 7)<|fH (cF 0)<|aR 6)<|aR 8)<|iP<|fK jE rfl Z.z8 jF (aH (kD (cF 4) mO<|gZ<|aR 3) aA))
theorem c75 (Z:Zs mg)(bO5:cY4 P w K mg base):DT P w K mg base b68 "_law_table" aO7 1 aS7:=λhr=>
 (bW 2 qJ.nd (aK bV (dZ (cF 0) rfl Z.z0) aF)<|bW 3 qJ.nd (fK jE rfl Z.z8 jF (aH (tZ ["_law_k",".acc"] (aE aO7).names b68 (fL rfl Z.z6 (aU 2 aA)) (λ_ _ _ _ _ _=>i5) λ_ _ _ _ _ _=>(fK cu_int rfl Z.z12 bt_int (aH (cQ9 kL (aR 0) aF) aA))) aA))<|bW 4 qJ.nd (dP aA)<|bW 5 qJ.nd (fK jE rfl Z.z8 jF (aU 1 aA))<|bP (r6 6 qJ.nd (fL rfl Z.z6 (aU 2 aA))<|bP (lJ 4 (pv 4)<|aR 5)<|bH<|aW3 5 qJ.nd<|gC bO5 hr<|aU 0<|aU 3<|aU 5 aA)<|bH<|lF 4<|pv 4)
theorem aP4 (Z:Zs mg){k:Nat}{jC:Φ}(hk:1<=k)(b85:Fn P w K mg base "_law_det" lQ k jC):DT P w K mg base c70 "_law_det" b69 k (bN1 jC):=λhr=>
 (bP (c90 (aK8 kL (dZ (lY 0<|pv 0) rfl Z.z0) aF<|aZ6 _) (bH<|c17<|a27 (aA6<|a27 (lY 0<|pv 0) aF λ_ _=>rfl) aF λ_ _=>rfl) bH7)<|bP (vU 1 vO.nd rfl (Or.inl rfl) aF (hl:=il (n:=4) rfl ac))<|bP (aQ1 jU rfl (fL rfl Z.z6 (aH (dZ (lY 0<|pv 0) rfl Z.z0) aA)) (yV 2<|dY vO.nd rfl (Or.inl rfl)) (bP (a32 (js:=[]) (N:=["_law_row",".acc"]) (cap:=[none,none]) (last:=1) (esc:=(aE b69).names) (XN:=c70) 3 rfl rfl af ac ac rfl (iQ<|aK cN (kD (lY 0<|pv 0) mO<|gZ<|fA 2<|pv 2)<|kD (lY 0<|pv 0) (gZ<|aK cN (fA 2<|pv 2) aF) mO) (λ_ _ _ _ _ _=>(yV 0<|dY (show Nodup (["_law_row",".acc"]:List Str)by decide +kernel) rfl (Or.inl rfl))) (λ_ _ _ _ _ _=>i5) (λ_ _ _ _ _ _=>(kD (lY 0<|pv 0) (gZ aF) mO)) (dY vO.nd rfl (Or.inl rfl)) (il (n:=4) rfl ac))<|bH<|vU 1 vO.nd rfl (Or.inl rfl) (aK cN (fA 1<|pv 1)<|aK cH (aK cH (aK bV aF<|aK cH aF<|aK gX (fA 2<|pv 2) aF)<|a27 (aA6<|a27 (lY 0<|pv 0) (fA 2<|pv 2) λ_ _=>rfl) aF λ_ _=>rfl)<|aA8 b85 hr (aB _) rfl (aH (fA 3<|pv 3) aA)) (hl:=il (n:=4) rfl ac)))<|bH<|lF 1<|pv 1)
theorem dB7 (Z:Zs mg)(b86:cJ4 P w K mg base)(b85:dB6 P w K mg base):DT P w K mg base cD4 "_law_own" bX8 5 c65:=λhr=>
 (bW 2 rY.nd (aK bV (dZ (cF 0) rfl Z.z0) aF)<|bW 3 rY.nd (gC b86 hr<|aU 0<|aU 1 aA)<|bW 4 rY.nd (dP<|aH (dP aA) aA)<|bP (r6 5 rY.nd (fL rfl Z.z6 (aU 2 aA))<|bH<|aW3 4 rY.nd<|aK cN (aR 4)<|tZ ["_law_pick","_law_i",".acc"] (aE bX8).names cD4 (iQ<|aR 4) (λ_ _ _ _ _ _=>i5) λ_ _ _ _ _ _=>(aK cN (aR 0)<|dP<|aU 1 aA))<|bW 6 rY.nd (aK cN (aK cH (dP<|bE aA)<|aR 2)<|dP<|bE aA)<|bP (r6 7 rY.nd (iQ<|kD (cF 4) (gZ aF) mO)<|bW 8 rY.nd (dP aA)<|bP (r6 5 rY.nd (iQ<|aR 7)<|bH<|lJ 8 (pv 8)<|tZ ["_law_j","_law_table_here","_law_i",".acc"] (aE bX8).names cD4 (iQ<|aR 7) (λ_ _ _ _ _ _=>i5) λ_ _ _ _ _ _=>(fH (aA6<|fH (cF 1)<|aR 2)<|aR 0))<|bW 9 rY.nd (aK bV aF<|aK cH aF<|aK gX (dZ (cF 7) rfl Z.z0) aF)<|bW 10 rY.nd (aK bV (aR 2)<|dZ (cF 7) rfl Z.z0)<|bH<|tX 6 (pv 6) (aK cN (fH (cF 6)<|aR 10)<|aK cH (aR 9)<|gC b85 hr<|aU 8 aA)<|aR 10)<|bH<|lF 6<|pv 6)
theorem bO4 (Z:Zs mg)(cY9:TF_own P w K mg base):DT P w K mg base b70 "_law_whole_by" aJ2 6 a63:=λhr=>
 (bW 3 rL.nd (gC cY9 hr<|aU 0<|aU 1 aA)<|bW 4 rL.nd aF<|bP (r6 5 rL.nd (sV rfl Z.z6 (bE<|aH (dZ (cF 0) rfl Z.z0) aA))<|bW 4 rL.nd (aK cH (aR 4)<|aR 2)<|bH<|aW4 (kF c93 (aK gX (fH (cF 3)<|aK bV (aK bV (dZ (cF 0) rfl Z.z0) aF)<|aR 5)<|aR 4) aF)<|iP bQ5)<|iP bQ5)
theorem bZ1 (Z:Zs mg):DT P w K mg base aT0 "_law_squared" a92 0 aI4:=λhr=>
 (bW 1 aJ4.nd (dP aA)<|bP (r6 2 aJ4.nd (sV rfl Z.z6 (bE<|bE aA))<|bH<|aW4 (PUW.pt<|a86 (kF kL (aK gX (aR 0)<|aK cH (aR 2)<|aR 2) aF)<|wZ<|cN2<|kW (bI5 rfl) rfl Z.z1 bI6 (aH (tZ ["_law_q","_law_p",".acc"] (aE a92).names aT0 (sV rfl Z.z6 (bE<|aU 2 aA)) (λ_ _ _ _ _ _=>i5) λ_ _ _ _ _ _=>(cQ9 aU2 (aK gX (aR 1)<|aR 0) aF)) aA))<|bH<|lJ 1 (pv 1)<|aR 2)<|bH<|lF 1<|pv 1)
theorem dB8 (Z:Zs mg)(c77:dB5 P w K mg base)(aK0:cD6 P w K mg base)(oQ:bY7 P w K mg base)(aT5:c73 P w K mg base)(aK1:bY8 P w K mg base):DT P w K mg base bX9 "law" aC4 12 bN3:=λhr=>
 (bW 1 qK.nd (gC c77 hr<|aU 0<|bE<|bE aA)<|bW 2 qK.nd (cS0<|aR 1)<|bW 3 qK.nd (aK bV (dZ (cF 2) rfl Z.z0) aF)<|bP (r6 4 qK.nd (fL rfl Z.z6 (bE aA))<|bW 5 qK.nd (gC aK0 hr<|aU 0<|aH (aK cN aF<|aR 4) aA)<|bW 6 qK.nd (gC oQ hr<|aU 5<|aH (dP<|bE<|bE<|bE<|bE aA)<|bE aA)<|bW 7 qK.nd (aK cN aF<|fH (cF 6) aF)<|bW 8 qK.nd (gC aT5 hr<|aH (cS0<|aR 1) aA)<|oC (PUW.pt<|a86 (kF kL (fH (cF 6) aF) aF)<|wZ<|kF aU2 (dZ (cF 8) rfl Z.z0) aF) (bH<|aW3 7 qK.nd<|fH (cF 8)<|aK gX (fH (cF 6) aF)<|dZ (cF 8) rfl Z.z0)<|bW 8 qK.nd (gC oQ hr<|aU 5<|aH (aK cN (aK cN (dP<|bE<|bE<|bE<|bE aA)<|aK cH (dP<|bE aA)<|aR 3)<|aK cH (dP<|aU 7 aA)<|aR 3)<|bE aA)<|bP (a32 (js:=[7]) (N:=["_law_place","_law_m",".acc"]) (cap:=[none,some 7,none]) (last:=2) (esc:=(aE aC4).names) (XN:=bX9) 9 rfl rfl af ac ac rfl (iQ<|kD (cF 8) (gZ aF)<|gZ<|aK cN aF<|aR 3) (λ_ _ _ _ _ _=>(yV 0<|dY (show Nodup (["_law_place","_law_m",".acc"]:List Str)by decide +kernel) rfl (Or.inl rfl))) (λ_ _ _ _ _ _=>i5) (λ_ _ _ _ _ _=>(aK cH (aR 1)<|aK bV (aR 0) aF)) (dY qK.nd rfl (Or.inl rfl)) (il (n:=10) rfl ac))<|oC (kF aU2 (fH (cF 6) aF) aF) (bH<|a32 (js:=[]) (N:=["_law_a","_law_b",".acc"]) (cap:=[none,none,none]) (last:=2) (esc:=(aE aC4).names) (XN:=bX9) 9 rfl rfl af ac ac rfl (ui_zip (by rfl) Z.z13<|aU 9<|aH (kD (cF 8) (gZ<|aK cN aF<|aR 3) mO) aA) (λ_ _ _ _ _ _=>(a26 rfl (gR 0 (dY (show Nodup (["_law_a","_law_b",".acc"]:List Str)by decide +kernel) rfl (Or.inl rfl))<|gR 1 (dY (show Nodup (["_law_a","_law_b",".acc"]:List Str)by decide +kernel) rfl (Or.inl rfl)) vA) (fN<|fN qZ))) (λ_ _ _ _ _ _=>i5) (λ_ _ _ _ _ _=>(aK cN (aR 0)<|aR 1)) (dY qK.nd rfl (Or.inl rfl)) (il (n:=10) rfl ac))<|bH<|aW4 (kF c93 (gC aK1 hr<|aU 2<|aU 9<|aU 7 aA)<|kW (bI5 rfl) rfl Z.z1 bI6 (aH (tZ ["_law_place","_law_m",".acc"] (aE aC4).names bX9 (iQ<|aR 9) (λ_ _ _ _ _ _=>i5) λ_ _ _ _ _ _=>(cQ9 kL (aK gX (aR 0)<|aR 1) aF)) aA))<|iP bQ5)<|iP bQ5)
theorem cJ9 (Z:Zs mg){nU:Tok}(fJ:mg "GREATEST_MEASURE"=some (.int 39999 nU)){qP:Addr}(lD:mg "TooGreat"=some (.ref qP))(qQ:excIn K qP [.type "ValueError",.type "Exception",.type "BaseException",.type "object"] "ValueError.__new__"=true)(dJ:mI P w K mg base)(a76:bO1 P w K mg base)(nV:FnX P w K mg base "need_together" uO 5 jB)(rZ:FnX P w K mg base "need_whole" a17 9 lL){f:Addr}{cdv:Value}{A:Around}{outer:List Env}{s:Shared}{H:Hp}{E:XK}(hr:hZ 9 (A.deeper<|envOfC "Ring.__init__" (aE a72) s.heap.objs.size f cdv)) :
  PSs (tV (CXr P w base) P w K mg base ["self","poly","size"] "Ring.__init__" (aE a72) f cdv A outer s H E) (dQ a72) (λD=>lSX K mg E b36 {D with nx:=tS3 K "poly" "degree" "measure" b37 b38 b39 D}):=
 (aY5 (aL6<|bI7<|aA8 dJ hr ac rfl (aH (fA 1<|pv 1) aA))<|aY5 (c98 nV hr ac dD7 rfl (aH (fA 1<|pv 1) aA))<|aY5 (aL6<|vU 2 cD5.nd rfl (Or.inl rfl) (aA8 a76 hr ac rfl (aH (fA 1<|pv 1) aA)) (hl:=il (n:=3) rfl ac))<|aY5 (cR6 (aK8 aU2 (kW c20 rfl Z.z2 c40 (aH (fA 2<|pv 2) aA)) (c95 rfl fJ)<|aZ6 _) (b14<|cR7 xN qQ rfl lD rfl (aH pu_str aA) c36 rfl) c38)<|d65 (c98 rZ hr ac dD7 rfl (aH (fA 1<|pv 1)<|aH (fA 2<|pv 2) aA))<|wX (c06 (pv 0) (fA 1<|pv 1) rfl)<|wX (c06 (pv 0) (aK bV (dZ (lY 1<|pv 1) rfl Z.z0) aF) rfl)<|bG6<|c06 (pv 0) (fA 2<|pv 2) rfl)
end
theorem lC {P:List Value->Prop}{n:Nat}(h: ∀a us,us.length=n->P (a::us)): ∀us:List Value,us.length=n+1->P us:=λus=>us.casesOn (λe=>nomatch e) λa us e=>h a us (Nat.succ.inj e)
theorem lN0 {P:List Value->Prop}(h:P []): ∀us:List Value,us.length=0->P us:=λus=>us.casesOn (λ_=>h) λ_ _ e=>nomatch e
local macro_rules| `(tactic| walk_at "b0")=> `(tactic| exact λ_ _ _ _ _ _=>lN0 rfl)
theorem lN1 {P:List Value->Prop}(h: ∀a0,P [a0]): ∀us:List Value,us.length=1->P us:=lC λa0=>lN0 (h a0)
local macro_rules| `(tactic| walk_at "b1")=> `(tactic| exact λ_ _ _ _ _ _=>lN1 λ_=>rfl)
theorem lN2 {P:List Value->Prop}(h: ∀a0 a1,P [a0,a1]): ∀us:List Value,us.length=2->P us:=lC λa0=>lC λa1=>lN0 (h a0 a1)
local macro_rules| `(tactic| walk_at "b2")=> `(tactic| exact λ_ _ _ _ _ _=>lN2 λ_ _=>rfl)
theorem lN3 {P:List Value->Prop}(h: ∀a0 a1 a2,P [a0,a1,a2]): ∀us:List Value,us.length=3->P us:=lC λa0=>lC λa1=>lC λa2=>lN0 (h a0 a1 a2)
local macro_rules| `(tactic| walk_at "b3")=> `(tactic| exact λ_ _ _ _ _ _=>lN3 λ_ _ _=>rfl)
local macro_rules| `(tactic| walk_at "n")=> `(tactic| (intro _ _ h;repeat (first| (obtain⟨e,_⟩:=h;subst e;rfl)|obtain⟨_,h⟩:=h)))
structure FD where
 oc:Value
 od:Option Addr
 kV:Value
 dc:Value
 pm:Value
 an:Option Addr
 cd:Value
 ct:Value
 sl:Array (Option Value)
abbrev iM (K:Frag)(x y:Str)(s:Stmt)(f:Addr):Prop:= ∃d:FD,nsIn K mainGlobals y=some (some<|.ref f)/\K.lookup f=some ⟨d.oc,d.od,.func<|fnOf x x (k7 s) (dQ s) (aE s) .none d.kV d.dc d.pm d.an d.cd d.ct,d.sl⟩/\codeIn K d.cd x=true/\keepIn K (.ref f)=true
theorem fnAt {K:Frag}{x y:Str}{s:Stmt}{f:Addr}{oc:Value}{od:Option Addr}{kV dc pm:Value}{an:Option Addr}{cd ct:Value}{sl:Array (Option Value)}(a:nsIn K mainGlobals y=some (some<|.ref f))(b:K.lookup f=some ⟨oc,od,.func<|fnOf x x (k7 s) (dQ s) (aE s) .none kV dc pm an cd ct,sl⟩)(c:codeIn K cd x=true)(k:keepIn K (.ref f)=true):iM K x y s f:=⟨⟨oc,od,kV,dc,pm,an,cd,ct,sl⟩,a,b,c,k⟩
theorem cY8 {K:Frag}{x y:Str}{s:Stmt}{f:Addr}(p:iM K x y s f): ∃fd,Fun K x x s f fd/\nsIn K mainGlobals y=some (some<|.ref f):=let ⟨_,a,b,c,k⟩:=p;⟨_,aQ0 b c k,a⟩
section
variable {P:Program}{w:World}{K:Frag}{mg:Str->Option Value}{base h:Heap}(X:K.In h)(G:h.Ns mainGlobals mg){x y:Str}{st:Stmt}{f:Addr}{N ps:List Str}{k:Nat}(p:iM K x y st f)(b: ∀(kV doc pm:Value) (an:Option Addr) (cdv ct:Value) (us:List Value),us.length=ps.length->bindArgs (fnOf x x (k7 st) (dQ st) (aE st) .none kV doc pm an cdv ct) ⟨us,[]⟩=pure (ps.zip us))(S:b6 N ps (aE st))
include X G p b S
theorem fn_b {φ:Φ}(len: ∀ds Q,φ ds Q->ds.length=ps.length){t:US}(der: ∀(cdv:Value) (A:Around) (outer:List Env) (s:Shared) (H:Hp) (E:XK),hZ k (A.deeper<|envOfC x (aE st) s.heap.objs.size f cdv)->rN (tV CX0 P w K mg base N x (aE st) f cdv A outer s H E).nox (dQ st) t)(rd: ∀ds Q,φ ds Q->t {nx:=λ_=>Q (.pu .non),rt:=Q} (init N ds)):Fn P w K mg base y ps (k+1) φ:=
 let ⟨_,U,m⟩:=cY8 p
 Fn.mkA U (cS X G m) (U.binds b) S len der rd
theorem fnX_b {φ:ΦX}(q:x=y)(len: ∀ds Q Ex,φ ds Q Ex->ds.length=ps.length){t:USX}(der: ∀(cdv:Value) (A:Around) (outer:List Env) (s:Shared) (H:Hp) (E:XK),hZ k (A.deeper<|envOfC x (aE st) s.heap.objs.size f cdv)->a09 (tV (CXr P w base) P w K mg base N x (aE st) f cdv A outer s H E) E (dQ st) t)(rd: ∀ds Q Ex,φ ds Q Ex->t Ex {nx:=λ_=>Q (.pu .non),rt:=Q} (init N ds)):FnX P w K mg base y ps (k+1) φ:=
 let ⟨_,U,m⟩:=cY8 p
 q▸FnX.mk' U (cS X G<|q▸m) (U.binds b) S len der rd
end
theorem all_mk {l:PySem.W.OpenLaw}{w:World}{K:Frag}{h:Heap}{mg:Str->Option Value}{fa f1 f2 f3 f4 f5 f6 f7 f8 f9 f10 f11 f12 f13 f14 f15 f16 f17 f18 f19 f20 f21 f22 f23 f24 f25 f26 f27 f28 f29 f30 f31 f32 f33 f34 f35 f36 f37 f38 f39 f40 f41 f42 f43 f44 i9 jM aP6 fE gY qP iA qR jJ:Addr}(X:K.In h)(G:h.Ns mainGlobals mg)(hfa:mg "law"=some (.ref fa))
  {bB5 bB6 bZ3 bZ4 dB9 dC0 aX6:Option Addr} {bB7 bZ5 dC1 aX7:Array (Option Value)} {bB8 bB9 bC0 aC6 bC1 bZ6 bZ7 bZ8 aV7 bZ9 dC2 dC3 dC4 cD7 dC5 dC6:Value} {sU a05 b87:ClassData} {qL nU:Tok} {aT6:Array Value} {n_SMALL_PRIMES:Nat}
  (P1:iM K "is_ring_poly" "is_ring_poly" lP f1)
  (P2:iM K "need_ring_poly" "need_ring_poly" nQ f2)
  (P3:iM K "cut" "cut" bN4 f3)
  (P4:iM K "padded" "padded" aJ0 f4)
  (P5:iM K "poly_parted" "poly_parted" rX f5)
  (P6:iM K "poly_at" "poly_at" a64 f6)
  (P7:iM K "root" "root" b65 f7)
  (P8:iM K "small_primes" "small_primes" qI f8)
  (P9:iM K "apart" "apart" aS8 f9)
  (P10:iM K "dividers" "dividers" zN f10)
  (P11:iM K "line_and_rest" "line_and_rest" oK f11)
  (P12:iM K "two_by_two" "two_by_two_apart" kY f12)
  (P13:iM K "two_with" "two_with" zO f13)
  (P14:iM K "det" "det" aZ3 f14)
  (P15:iM K "without" "without" vL f15)
  (P16:iM K "measure" "measure" vM f16)
  (P17:iM K "root_sums" "root_sums" qU f17)
  (P18:iM K "mod_poly" "mod_poly" sR f18)
  (P19:iM K "mod_parted" "mod_parted" uL f19)
  (P20:iM K "scaled" "scaled" zQ f20)
  (P21:iM K "inverse_of" "inverse_of" uM f21)
  (P22:iM K "split_by" "split_by" zR f22)
  (P23:iM K "lines_out" "lines_out" wG f23)
  (P24:iM K "rootless_parts" "rootless_parts" kB f24)
  (P25:iM K "two_by_two" "two_by_two_split" kZ f25)
  (P26:iM K "papers_of" "papers_of" qV f26)
  (P27:iM K "parts_at" "parts_at" sS f27)
  (P28:iM K "outside_of" "outside_of" oM f28)
  (P29:iM K "need_together" "need_together" iY f29)
  (P30:iM K "need_whole" "need_whole" jH f30)
  (P31:iM K "_law_cell" "_law_cell" c67 f31)
  (P32:iM K "_law_mixed" "_law_mixed" bN5 f32)
  (P33:iM K "_law_draws" "_law_draws" bN6 f33)
  (P34:iM K "_law_shifted" "_law_shifted" aS9 f34)
  (P35:iM K "_law_poly" "_law_poly" bN7 f35)
  (P36:iM K "_law_known_ring" "_law_known_ring" zT f36)
  (P37:iM K "_law_ring" "_law_ring" c69 f37)
  (P38:iM K "_law_times" "_law_times" bN8 f38)
  (P39:iM K "_law_table" "_law_table" aO7 f39)
  (P40:iM K "_law_det" "_law_det" b69 f40)
  (P41:iM K "_law_own" "_law_own" bX8 f41)
  (P42:iM K "_law_whole_by" "_law_whole_by" aJ2 f42)
  (P43:iM K "_law_squared" "_law_squared" a92 f43)
  (P44:iM K "law" "law" aC4 f44)
  (iZ:nsIn K mainGlobals "FallsApart"=some (some<|.ref fE))
  (l8:nsIn K mainGlobals "NotWhole"=some (some<|.ref gY))
  (lD:nsIn K mainGlobals "TooGreat"=some (some<|.ref qP))
  (lB:nsIn K mainGlobals "RingError"=some (some<|.ref iA))
  (b88:nsIn K mainGlobals "Ring"=some (some<|.ref qR))
  (aC7:findIn K (.ref fE) "__init__"=some (some<|.ref i9))
  (aV8:findIn K (.ref gY) "__init__"=some (some<|.ref jM))
  (bO6:findIn K (.ref qR) "__init__"=some (some<|.ref aP6))
  (a06:K.lookup i9=some ⟨.type "function",bB5,.func<|fnOf "__init__" "FallsApart.__init__" (k7 oO) (dQ oO) (aE oO) .none bB8 bB9 bC0 bB6 aC6 bC1,bB7⟩)
  (aK2:K.lookup jM=some ⟨.type "function",bZ3,.func<|fnOf "__init__" "NotWhole.__init__" (k7 uS) (dQ uS) (aE uS) .none bZ6 bZ7 bZ8 bZ4 aV7 bZ9,bZ5⟩)
  (c78:K.lookup aP6=some ⟨dC6,dB9,.func<|fnOf "__init__" "Ring.__init__" (k7 a72) (dQ a72) (aE a72) .none dC2 dC3 dC4 dC0 cD7 dC5,dC1⟩)
  (wQ:codeIn K aC6 "FallsApart.__init__"=true)
  (wR:keepIn K (.ref i9)=true)
  (a77:codeIn K aV7 "NotWhole.__init__"=true)
  (a78:keepIn K (.ref jM)=true)
  (bO7:codeIn K cD7 "Ring.__init__"=true)
  (bO8:keepIn K (.ref aP6)=true)
  (lX:aB2 K fE i9 [.type "ValueError",.type "Exception",.type "BaseException",.type "object"] "ValueError.__new__"=true)
  (qN:aB2 K gY jM [.type "ValueError",.type "Exception",.type "BaseException",.type "object"] "ValueError.__new__"=true)
  (qQ:excIn K qP [.type "ValueError",.type "Exception",.type "BaseException",.type "object"] "ValueError.__new__"=true)
  (rM:excIn K iA [.type "ValueError",.type "Exception",.type "BaseException",.type "object"] "ValueError.__new__"=true)
  (qW:clsIn K fE=some sU)
  (vQ:clsIn K gY=some a05)
  (a79:clsIn K qP=some b87)
  (jK:(sU).mro.contains (.ref iA)=true)
  (kJ:(b87).mro.contains (.ref iA)=true)
  (kK:(a05).mro.contains (.ref iA)=true)
  (wS:u4 (sU).mro=true)
  (wT:(sU).hasDict=true)
  (wU:findIn K (.ref fE) "__setattr__"=some (some<|.builtin "object.__setattr__"))
  (wV:findIn K (.ref fE) "left"=some none)
  (wW:findIn K (.ref fE) "right"=some none)
  (a80:u4 (a05).mro=true)
  (a81:(a05).hasDict=true)
  (a82:findIn K (.ref gY) "__setattr__"=some (some<|.builtin "object.__setattr__"))
  (a83:findIn K (.ref gY) "prime"=some none)
  (a84:findIn K (.ref gY) "number"=some none)
  (mk_Ring:makesIn K qR=true)
  (fn_Ring:PySem.W.isFn K (.ref aP6)=true)
  (kc_Ring:keepIn K (.ref qR)=true)
  (pg_Ring:plainGet K qR Str.empty=true)
  (bO9:hasDictIn K qR=true)
  (po_Ring:plainOver K qR=true)
  (bP0:findIn K (.ref qR) "__setattr__"=some (some<|.builtin "object.__setattr__"))
  (bP1:findIn K (.ref qR) "poly"=some none)
  (aT7:findIn K (.ref qR) "degree"=some none)
  (aK3:findIn K (.ref qR) "measure"=some none)
  (cZ0:nsIn K mainGlobals "len"=some none)
  (cZ1:nsIn K mainGlobals "all"=some none)
  (cZ2:nsIn K mainGlobals "abs"=some none)
  (cZ3:nsIn K mainGlobals "max"=some none)
  (c79:nsIn K mainGlobals "list"=some none)
  (aK4:nsIn K mainGlobals "reversed"=some none)
  (bP2:nsIn K mainGlobals "range"=some none)
  (a85:nsIn K mainGlobals "enumerate"=some none)
  (bP3:nsIn K mainGlobals "tuple"=some none)
  (cZ4:nsIn K mainGlobals "sum"=some none)
  (cZ5:nsIn K mainGlobals "min"=some none)
  (b89:nsIn K mainGlobals "sorted"=some none)
  (cZ6:nsIn K mainGlobals "int"=some none)
  (cZ7:nsIn K mainGlobals "zip"=some none)
  (gO:nsIn K mainGlobals "GREATEST_PLACE"=some (some<|.int 499 qL))
  (fJ:nsIn K mainGlobals "GREATEST_MEASURE"=some (some<|.int 39999 nU))
  (iN:nsIn K mainGlobals "SMALL_PRIMES"=some (some<|.ref jJ))
  (sA:K.lookup jJ=some ⟨.type "tuple",aX6,.seq aT6 n_SMALL_PRIMES,aX7⟩)
  (sB:aT6.size<=sizeLine)
  (sC:Vals (T_SMALL_PRIMES.map V.int) aT6.toList) :
  ∃fd:FuncData,(∀(s:Shared) (v:Value),BindsTo s fd ⟨[v],[]⟩ [("_law_script",v)])/\ ∀base:Heap,K.In base->base.Ns mainGlobals mg->sL l.prog w K mg base CX0 13 fa fd ["_law_script"] (spP K bD1):=by
 have h14:=P14.choose_spec;have h40:=P40.choose_spec;have h44:=P44.choose_spec;have e:=hfa.symm.trans (cS X G h44.1);cases e;have Z:Zs mg:=⟨fU X G cZ0,fU X G cZ1,fU X G cZ2,fU X G cZ3,fU X G c79,fU X G aK4,fU X G bP2,fU X G a85,fU X G bP3,fU X G cZ4,fU X G cZ5,fU X G b89,fU X G cZ6,fU X G cZ7⟩;have gO:=cS X G gO;have fJ:=cS X G fJ;have iN:=cS X G iN
 have uT:KT K jJ (T_SMALL_PRIMES.map V.int):=kt_of sA sB sC;have iZ:=cS X G iZ;have l8:=cS X G l8;have lD:=cS X G lD;have lB:=cS X G lB;have b88:=cS X G b88;have a03:bS5 K fE i9 _ "left" "right":=c99 (st:=oO) (x0:="self") (x1:="left") (x2:="right") a06 wQ wR rfl bA6 rfl rfl rfl ac ac ac (λ_ _ _ _ _ _=>lN3 λ_ _ _=>rfl) qW wS wT wU wV wW
 have aJ8:bS5 K gY jM _ "prime" "number":=c99 (st:=uS) (x0:="self") (x1:="prime") (x2:="number") aK2 a77 a78 rfl bY2 rfl rfl rfl ac ac ac (λ_ _ _ _ _ _=>lN3 λ_ _ _=>rfl) vQ a80 a81 a82 a83 a84
 have qO: ∀n∈(["FallsApart","TooGreat","NotWhole"]:List Str),∀C,mg n=some (.ref C)->aQ8 K iA C [.type "ValueError",.type "Exception",.type "BaseException",.type "object"] "ValueError.__new__":=by
  intro n hn C hm;simp only[aY,eN,eS]at hn;rcases hn with rfl|rfl|rfl
  ·(have e:=hm.symm.trans iZ;cases e;exact aQ9 (.inr ⟨_,lX⟩) qW jK)
  ·(have e:=hm.symm.trans lD;cases e;exact aQ9 (.inl qQ) a79 kJ)
  ·(have e:=hm.symm.trans l8;cases e;exact aQ9 (.inr ⟨_,qN⟩) vQ kK)
 have U14:=aQ0 (st:=aZ3) h14.2.1 h14.2.2.1 h14.2.2.2;have U40:=aQ0 (st:=b69) h40.2.1 h40.2.2.1 h40.2.2.2;have U44:=aQ0 (st:=aC4) h44.2.1 h44.2.2.1 h44.2.2.2;have UR:=aQ0 (st:=a72) c78 bO7 bO8;refine⟨fnOf "law" "law" (k7 aC4) (dQ aC4) (aE aC4) .none P44.choose.kV P44.choose.dc P44.choose.pm P44.choose.an P44.choose.cd P44.choose.ct,λs v=> .of_eq rfl,λbase _ _=> ?_⟩
 have mB:= @fn_b l.prog w K mg base h X G;have mX:= @fnX_b l.prog w K mg base h X G;have qM:=mB P1 (by walk_at "b1") aO8 ag (λ_ _ _ _ _ _ hr=>aJ6 Z gO hr) aM2
 have dJ:=mB P2 (by walk_at "b1") aA2 ag (λ_ _ _ _ _ _ hr=>a73 Z qM hr) a99
 have zY:=mB P3 (by walk_at "b1") b72 ag (λ_ _ _ _ _ _ hr=>cJ5 Z hr) cT1
 have aJ9:=mB P4 ah bY0 ag (λ_ _ _ _ _ _ hr=>bO2 Z hr) bU3
 have cX:=mB P5 ah eC ag (λ_ _ _ _ _ _ hr=>aP2 Z zY hr) aR4
 have nZ:=mB P6 ah sT ag (λ_ _ _ _ _ _ hr=>bB1 Z hr) bL1
 have b84:=mB P7 (by walk_at "b1") xI ag (λ_ _ _ _ _ _ hr=>c74 Z hr) cH7
 have iD:=mB P8 (by walk_at "b0") aO9 ag (λ_ _ _ _ _ _ hr=>aJ7 Z iN uT hr) aM6
 have lW:=mB P10 (by walk_at "b1") wI ag (λ_ _ _ _ _ _ hr=>b78 Z hr) bA0
 have oP:=mB P11 (by walk_at "b1") nS ag (λ_ _ _ _ _ _ hr=>aA4 Z lW nZ cX hr) aH6
 have zZ:=mB P13 ah wJ ag (λ_ _ _ _ _ _ hr=>b79 Z b84 hr) bA1
 have l6:=mB P12 (by walk_at "b1") gE ag (λ_ _ _ _ _ _ hr=>zW Z lW zZ hr) a19
 have aT4:=mB P9 (by walk_at "b1") aJ3 ag (λ_ _ _ _ _ _ hr=>bY9 Z dJ oP l6 hr) c52
 have o7:=mB P15 ah bN9 ag (λ_ _ _ _ _ _ hr=>bB2 Z hr) bK3
 have cK0:Fn l.prog w K mg base "det" jG 1 (gS 0):=Fn.void U14 (cS X G h14.1) (U14.binds (ps:=jG)<|by walk_at "b1") c42
 have cK1:Fn l.prog w K mg base "det" jG 2 (gS 1):=Fn.mk' U14 (cS X G h14.1) (U14.binds (ps:=jG)<|by walk_at "b1") oN (a89 _) (λcdv A outer s H E hr=>a95 Z ac cK0 o7 hr) (aM1 0 ac)
 have cK2:Fn l.prog w K mg base "det" jG 3 (gS 2):=Fn.mk' U14 (cS X G h14.1) (U14.binds (ps:=jG)<|by walk_at "b1") oN (a89 _) (λcdv A outer s H E hr=>a95 Z ac cK1 o7 hr) (aM1 1 ac)
 have cK3:Fn l.prog w K mg base "det" jG 4 (gS 3):=Fn.mk' U14 (cS X G h14.1) (U14.binds (ps:=jG)<|by walk_at "b1") oN (a89 _) (λcdv A outer s H E hr=>a95 Z ac cK2 o7 hr) (aM1 2 ac)
 have cK4:Fn l.prog w K mg base "det" jG 5 (gS 4):=Fn.mk' U14 (cS X G h14.1) (U14.binds (ps:=jG)<|by walk_at "b1") oN (a89 _) (λcdv A outer s H E hr=>a95 Z ac cK3 o7 hr) (aM1 3 ac)
 have aP5:=cK4;have wN:=mB P17 ah jI ag (λ_ _ _ _ _ _ hr=>aX3 Z hr) b22
 have a76:=mB P16 (by walk_at "b1") zU ag (λ_ _ _ _ _ _ hr=>bB3 Z dJ wN aP5 hr) bK4
 have fZ:=mB P18 ah bA4 ag (λ_ _ _ _ _ _ hr=>b80 Z zY hr) b97
 have uU:=mB P21 ah mU ag (λ_ _ _ _ _ _ hr=>aT2 Z hr) aW5
 have a00:=mB P20 (by walk_at "b3") bY1 ag (λ_ _ _ _ _ _ hr=>bO3 Z fZ hr) bT4
 have uW:=mB P19 (by walk_at "b3") kE ag (λ_ _ _ _ _ _ hr=>aT1 Z fZ uU cX a00 hr) aW6
 have wO:=mB P23 ah iL ag (λ_ _ _ _ _ _ hr=>aX4 Z nZ uW hr) b31
 have l7:=mB P25 ah eX ag (λ_ _ _ _ _ _ hr=>zX Z hr) a21
 have nT:=mB P24 ah sK ag (λ_ _ _ _ _ _ hr=>a74 Z l7 hr) aA0
 have a02:=mB P22 ah wK ag (λ_ _ _ _ _ _ hr=>b81 Z iD wO fZ nT hr) b98
 have a01:=mB P27 ah bA5 ag (λ_ _ _ _ _ _ hr=>b82 Z a02 cX hr) b99
 have wP:=mB P26 ah b73 ag (λ_ _ _ _ _ _ hr=>aX5 Z iD a01 hr) b33
 have uX:=mB P28 ah iR ag (λ_ _ _ _ _ _ hr=>aT3 Z cX hr) aW8
 have nV:=mX P29 (by walk_at "b1") uQ rfl a56 (λ_ _ _ _ _ _ hr=>a75 Z iZ lX a03 aT4 hr) aA1
 have rZ:=mX P30 ah mV rfl aM9 (λ_ _ _ _ _ _ hr=>aP3 Z l8 qN aJ8 uX wP aJ9 hr) aS1
 have aK0:=mB P31 ah dB3 ag (λ_ _ _ _ _ _ hr=>cY5 Z hr) d66
 have a96:=mB P32 (by walk_at "b3") b74 ag (λ_ _ _ _ _ _ hr=>cJ6 Z hr) cS4
 have oQ:=mB P33 (by walk_at "b3") xJ ag (λ_ _ _ _ _ _ hr=>cJ7 Z a96 hr) cS5
 have a97:=mB P34 ah zV ag (λ_ _ _ _ _ _ hr=>bZ0 Z hr) c54
 have c76:=mB P35 ah a93 ag (λ_ _ _ _ _ _ hr=>cY6 Z oQ a97 hr) d88
 have a04:=mB P36 (by walk_at "b1") wL ag (λ_ _ _ _ _ _ hr=>b83 Z a96 hr) bA3
 have okR:OkC K qR ["poly","degree","measure"]:=⟨⟨pg_Ring,bO9,po_Ring,bP0⟩,λf hf=>by
  simp only[aY,eN,eS]at hf;rcases hf with rfl|rfl|rfl
  ·exact bP1
  ·exact aT7
  ·exact aK3⟩
 have fR:=cS3 UR cD5 okR ac ac ac cH9 ac (λcdv A outer s H E hr=>cJ9 Z fJ lD qQ dJ a76 nV rZ hr) cU9
 have bR:=UR.binds (ps:=["self","poly"]) λ_ _ _ _ _ _ us hl=>match us,hl with| [_,_],_=>rfl
 have aZ4:MkX l.prog w K mg base "Ring" 10 ["poly","degree","measure"] xF:=⟨qR,aP6,_,["self","poly"],Mk.mk mk_Ring bO6 fn_Ring kc_Ring,okR,fR,bR,b88⟩;have c77:=mB P37 (by walk_at "b3") a94 ag (λ_ _ _ _ _ _ hr=>cY7 Z lB rM qO aZ4 c76 aK0 a04 hr) d86
 have bO5:=mB P38 (by walk_at "b3") rK ag (λ_ _ _ _ _ _ hr=>cJ8 Z hr) cV3
 have b86:=mB P39 ah qJ ag (λ_ _ _ _ _ _ hr=>c75 Z bO5 hr) cI9
 have cZ8:Fn l.prog w K mg base "_law_det" lQ 1 (jC 0):=Fn.void U40 (cS X G h40.1) (U40.binds (ps:=lQ)<|by walk_at "b1") cJ0
 have cZ9:Fn l.prog w K mg base "_law_det" lQ 2 (jC 1):=Fn.mk' U40 (cS X G h40.1) (U40.binds (ps:=lQ)<|by walk_at "b1") vO (aN6 _) (λcdv A outer s H E hr=>aP4 Z ac cZ8 hr) (aZ2 0 ac)
 have d00:Fn l.prog w K mg base "_law_det" lQ 3 (jC 2):=Fn.mk' U40 (cS X G h40.1) (U40.binds (ps:=lQ)<|by walk_at "b1") vO (aN6 _) (λcdv A outer s H E hr=>aP4 Z ac cZ9 hr) (aZ2 1 ac)
 have d01:Fn l.prog w K mg base "_law_det" lQ 4 (jC 3):=Fn.mk' U40 (cS X G h40.1) (U40.binds (ps:=lQ)<|by walk_at "b1") vO (aN6 _) (λcdv A outer s H E hr=>aP4 Z ac d00 hr) (aZ2 2 ac)
 have d02:Fn l.prog w K mg base "_law_det" lQ 5 (jC 4):=Fn.mk' U40 (cS X G h40.1) (U40.binds (ps:=lQ)<|by walk_at "b1") vO (aN6 _) (λcdv A outer s H E hr=>aP4 Z ac d01 hr) (aZ2 3 ac)
 have b85:=d02;have cY9:=mB P41 ah rY ag (λ_ _ _ _ _ _ hr=>dB7 Z b86 b85 hr) rd_own
 have aK1:=mB P42 (by walk_at "b3") rL ag (λ_ _ _ _ _ _ hr=>bO4 Z cY9 hr) bW9
 have aT5:=mB P43 (by walk_at "b1") aJ4 ag (λ_ _ _ _ _ _ hr=>bZ1 Z hr) c63
 exact bI3 U44 qK d67 (λcdv A outer s H E hr=>⟨bN3,dB8 Z c77 aK0 oQ aT5 aK1 hr,rd_law⟩)
end M
open PySem PySem.W PyProof.Rows
local macro_rules| `(tactic| walk_at "f")=> `(tactic| (refine' M.fnAt ?x1 ?x2 ?x3 ?x4;(case x1=>k_is);(case x2=>k_is);(case x3=>k_is);(case x4=>k_is)))
namespace PySem.W.Fast
def tw14171571390363410337:=()
def tw390222810807962847:=()
def tw14426812314370133221:=()
def tw14805393932945812250:=()
def tw514563510695473346:=()
def tw8833276080242104058:=()
def tw9568972525637585896:=()
def tw6623516947256123445:=()
def tw18031426848648243672:=()
def tw13237756931091537579:=()
def tw9988333554381591439:=()
def tw1463553481797331783:=()
def tw969647829141688691:=()
def tw5956869925841789722:=()
def tw6183686489890500225:=()
def tw16394105536024715455:=()
def tw15089863567861925886:=()
def tw16227027551332366399:=()
def tw253465375021762956:=()
def tw16042829762618111017:=()
def tw8139811666914652246:=()
def tw12545609975580342862:=()
def tw6319121121334484853:=()
def tw6705030621262819530:=()
def tw3752746241911239406:=()
def tw18177833020447201861:=()
def tw10671052927962793099:=()
def tw10263814766193963636:=()
def tw2033169356258893445:=()
def tw11275498786986611900:=()
def tw10505478958774985969:=()
def tw7623895178820592219:=()
def tw10690294294919820425:=()
def tw835071879673705306:=()
def tw913319584873586696:=()
def tw17105848638147033897:=()
def tw4129870054166882114:=()
def tw4716909291912009994:=()
def tw13005048555511448931:=()
def tw12939006481612535746:=()
def tw4850224739268249464:=()
def tw11760346956991244963:=()
def tw8508093483228547550:=()
def tw895177582258325772:=()
def tw8976831696935748973:=()
def tw2129901683226442637:=()
def tw7076336725712699203:=()
def tw4052360234302605395:=()
def tw10818807021875511307:=()
def tw12447746949253813598:=()
def tw12589314905452892053:=()
def tw11565758870378603409:=()
def tw11141200071174629559:=()
def tw14202303870680751721:=()
def tw18263117609951702570:=()
def tw4508081557825457600:=()
def tw6877537510218459358:=()
def tw9931428401385166935:=()
def tw6279602093824270749:=()
def tw7457214898268991302:=()
def tw7317711675137190269:=()
def tw9695407369192059824:=()
def tw7593912765195015406:=()
def tw14912923542544617441:=()
def tw15030413490942470964:=()
def tw15815114942478310653:=()
def tw9112069519830644476:=()
def tw382420881886138442:=()
def tw3707498843665720781:=()
def tw7363864378612544144:=()
def tw5336847942262300851:=()
def tw5101458016170371234:=()
def tw7712422778797609784:=()
def tw13905818864301230885:=()
def tw4394437431357028678:=()
def tw15123956663041189988:=()
def tw6642709051197216703:=()
def tw2933962953501647907:=()
def tw5254405739817760753:=()
def tw5745387303814442215:=()
def tw753245907858200713:=()
def tw12589204168224440516:=()
def tw8752907863572099844:=()
def tw7315167421095772003:=()
def tw12761110684336915717:=()
def tw18116367824348152079:=()
def tw17482252675736815611:=()
def tw17572003476223413636:=()
def tw8225980826681667897:=()
def tw16966530276389307109:=()
def tw16118362141963330136:=()
def tw5086113774915829365:=()
def tw15312908828955339084:=()
def tw16669709332587809924:=()
def tw1015252313301623268:=()
def tw11318468277781899523:=()
def tw7925796221336387091:=()
def tw17959028230347488020:=()
def tw14062837780924509660:=()
def tw3288990454860360416:=()
def tw16844989211224952024:=()
def tw17102186261107032895:=()
def tw2162395711784976876:=()
def tw1432642503138931953:=()
def tw2824493895595915141:=()
def tw16218639557476448005:=()
def tw10264884440206372268:=()
def tw6248478754570941641:=()
def tw933521720889172370:=()
def tw7565740556038659446:=()
def tw14566209446978052982:=()
def tw11500751280905848403:=()
def tw6491478159517623230:=()
def tw8250548814113480644:=()
def tw16578972969322150662:=()
def tw12295265038699830476:=()
def tw17009467162386652975:=()
def tw7016915740626102855:=()
def tw15456250773896895598:=()
def tw12268196291618848756:=()
def tw8833875934501516478:=()
def tw4567323465952011219:=()
def tw14729091963167195756:=()
def tw4582927457884199124:=()
def tw11066716883369541482:=()
def tw7724826617132240280:=()
def tw13089557521804677133:=()
def tw14798181565407009922:=()
def tw17859603322427019566:=()
def tw14605869126721837855:=()
def tw17319283576711768829:=()
def tw2727219555740832746:=()
def tw6483735403492894535:=()
def tw1523771982756587112:=()
def tw12795926393787156138:=()
end PySem.W.Fast
set_option maxRecDepth 100000 in
set_option maxHeartbeats 0 in
theorem PySem.Challenge.cw_ringhouse_k17_whole_no_quotient_holds : PySem.Challenge.rw_ringhouse_k17_whole_no_quotient.Holds := by
 w_on;o_law;k_head;(case hw=>w_witness2)
 k_fill
 refine M.walkM (l:=PySem.Challenge.rw_ringhouse_k17_whole_no_quotient) (k:=13) (x:="_law_script") rfl rfl ⟨rfl,ac,ac⟩ (λw h Y=>PySem.W.kIn_of Y) ?F
 case F=>
  intro w mg fa h KX G hmg
  refine' M.all_mk KX G hmg ?P1 ?P2 ?P3 ?P4 ?P5 ?P6 ?P7 ?P8 ?P9 ?P10 ?P11 ?P12 ?P13 ?P14 ?P15 ?P16 ?P17 ?P18 ?P19 ?P20 ?P21 ?P22 ?P23 ?P24 ?P25 ?P26 ?P27 ?P28 ?P29 ?P30 ?P31 ?P32 ?P33 ?P34 ?P35 ?P36 ?P37 ?P38 ?P39 ?P40 ?P41 ?P42 ?P43 ?P44 ?iZ ?l8 ?lD ?lB ?b88 ?aC7 ?aV8 ?bO6 ?a06 ?aK2 ?c78 ?wQ ?wR ?a77 ?a78 ?bO7 ?bO8 ?lX ?qN ?qQ ?rM ?qW ?vQ ?a79 ?jK ?kJ ?kK ?wS ?wT ?wU ?wV ?wW ?a80 ?a81 ?a82 ?a83 ?a84 ?mk_Ring ?fn_Ring ?kc_Ring ?pg_Ring ?bO9 ?po_Ring ?bP0 ?bP1 ?aT7 ?aK3 ?cZ0 ?cZ1 ?cZ2 ?cZ3 ?c79 ?aK4 ?bP2 ?a85 ?bP3 ?cZ4 ?cZ5 ?b89 ?cZ6 ?cZ7 ?gO ?fJ ?iN ?sA ?sB ?sC
  (case P1|P2|P3|P4|P5|P6|P7|P8|P9|P10|P11|P12|P13|P14|P15|P16|P17|P18|P19|P20|P21|P22|P23|P24|P25|P26|P27|P28|P29|P30|P31|P32|P33|P34|P35|P36|P37|P38|P39|P40|P41|P42|P43|P44=>walk_at "f");(case iZ|l8|lD|lB|b88|aC7|aV8|bO6|a06|aK2|c78|wQ|wR|a77|a78|bO7|bO8|qW|vQ|a79|wU|wV|wW|a82|a83|a84|mk_Ring|fn_Ring|kc_Ring|pg_Ring|bO9|po_Ring|bP0|bP1|aT7|aK3|cZ0|cZ1|cZ2|cZ3|c79|aK4|bP2|a85|bP3|cZ4|cZ5|b89|cZ6|cZ7|gO|fJ|iN|sA=>k_is);(case lX|qN=>first|kernel_rfl|rfl);(case qQ|rM=>k_exc);(case jK|kJ|kK|wS|wT|a80|a81=>first|kernel_rfl|rfl|decide);(case sB=>first|decide| (trace_state;decide +kernel));(case sC=>first| (show L2.Vals (List.map _ _) (List.toList _);simp only[M.T_SMALL_PRIMES,List.map];repeat (first|exact .nil|refine .cons (.int _ _) ?_))| (repeat constructor)|trace_state)
