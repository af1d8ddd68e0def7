import PyProof.Rows.All
import Wide.All
import OpenK.AllK
import Wide.FinOn
import Lean
import PyProof.EqAt
import PyProof.EqKinds
import PyProof.TupleCall
import PySem.Challenge.RW_ringhouse_k72_whole_sees_split
set_option Elab.async false
set_option linter.all false
open PySem.W (methodObj Frag keepIn fnOf codeIn KasT kas_sort nsIn)
open List (replicate length all_cons foldl forIn_nil nodup_nil Nodup)
open Nat (add_comm pow_succ pow_add sub_zero mul_succ sub_self zero_add)
open Int (pow_one dvd_add toNat)
open Bool (xor_true)
open PySem.Heap (SameBut ExtBut)
open Option (getD_none map_some)
open Array (toList)
set_option maxRecDepth 100000
local macro_rules | `(tactic| walk_at "z") => `(tactic| first|exact .inl rfl|exact .inr rfl|assumption)
def aa{p:Prop}(h:p:=by omega):p:=h
def ac{p:Prop}(h:p:=by decide):p:=h
def ad{p:Prop}(h:p:=by lia):p:=h
def ae{p:Prop}(h:p:=by simp):p:=h
def af{p:Prop}(h:p:=by decide +kernel):p:=h
def ag{p:Prop}(h:p:=by walk_at "n"):p:=h
def ah{p:Prop}(h:p:=by walk_at "b2"):p:=h
def a9:= @PySem.wpAny_bind
def a7:= @if_neg
def a8:= @if_pos
def aQ:= @List.getD_eq_getElem?_getD
def aO:= @PySem.Heap.get?_push_of_some
def aC:= @Nat.le_refl
def aI:= @List.length_map
def aP:= @List.mem_cons_self
def aF:= @PySem.wpAny_pure
def aU:= @List.size_toArray
def bJ:= @List.getElem?_eq_getElem
def b6:= @List.mem_cons_of_mem
def aM:= @PySem.Heap.lt_size
def aY:= @Bool.false_ne_true
def b7:= @Int.emod_lt_of_pos
def aR:= @List.mem_cons
def bK:= @PySem.Heap.get?_push_size
def aV:= @Nat.le_trans
def bO:= @Nat.lt_of_lt_of_le
def b9:= @Int.emod_nonneg
def bD:= @decide_eq_false
def aW:= @Nat.ne_of_lt
def bB:= @decide_eq_true
def cL:= @List.mem_append_right
def bT:= @List.length_set
def bU:= @List.map_append
def c8:= @Bool.and_eq_true
def bQ:= @Int.mul_zero
def cB:= @List.mem_append
def fF:= @List.getElem?_eq_some_iff
def cT:= @List.length_cons
def cM:= @Nat.zero_lt_succ
def d7:= @List.mem_singleton
def cC:= @List.mem_range
def c9:= @Int.zero_emod
def dD:= @List.getElem?_map
def cU:= @List.lookup_cons
def dE:= @Int.emod_eq_of_lt
def gL:= @PyProof.Rows.callWith_type1
def cD:= @List.map_cons
def bC:= @congrArg
def dY:= @PySem.W.mg_none_of
def bR:= @PySem.wpAny_mono
def cE:= @List.map_map
def iL:= @Int.mul_le_mul_of_nonneg_left
def cF:= @PySem.wpAny_field
def fG:= @List.length_append
def cN:= @Int.zero_add
def dZ:= @Option.some.inj
def eO:= @List.not_mem_nil
def fH:= @Int.toNat_natCast
def fI:= @PySem.Heap.get?_push_ne
def fJ:= @decide_eq_true_eq
def gM:= @List.mem_of_getElem?
def bY:= @And.right
def cO:= @Nat.zero_le
def dQ:= @Nat.lt_irrefl
def fK:= @PySem.wpAny_call_entry
def fT:= @Nat.lt_succ_of_lt
def iM:= @PySem.wpAny_callSpecial?_slot
def iN:= @Int.dvd_of_emod_eq_zero
def e9:= @PySem.wpAny_holding
def fL:= @List.range_succ
def fU:= @List.getElem_mem
def i5:= @List.replicate_succ
def iO:= @List.getElem?_eq_none
def eC:= @List.mem_map
def i6:= @Bool.false_eq_true
def i7:= @List.pairwise_cons
def iP:= @List.mem_append_left
def gN:= @List.all_eq_true
def gO:= @PySem.Heap.size_update
def eQ:= @Int.mul_emod
def i8:= @PySem.wpAny_newObj_type
def i9:= @List.ext_getElem
def gP:= @Bool.false_xor
def kO:= @Int.dvd_mul_of_dvd_left
def iQ:= @of_decide_eq_true
def iR:= @List.length_range
def jL:= @Array.length_toList
def fV:= @Int.add_emod
def fW:= @Int.zero_mul
def nY:= @List.getElem?_append_right
def gQ:= @Int.emod_emod
def r8:= @PySem.F.slot_tuple_iterator_next
def kP:= @Bool.beq_eq_decide_eq
def jM:= @Nat.add_sub_cancel
def rA:= @PyProof.Rows.slot_tuple_getitem
def dR:= @if_false
def gR:= @Int.add_zero
def gS:= @Int.pow_zero
def jN:= @PySem.wpAny_truthy_bool
def jO:= @List.flatten_cons
def iA:= @Bool.true_xor
def nZ:= @Int.emod_eq_zero_of_dvd
def kQ:= @PySem.mem_of_lookup
def kR:= @List.map_congr_left
def kS:= @Nat.mul_le_mul_left
def iS:= @PySem.Heap.size_push
def iT:= @PySem.wpAny_seqItems
def kT:= @PySem.Obj.data_mapFields
def kU:= @PySem.wpAny_setField_rec
def kW:= @Nat.lt_of_le_of_lt
def jP:= @PySem.wpAny_passesOwn
def eS:= @or_false
def kX:= @List.pairwise_map
def rB:= @List.getElem?_append_left
def rC:= @List.pairwise_iff_getElem
def iB:= @PySem.wpAny_of_eq
def fM:= @Prod.ext
def o7:= @List.filterMap_cons
def o8:= @PySem.Heap.SameBut.update
def rD:= @List.length_eq_zero_iff
def rE:= @List.pairwise_singleton
def eT:= @if_true
def jQ:= @Int.mul_assoc
def rF:= @Nat.lt_of_succ_lt_succ
def o9:= @PySem.wpAny_pyIter_list
def rG:= @PySem.Heap.get?_update_self
def rH:= @PySem.F.slot_zip_next
def kY:= @PySem.isSubtype_type
def rJ:= @PySem.builtinLookup_eq_fast
def oA:= @List.filter_cons
def rK:= @List.pairwise_append
def w4:= @PyProof.Rows.boot_reversed
def kZ:= @List.map_take
def l6:= @Nat.add_assoc
def rL:= @PySem.Heap.get?_update_ne
def oB:= @List.nodup_cons
def w6:= @Decidable.byContradiction
def oC:= @PySem.PassesOwn.never
def l7:= @Nat.ne_of_gt
def rM:= @PySem.wpAny_Call_Name_kw
def w8:= @Option.isSome_iff_exists
def wA:= @PySem.F.args_tuple_add_2
def l8:= @List.map_nil
def wB:= @PySem.AutoSeq1.wpAny_loadPart'
def l9:= @List.set_set
def lB:= @Int.pow_succ
def rN:= @of_decide_eq_false
def oD:= @PySem.wpAny_setField
def jR:= @PySem.wpAny_rule
def oE:= @Nat.mul_le_mul
def wC:= @PySem.F.entry_tuple_add
def wD:= @decide_eq_false_iff_not
def rO:= @List.reverse_cons
def rP:= @List.ext_getElem?
def rQ:= @Bool.not_eq_true'
def rR:= @Int.lt_trichotomy
def lD:= @Int.mul_one
def wE:= @PySem.wpAny_pyIter_rangeiter
def wF:= @PySem.W.cellsFrom_some
def wG:= @PySem.F.slot_tuple_add
def wH:= @List.take_of_length_le
def oF:= @PySem.wpAny_attempt
def oG:= @PyProof.Rows.listUpdate_at
def a61:= @Bool.not_true
def oH:= @PySem.W.mg_of
def rS:= @List.length_take
def rT:= @List.length_drop
def wI:= @PySem.Obj.isFreed_of_fields
def wJ:= @List.countP_mono_left
def wK:= @Int.emod_add_mul_ediv
def rV:= @List.mem_filter
def rW:= @PySem.wpAny_execs_nil
def rX:= @Bool.eq_iff_iff
def rY:= @List.forIn_cons
def wL:= @PySem.wpAny_updateSeq_pair
def rZ:= @PySem.typeLookup_type
def lF:= @PyProof.Rows.size_push'
def oI:= @Int.sub_emod
def sA:= @Bool.or_eq_true
def wM:= @Int.toNat_of_nonneg
def oJ:= @PyProof.Rows.seqEpoch_at
def wN:= @List.zip_cons_cons
def sB:= @PySem.wpAny_standAt
def sC:= @List.any_cons
def sD:= @PySem.wpAny_onRaise
def sE:= @PySem.wpAny_newList
def wO:= @List.getElem?_set
def wP:= @bne_self_eq_false
def oK:= @beq_iff_eq
def sF:= @Nat.le_of_lt
def wQ:= @PySem.noFill_tuple_add
def sG:= @PySem.seqIndex_neg
def wR:= @PySem.wpAny_isInstance
def wS:= @PySem.Around.in1_units
def sJ:= @Int.mul_comm
def sK:= @Int.add_comm
def wT:= @Nat.succ_lt_succ
def wU:= @List.append_nil
def wV:= @List.of_mem_zip
def wW:= @PySem.pushCells_keeps
def wX:= @PySem.wpAny_specialOf
def wY:= @Nat.not_lt_zero
def wZ:= @Nat.min_eq_left
def sL:= @PySem.seqIndex_of
def sM:= @Nat.le_succ
def sN:= @Int.one_mul
def sO:= @Int.add_mul
def sP:= @Int.mul_add
set_option compiler.extract_closed false
set_option bootstrap.genMatcherCode false
namespace L2
open PySem PySem.Spec PyProof.Rows
abbrev Key:=Sum Int Str
noncomputable def bZ1:Key->Value->Bool
 | .inl k,v=>Value.isInt k v
 | .inr x,v=>Value.isStrOf x v
noncomputable def keyH (w:World):Key->Int
 | .inl k=>hashInt k
 | .inr x=>hashStr w x
theorem gH: ∀{k:Key} {v:Value},bZ1 k v=true->(∃i t,k=Sum.inl i/\v=Value.int i t)\/(∃x t,k=Sum.inr x/\v=Value.str x t)
 | .inl i,v,h=>by
  obtain⟨t,e⟩:=Value.isInt_shape (k:=i) (v:=v) h;exact .inl ⟨i,t,rfl,e⟩
 | .inr x,v,h=>by
  obtain⟨t,e⟩:=Value.isStrOf_shape (x:=x) (v:=v) h;exact .inr ⟨x,t,rfl,e⟩
theorem key_ll (a b:Int):decide ((Sum.inl a:Key)=Sum.inl b)=(a==b):=by
 by_cases e:a=b
 ·subst e;simp
 ·have h: ¬(Sum.inl a:Key)=Sum.inl b:=λq=>e (Sum.inl.inj q)
  rw[bD h];exact(beq_eq_false_iff_ne.mpr e).symm
theorem key_rr (a b:Str):decide ((Sum.inr a:Key)=Sum.inr b)=decide (a=b):=by
 by_cases e:a=b
 ·subst e;simp
 ·have h: ¬(Sum.inr a:Key)=Sum.inr b:=λq=>e (Sum.inr.inj q)
  rw[bD h,bD e]
theorem key_lr (a:Int)(b:Str):decide ((Sum.inl a:Key)=Sum.inr b)=false:=bD (λq=>nomatch q)
theorem key_rl (a:Str)(b:Int):decide ((Sum.inr a:Key)=Sum.inl b)=false:=bD (λq=>nomatch q)
noncomputable def b38 (prog:Program)(w:World):PySem.KeyKind prog w Key where
 is:=bZ1
 hash:=keyH w
 inj:=λv a b ha hb=>by
  rcases gH ha with⟨i,t,rfl,rfl⟩| ⟨x,t,rfl,rfl⟩
  ·rcases gH hb with⟨j,u,rfl,e⟩| ⟨y,u,rfl,e⟩
   ·injection e with e1 _;rw[e1]
   ·exact nomatch e
  ·rcases gH hb with⟨j,u,rfl,e⟩| ⟨y,u,rfl,e⟩
   ·exact nomatch e
   ·injection e with e1 _;rw[e1]
 byValue:=λk v h=>by
  rcases gH h with⟨i,t,rfl,rfl⟩| ⟨x,t,rfl,rfl⟩<;>rfl
 pyHash:=λhv h=>by
  rcases gH hv with⟨i,t,rfl,rfl⟩| ⟨x,t,rfl,rfl⟩
  ·exact wpAny_pyHash_int h
  ·exact wpAny_pyHash_str h
 eqBool:=λhu hv h=>by
  rcases gH hu with⟨i,t,rfl,rfl⟩| ⟨x,t,rfl,rfl⟩
  ·rcases gH hv with⟨j,u,rfl,rfl⟩| ⟨y,u,rfl,rfl⟩
   ·rw[key_ll]at h;exact wpAny_eqBool_int h
   ·rw[key_lr]at h;exact SeqAt.EqAt.int_str i t y u _ _ _ _ h
  ·rcases gH hv with⟨j,u,rfl,rfl⟩| ⟨y,u,rfl,rfl⟩
   ·rw[key_rl]at h;exact SeqAt.EqAt.str_int x t j u _ _ _ _ h
   ·rw[key_rr]at h;exact wpAny_eqBool_str h
 «strs» :=λk x t v h=>by
  rcases gH h with⟨i,u,rfl,e⟩| ⟨y,u,rfl,e⟩
  ·exact nomatch e
  ·injection e with e1 _
   subst e1;cases v<;>rfl
end L2
namespace L2
open PySem PySem.Spec PyProof.Rows
inductive V where
 | non|bl (b:Bool)|int (i:Int)|str (x:Str)|byt (b:Array UInt8)|flt (b:UInt64)|ref (a:Addr)|ty (n:String)
 deriving DecidableEq
def RelV:V->Value->Prop
 | .non,u=>u=Value.none
 | .bl b,u=>u=Value.bool b
 | .int i,u=> ∃t,u=Value.int i t
 | .str x,u=> ∃t,u=Value.str x t
 | .byt b,u=> ∃t,u=Value.bytes b t
 | .flt b,u=> ∃t,u=Value.float b t
 | .ref a,u=>u=Value.ref a
 | .ty n,u=>u=Value.type n
abbrev Vals:List V->List Value->Prop:=Paired RelV
theorem Vals.length {xs:List V}{us:List Value}(r:Vals xs us):xs.length=us.length:=Paired.length r
theorem Vals.get: ∀{xs:List V} {us:List Value} {i:Nat} {x:V},Vals xs us->xs[i]? =some x-> ∃u,us[i]? =some u/\RelV x u
 | _,_,_,_,.nil,e=>by simp at e
 | _,_,0,_,.cons r _,e=>by simp at e;subst e;exact⟨_,rfl,r⟩
 | _,_,i+1,x,.cons _ t,e=>by
  obtain⟨u,h1,h2⟩:=Vals.get (i:=i) (x:=x) t (by simpa using e)
  exact⟨u,by simpa using h1,h2⟩
theorem Vals.set {x:V}{u:Value}(r:RelV x u): ∀{xs:List V} {us:List Value} (i:Nat),Vals xs us->Vals (xs.set i x) (us.set i u)
 | _,_,_,.nil=> .nil
 | _,_,0,.cons _ t=> .cons r t
 | _,_,i+1,.cons q t=> .cons q (Vals.set r i t)
theorem Vals.append: ∀{xs ys:List V} {us ws:List Value},Vals xs us->Vals ys ws->Vals (xs++ys) (us++ws)
 | _,_,_,_,.nil,s=>s
 | _,_,_,_,.cons r t,s=> .cons r (Vals.append t s)
theorem Vals.take: ∀{xs:List V} {us:List Value} (n:Nat),Vals xs us->Vals (xs.take n) (us.take n)
 | _,_,0,_=> .nil
 | _,_,_+1,.nil=> .nil
 | _,_,n+1,.cons r t=> .cons r (Vals.take n t)
theorem Vals.drop: ∀{xs:List V} {us:List Value} (n:Nat),Vals xs us->Vals (xs.drop n) (us.drop n)
 | _,_,0,r=>r
 | _,_,_+1,.nil=> .nil
 | _,_,n+1,.cons _ t=>Vals.drop n t
def RelO:Option V->Option Value->Prop
 | some v,some u=>RelV v u
 | none,none=>True
 | _,_=>False
def KV {κ:Type}:List (κ×V)->List (κ×Value)->Prop:=Paired fun(p:κ×V) (q:κ×Value)=>p.1=q.1/\RelV p.2 q.2
noncomputable def kV:Key->V
 | .inl i=> .int i
 | .inr x=> .str x
inductive HO where
 | lst (xs:List V)
 | tup (xs:List V)
 | dK (kvs:List (Key×V))|dT (kvs:List (List Key×V))
 | set (S:Int->Bool) (n:Nat)
 | ins (C dx:Addr) (fs:List (Str×V))
 | own (x:Addr)
 | xd (fs:List (Str×V))
 | met (f x:Addr)
 | rng (lo hi:Int)
 | frz (o:Obj) (u:HO)
 | tbl (ps:Array Value)
 | ext (φ:Heap->Prop)
abbrev Hp:=Addr->Option HO
noncomputable def upd (H:Hp)(a:Addr)(o:HO):Hp:=λb=>if b=a then some o else H b
theorem lZ {H:Hp}{a:Addr}{o:HO}:upd H a o a=some o:=by unfold upd;rw[a8 rfl]
theorem dG {H:Hp}{a b:Addr}{o:HO}(h:b≠a):upd H a o b=H b:=by unfold upd;rw[a7 h]
theorem fX {H:Hp}{a b:Addr}{o:HO}(h:H a=some o)(h':H b=none):a≠b:=by
 intro e;subst e;rw[h]at h';cases h'
section
variable (P:Program)(w:World)
noncomputable def oM (H:Hp)(h:Heap)(a:Addr):HO->Prop
 | .lst xs=>xs.length<=sizeLine/\ ∃(its:List Value) (n:Nat),Vals xs its/\h.get? a=some {cls:= .type "list",data:= .seq its.toArray n}
 | .tup xs=>xs.length<=sizeLine/\ ∃its:List Value,Vals xs its/\IsTup h a its.toArray
 | .dK kvs=>kvs.length<=sizeLine/\(a==sysModules)=false/\ ∃vs,KV kvs vs/\h.DictOf (b38 P w) a vs
 | .dT kvs=>kvs.length<=sizeLine/\(a==sysModules)=false/\ ∃xs:List (List Key×Addr×Value),
   Paired (fun(p:List Key×V) (q:List Key×Addr×Value)=>p.1=q.1/\H q.2.1=some (.tup<|p.1.map kV)/\RelV p.2 q.2.2) kvs xs/\
   ∃o es ep,h.get? a=some o/\o.ExactDict/\o.data= .dict es ep/\es.toList=xs.map (entryOfKey<|tupleKind<|b38 P w)/\(xs.map (·.1)).Nodup
 | .set S n=>h.SetOf (intKind P w) a S n
 | .ins C dx fs=>H dx=some (.own a)/\fs.length<=1000/\dx≠a/\h.get? a=some (PySem.W.instObj C dx)/\
   ∃mA,h.Ns1 dx mA/\(∀f,RelO (fs.lookup f)<|mA f)/\PySem.Within mA (fs.map (·.1))
 | .own _=> ∃o,h.get? a=some o
 | .xd fs=> ∃mA,h.Ns1 a mA/\ ∀f,RelO (fs.lookup f) (mA f)
 | .rng lo hi=> ∃t u v,h.get? a=some {cls:= .type "range",data:= .fields #[.int lo t,.int hi u,.int 1 v]}
 | .frz o u=>h.get? a=some o/\oM H h a u
 | .tbl ps=>h.get? a=some {cls:= .none,data:= .fields ps}
 | .met f x=>h.get? a=some (methodObj (.ref f)<|.ref x)
 | .ext φ=>φ h/\(∃o,h.get? a=some o)/\ ∀h1 h2:Heap,φ h1->(∀o,h1.get? a=some o->h2.get? a=some o)->φ h2
def HOk (H:Hp)(h:Heap):Prop:= ∀a o,H a=some o->oM P w H h a o
end
section
variable {P:Program}{w:World}{H H':Hp}{h h':Heap}{a:Addr}{o:HO}
theorem oM.lt (x:oM P w H h a o):a<h.objs.size:=by
 cases o with
 | lst xs=>obtain⟨_,_,_,_,e⟩:=x;exact aM e
 | tup xs=>obtain⟨_,_,_,p⟩:=x;exact p.lt
 | dK kvs=>obtain⟨_,_,_,_,o,_,_,e,_⟩:=x;exact aM e
 | dT kvs=>obtain⟨_,_,_,_,o,_,_,e,_⟩:=x;exact aM e
 | set S n=>obtain⟨o,_,_,_,e,_⟩:=x;exact aM e
 | ins C dx fs=>obtain⟨_,_,_,e,_⟩:=x;exact aM e
 | own y=>obtain⟨_,e⟩:=x;exact aM e
 | xd fs=>obtain⟨_,⟨_,_,_,e,_⟩,_⟩:=x;exact aM e
 | rng lo hi=>obtain⟨_,_,_,e⟩:=x;exact aM e
 | frz ob u=>obtain⟨e,_⟩:=x;exact aM e
 | tbl ps=>exact aM (show h.get? a=some _ from x)
 | met f y=>exact aM (show h.get? a=some _ from x)
 | ext φ=>obtain⟨_,⟨_,e⟩,_⟩:=x;exact aM e
theorem Paired.mapP {α β:Type}{F G:α->β->Prop}: ∀{l₁:List α} {l₂:List β},Paired F l₁ l₂->(∀a b,F a b->G a b)->Paired G l₁ l₂
 | _,_,.nil,_=> .nil
 | _,_,.cons r t,f=> .cons (f _ _ r) (Paired.mapP t f)
theorem oM.stay (x:oM P w H h a o)(k: ∀b u,(b=a\/H b=some (.own a))->h.get? b=some u->h'.get? b=some u)
  (ho: ∀b,H b=some (.own a)->H' b=some (.own a)) (ht: ∀b xs,H b=some (.tup xs)->H' b=some (.tup xs)):oM P w H' h' a o:=by
 induction o with
 | lst xs=>obtain⟨z,its,n,r,e⟩:=x;exact⟨z,its,n,r,k _ _ (.inl rfl) e⟩
 | tup xs=>obtain⟨z,its,r,ob,e,c⟩:=x;exact⟨z,its,r,ob,k _ _ (.inl rfl) e,c⟩
 | dK kvs=>obtain⟨z,y,vs,r,ob,es,ep,e,c⟩:=x;exact⟨z,y,vs,r,ob,es,ep,k _ _ (.inl rfl) e,c⟩
 | dT kvs=>
  obtain⟨z,y,xs,r,ob,es,ep,e,c⟩:=x;exact⟨z,y,xs,Paired.mapP r λp q z=>⟨z.1,ht _ _ z.2.1,z.2.2⟩,ob,es,ep,k _ _ (.inl rfl) e,c⟩
 | set S n=>obtain⟨ob,es,ep,t,e,c⟩:=x;exact⟨ob,es,ep,t,k _ _ (.inl rfl) e,c⟩
 | ins C dx fs=>
  obtain⟨d,z,ne,e,mA,⟨od,es,ep,e2,c⟩,r⟩:=x;exact⟨ho _ d,z,ne,k _ _ (.inl rfl) e,mA,⟨od,es,ep,k _ _ (.inr d) e2,c⟩,r⟩
 | own y=>obtain⟨ob,e⟩:=x;exact⟨ob,k _ _ (.inl rfl) e⟩
 | xd fs=>obtain⟨mA,⟨od,es,ep,e,c⟩,r⟩:=x;exact⟨mA,⟨od,es,ep,k _ _ (.inl rfl) e,c⟩,r⟩
 | rng lo hi=>obtain⟨t,u,v,e⟩:=x;exact⟨t,u,v,k _ _ (.inl rfl) e⟩
 | frz ob u ih=>obtain⟨e,q⟩:=x;exact⟨k _ _ (.inl rfl) e,ih q⟩
 | tbl ps=>
  have e:h.get? a=some {cls:= .none,data:= .fields ps}:=x;show h'.get? a=some {cls:= .none,data:= .fields ps};exact k a _ (.inl rfl) e
 | met f y=>
  have e:h.get? a=some (methodObj (.ref f)<|.ref y):=x;show h'.get? a=some (methodObj (.ref f)<|.ref y);exact k a _ (.inl rfl) e
 | ext φ=>obtain⟨p,⟨o,e⟩,st⟩:=x;exact⟨st _ _ p λo q=>k _ _ (.inl rfl) q,⟨o,k _ _ (.inl rfl) e⟩,st⟩
theorem HOk.lt (x:HOk P w H h)(e:H a=some o):a<h.objs.size:=(x a o e).lt
theorem HOk.fresh (x:HOk P w H h)(e:h.objs.size<=a):H a=none:=by
 cases q:H a with
 | none=>rfl
 | some u=>exact absurd (bO (x.lt q) e) (dQ _)
theorem HOk.kept (x:HOk P w H h)(k: ∀b u,h.get? b=some u->h'.get? b=some u):HOk P w H h':=λa o e=>
 (x a o e).stay (λb u _ q=>k b u q) (λ_ q=>q) λ_ _ q=>q
theorem HOk.laid (x:HOk P w H h)(k: ∀b u,h.get? b=some u->h'.get? b=some u)(hp:h.objs.size<=a)(new:oM P w (upd H a o) h' a o):HOk P w (upd H a o) h':=λb u e=>by
 have hn:=x.fresh hp
 by_cases hb:b=a
 ·subst hb;rw[lZ]at e;cases e;exact new
 ·rw[dG hb]at e;exact(x b u e).stay (λc v _ q=>k c v q) (λc q=>by rw[dG<|fX q hn];exact q) λc xs q=>by rw[dG<|fX q hn];exact q
end
def Rd (H:Hp)(a:Addr)(u:HO):Prop:=H a=some u\/ ∃o,H a=some (.frz o u)
theorem Rd.ok {P:Program}{w:World}{H:Hp}{h:Heap}{a:Addr}{u:HO}(r:Rd H a u)(x:HOk P w H h):oM P w H h a u:=by
 rcases r with r| ⟨o,r⟩
 ·exact x a u r
 ·obtain⟨_,q⟩:=x a _ r;exact q
def Mut:Option HO->Prop
 | some (.lst _)=>True
 | some (.dK _)=>True
 | some (.dT _)=>True
 | some (.set _ _)=>True
 | some (.ins _ _ _)=>True
 | some (.ext _)=>True
 | _=>False
section
variable {P:Program}{w:World}{H:Hp}{h h':Heap}{x e:Addr}{o':HO}
theorem HOk.write (ok:HOk P w H h)(mu:Mut (H x))(he:e=x\/H e=some (.own x))(k: ∀b u,b≠e->h.get? b=some u->h'.get? b=some u)(heo: ∃u,h'.get? e=some u)
  (new:oM P w (upd H x o') h' x o'):HOk P w (upd H x o') h':=λb u q=>by
 have nown: ∀c y,H c=some (.own y)->c≠x:=λc y r z=>by subst z;rw[r]at mu;exact mu
 have ntup: ∀c xs,H c=some (.tup xs)->c≠x:=λc xs r z=>by subst z;rw[r]at mu;exact mu
 by_cases hb:b=x
 ·subst hb;rw[lZ]at q;cases q;exact new
 ·rw[dG hb]at q
  by_cases hbe:b=e
  ·have q':H b=some (.own x):=by
    rcases he with z|z
    ·exact absurd (hbe.trans z) hb
    ·rw[hbe];exact z
   rw[q]at q';cases q';obtain⟨v,hv⟩:=heo;exact⟨v,by rw[hbe];exact hv⟩
  ·refine(ok b u q).stay (λc v hc r=>k c v ?_ r) (λc r=>by rw[dG<|nown c b r];exact r) λc xs r=>by rw[dG<|ntup c xs r];exact r
   rcases hc with rfl|hc
   ·exact hbe
   ·rintro rfl;rcases he with z|z
    ·exact nown c b hc z
    ·rw[hc]at z;cases z;exact hb rfl
end
structure Un (fs ex:List Addr)(H H':Hp)(h h':Heap):Prop where
 keep: ∀b o,h.get? b=some o->H b=none->b ∉ fs->b ∉ ex->h'.get? b=some o
 slot: ∀b o,h.get? b=some o->H b=none->b∈fs->b ∉ ex-> ∃sl,h'.get? b=some {o with slots:=sl}
 free: ∀b o,h.get? b=some o->H b=none->b ∉ ex->H' b=none
 there: ∀b o,h.get? b=some o->b ∉ ex-> ∃o',h'.get? b=some o'
 tups: ∀b xs,H b=some (.tup xs)->H' b=some (.tup xs)
 frzs: ∀b o u,H b=some (.frz o u)->H' b=some (.frz o u)
 tbls: ∀b ps,H b=some (.tbl ps)-> ∃more,H' b=some (.tbl<|ps++more)
section
variable {fs fs' ex ex':List Addr}{H H1 H2:Hp}{h h1 h2 h':Heap}{a x e:Addr}{o:HO}
theorem Un.any (u:Un fs ex H H1 h h1){b:Addr}{ob:Obj}(q:h.get? b=some ob)(n:H b=none)(hx:b ∉ ex): ∃sl,h1.get? b=some {ob with slots:=sl}:=by
 by_cases hb:b∈fs
 ·exact u.slot b ob q n hb hx
 ·exact⟨ob.slots,u.keep b ob q n hb hx⟩
theorem Un.kept (k: ∀b u,h.get? b=some u->h'.get? b=some u):Un fs ex H H h h':=
 ⟨λb ob q _ _ _=>k b ob q,λb ob q _ _ _=>⟨ob.slots,k b ob q⟩,λ_ _ _ n _=>n,λb ob q _=>⟨ob,k b ob q⟩,λ_ _ q=>q,λ_ _ _ q=>q,λ_ ps q=>⟨#[],by rw[q];simp⟩⟩
theorem Un.refl:Un fs ex H H h h:=Un.kept λ_ _ q=>q
theorem Un.laid (k: ∀b u,h.get? b=some u->h'.get? b=some u)(hp:h.objs.size<=a)(hn:H a=none):Un fs ex H (upd H a o) h h' where
 keep:=λb u q _ _ _=>k b u q
 slot:=λb u q _ _ _=>⟨u.slots,k b u q⟩
 free:=λb u q n _=>by rw[dG<|aW<|bO (aM q) hp];exact n
 there:=λb u q _=>⟨u,k b u q⟩
 tups:=λb xs q=>by rw[dG<|fX q hn];exact q
 frzs:=λb u xs q=>by rw[dG<|fX q hn];exact q
 tbls:=λb ps q=>⟨#[],by rw[dG<|fX q hn,q];simp⟩
theorem Un.write (mu:Mut (H x))(he:e=x\/H e=some (.own x))(k: ∀b u,b≠e->h.get? b=some u->h'.get? b=some u)(heo: ∃u,h'.get? e=some u):Un fs ex H (upd H x o) h h':=by
 have hx: ∀b,H b=none->b≠x:=λb n z=>by subst z;rw[n]at mu;exact mu
 have hb: ∀b,H b=none->b≠e:=λb n z=>by
  subst z;rcases he with r|r
  ·exact hx b n r
  ·rw[n]at r;cases r
 have hm: ∀b u,H b=some u-> ¬Mut (some u)->b≠x:=λb u q nm z=>by subst z;rw[q]at mu;exact nm mu
 refine⟨λb u q n _ _=>k b u (hb b n) q,λb u q n _ _=>⟨u.slots,k b u (hb b n) q⟩,λb u q n _=>by rw[dG<|hx b n];exact n,λb u q _=> ?_,
  λb xs q=>by rw[dG<|hm b _ q λz=>z];exact q,λb u xs q=>by rw[dG<|hm b _ q λz=>z];exact q,λb ps q=>⟨#[],by rw[dG<|hm b _ q λz=>z,q];simp⟩⟩
 by_cases hbe:b=e
 ·subst hbe;exact heo
 ·exact⟨u,k b u hbe q⟩
end
noncomputable def trk (h:Heap)(H:Hp):List Addr:=(List.range h.objs.size).filter λa=>(H a).isSome
noncomputable def aL0 (h:Heap)(H:Hp):Heap:=PySem.W.hideAll h (trk h H)
theorem bA1 (h:Heap)(H:Hp):(aL0 h H).objs.size=h.objs.size:=PySem.W.hideAll_size _ _
theorem bE6 {h:Heap}{H:Hp}{b:Addr}{o:Obj}(e:h.get? b=some o)(n:H b=none):(aL0 h H).get? b=some o:=
 PySem.W.hideAll_get _ e λhm=>by
  have q:(H b).isSome=true:=(rV.mp hm).2;rw[n]at q;simp at q
theorem bR6 {h:Heap}{H:Hp}{b:Addr}{o:Obj}(e:(aL0 h H).get? b=some o):h.get? b=some o/\H b=none:=by
 have e':h.get? b=some o:=PySem.W.of_hideAll (trk h H) e;refine⟨e',?_⟩;cases q:H b with
 | none=>rfl
 | some x=>
  have hm:b∈trk h H:=rV.mpr ⟨cC.mpr<|aM e',by simp[q]⟩
  have z:(aL0 h H).get? b=none:=PySem.W.hideAll_none (trk h H) hm;rw[z]at e;cases e
noncomputable def bR7 (g h:Heap)(L:Addr):List (Addr×Obj):=(List.range h.objs.size).filterMap λa=>if a=L\/(g.get? a).isSome=true then none else(h.get? a).map λo=>(a,o)
noncomputable def eH (g h:Heap)(L d:Addr):List (Addr×Obj):=(bR7 g h L).filter λp=>decide (p.1≠d)
end L2
namespace L2
open PySem PySem.Spec PyProof.Rows
structure Mod (K:Frag)(mg:Str->Option Value)(base:Heap):Prop where
 kin:K.In base
 glob:base.Ns mainGlobals mg
 blt: ∃mb,base.Ns builtinsNs mb/\ ∀x:Str,x≠"__name__"->mb x=bootBuiltins x
 nolimit:base.NoLimit
structure Cx where
 prog:Program
 w:World
 K:Frag
 mg:Str->Option Value
 base:Heap
 A:Around
 N:List Str
 s₀:Shared
 H₀:Hp
 env:Env
 outer:List Env
 stack:List Env
 ex:List Addr
 fn:Str->Bool
 calm:Bool
 pn:List (Addr×Obj)
 xe:Value->Shared->Prop
noncomputable def frs (l:List Env):List Addr:=l.filterMap (·.frame)
noncomputable abbrev Cx.fs (X:Cx):List Addr:=frs X.outer
def Vis (sc:Scope)(x:Str):Prop:=sc.names.lookup x=some .local\/sc.names.lookup x=some .cell\/sc.names.lookup x=some .free
def Loc (sc:Scope)(x:Str):Prop:=sc.names.lookup x=some .local\/sc.names.lookup x=some .cell
def Look (env:Env)(h:Heap)(m:Str->Option Value)(x:Str)(u:Value):Prop:=
 (env.kindOf x=some .local/\m x=some u)\/((env.kindOf x=some .cell\/env.kindOf x=some .free)/\ ∃c,env.cells.lookup x=some c/\h.IsCell c (some u))
structure Cx.Ok (X:Cx):Prop where
 mod:Mod X.K X.mg X.base
 kind:X.env.scope.kind= .function
 glob:X.env.globals=mainGlobals
 blt:X.env.builtins=builtinsNs
 above:X.s₀.heap.objs.size<=X.env.locals
 inj: ∀x y c,X.env.cells.lookup x=some c->X.env.cells.lookup y=some c->x=y
 has: ∀x,(X.env.kindOf x=some .cell\/X.env.kindOf x=some .free)-> ∃c,X.env.cells.lookup x=some c
 cab: ∀x c,X.fn x=true->X.env.cells.lookup x=some c->X.s₀.heap.objs.size<=c
 hd:X.calm=true->X.A.handled=none
 frames:X.A.frames=some X.stack
 stk:X.stack=X.outer\/(X.stack=X.env::X.outer/\X.env.frame=some X.env.locals)
 exf: ∀b∈X.ex,b≠X.env.locals/\ ∀x c,X.env.cells.lookup x=some c->c≠b
 bs: ∀b o,X.base.get? b=some o->X.s₀.heap.get? b=some o/\X.H₀ b=none
 bsz:X.base.objs.size<=X.s₀.heap.objs.size
 noex: ∀b o,X.base.get? b=some o->b ∉ X.ex
 exfs: ∀b∈X.ex,b ∉ X.fs
 funs:X.s₀.heap.FunFrames X.base X.outer
 frf: ∀b∈X.fs,X.H₀ b=none
structure Inv (X:Cx)(pins:List (Addr×Obj))(σ:List (Option V))(H:Hp)(s:Shared):Prop where
 ok:X.Ok
 os:s.os=X.s₀.os
 bare:AllBare s.gens
 base:Un X.fs X.ex X.H₀ H X.s₀.heap s.heap
 loc: ∃m,s.heap.Ns X.env.locals m/\ ∀(i:Nat) (x:Str) (v:V),X.N[i]? =some x->σ[i]? =some (some v)->Vis X.env.scope x-> ∃u,RelV v u/\Look X.env s.heap m x u
 cell: ∀x c,X.env.cells.lookup x=some c-> ∃v,s.heap.IsCell c v
 free:H X.env.locals=none
 freeC: ∀x c,X.env.cells.lookup x=some c->H c=none
 pin: ∀p∈X.pn++pins,s.heap.get? p.1=some p.2/\H p.1=none/\p.1≠X.env.locals/\p.1 ∉ X.fs/\ ∀v,p.2.data≠ .cell v
 hok:HOk X.prog X.w H s.heap
 len:σ.length=X.N.length
section
variable {X:Cx}{pins:List (Addr×Obj)}{σ:List (Option V)}{H H':Hp}{s:Shared}{h':Heap}
theorem Cx.Ok.nofr (ok:X.Ok){b:Addr}{o:Obj}(e:X.base.get? b=some o):b ∉ X.fs:=λhb=>by
 have:=(ok.funs.mem hb).1;rw[e]at this;cases this
theorem Inv.bs (I:Inv X pins σ H s): ∀b o,X.base.get? b=some o->s.heap.get? b=some o/\H b=none:=λb o e=>
 ⟨I.base.keep b o (I.ok.bs b o e).1 (I.ok.bs b o e).2 (I.ok.nofr e)<|I.ok.noex b o e,I.base.free b o (I.ok.bs b o e).1 (I.ok.bs b o e).2<|I.ok.noex b o e⟩
theorem Inv.bk (I:Inv X pins σ H s): ∀b o,X.base.get? b=some o->s.heap.get? b=some o:=λb o e=>(I.bs b o e).1
theorem Inv.mod (I:Inv X pins σ H s):Mod X.K X.mg X.base:=I.ok.mod
theorem Inv.kIn (I:Inv X pins σ H s):X.K.In s.heap:=I.ok.mod.kin.keeps I.bk
theorem Inv.lt (I:Inv X pins σ H s):X.env.locals<s.heap.objs.size:=let ⟨_,hn,_⟩:=I.loc;hn.lt
theorem Inv.sz (I:Inv X pins σ H s):X.s₀.heap.objs.size<=s.heap.objs.size:=aV I.ok.above (sF I.lt)
theorem Inv.nofs (I:Inv X pins σ H s){a:Addr}(h:s.heap.objs.size<=a):a ∉ X.fs:=λhb=>by
 obtain⟨_,o,ho,_⟩:=I.ok.funs.mem hb;exact absurd (bO (aM ho)<|aV I.sz h) (dQ _)
theorem Inv.cne (I:Inv X pins σ H s): ∀x c,X.env.cells.lookup x=some c->c≠X.env.locals:=λx c e z=>by
 obtain⟨v,o,ho,hd⟩:=I.cell x c e;obtain⟨m,⟨o',es,ep,ho',hd',_⟩,_⟩:=I.loc;rw[z,ho']at ho;cases ho;rw[hd']at hd;cases hd
theorem Inv.funs (I:Inv X pins σ H s):s.heap.FunFrames X.base X.outer:=by
 have all: ∀(l:List Env),(∀b∈frs l,b∈X.fs)->X.s₀.heap.FunFrames X.base l->s.heap.FunFrames X.base l:=by
  intro l
  induction l with
  | nil=>intro _ _;trivial
  | cons env r ih=>
   intro hs hl;obtain⟨hk,⟨L,o,hf,hn,ho,hd⟩,hr⟩:=hl;have hL:L∈X.fs:=hs L (by unfold frs;rw[o7,hf];exact aP)
   obtain⟨sl,e⟩:=I.base.slot L o ho (I.ok.frf L hL) hL λz=>I.ok.exfs L z hL
   exact⟨hk,⟨L,_,hf,hn,e,hd⟩,ih (λb hb=>hs b (by unfold frs;rw[o7,hf];exact b6 _ hb)) hr⟩
 exact all X.outer (λ_ hb=>hb) I.ok.funs
theorem Inv.stack (I:Inv X pins σ H s):s.heap.FunFrames X.base X.stack:=by
 rcases I.ok.stk with e| ⟨e,hf⟩
 ·rw[e];exact I.funs
 ·rw[e];obtain⟨m,hn,_⟩:=I.loc;refine .cons (by rw[I.ok.kind];decide) hf hn ?_ I.funs
  exact Heap.get?_none_of_le (aV I.ok.bsz I.ok.above)
theorem Inv.stkSub (I:Inv X pins σ H s): ∀b∈frs X.stack,b∈X.env.locals::X.fs:=λb hb=>by
 rcases I.ok.stk with e| ⟨e,hf⟩
 ·rw[e]at hb;exact b6 _ hb
 ·rw[e]at hb;unfold frs at hb;rw[o7,hf]at hb;exact hb
theorem Inv.stkFree (I:Inv X pins σ H s): ∀b∈frs X.stack,H b=none:=λb hb=>by
 rcases aR.mp (I.stkSub b hb)with e|hb
 ·rw[e];exact I.free
 ·obtain⟨_,o,ho,_⟩:=I.ok.funs.mem hb;exact I.base.free b o ho (I.ok.frf b hb) λz=>I.ok.exfs b z hb
theorem Inv.step {g':Array GenState}{t':Nat}{d':Drawn}{ch:List Addr}(I:Inv X pins σ H s)
  (hch: ∀b∈ch,(b∈X.ex\/X.s₀.heap.objs.size<=b)/\b≠X.env.locals/\(∀x c,X.env.cells.lookup x=some c->c≠b)/\ ∀p∈X.pn++pins,p.1≠b)
  (keep: ∀b o,b≠X.env.locals->b ∉ X.fs->b ∉ ch->s.heap.get? b=some o->H b=none->h'.get? b=some o)
  (slot: ∀b o,b≠X.env.locals->b∈X.fs->b ∉ ch->s.heap.get? b=some o->H b=none-> ∃sl,h'.get? b=some {o with slots:=sl}) (free: ∀b o,b ∉ ch->s.heap.get? b=some o->H b=none->H' b=none)
  (there: ∀b o,b ∉ ch->s.heap.get? b=some o-> ∃o',h'.get? b=some o')
  (tups: ∀b xs,H b=some (.tup xs)->H' b=some (.tup xs)) (frzs: ∀b o u,H b=some (.frz o u)->H' b=some (.frz o u)) (tbls: ∀b ps,H b=some (.tbl ps)-> ∃more,H' b=some (.tbl<|ps++more))
  (ns: ∀m,s.heap.Ns X.env.locals m->h'.Ns X.env.locals m) (hok:HOk X.prog X.w H' h') (hg:AllBare g') :
  Inv X pins σ H' {s with heap:=h',gens:=g',drawn:=d',toks:=t'}:=by
 have neL: ∀b o,X.s₀.heap.get? b=some o->b≠X.env.locals:=λb o e=>aW (bO (aM e) I.ok.above)
 have neC: ∀b o,X.s₀.heap.get? b=some o->b ∉ X.ex->b ∉ ch:=λb o e hx hb=>by
  rcases(hch b hb).1 with z|z
  ·exact hx z
  ·exact absurd (bO (aM e) z) (dQ _)
 have cellK: ∀x c,X.env.cells.lookup x=some c-> ∀v,s.heap.IsCell c v->h'.IsCell c v:=λx c e v ⟨o,ho,hd⟩=>by
  have nch:c ∉ ch:=λz=>(hch c z).2.2.1 x c e rfl
  by_cases hc:c∈X.fs
  ·obtain⟨sl,q⟩:=slot c o (I.cne x c e) hc nch ho (I.freeC x c e);exact⟨_,q,hd⟩
  ·exact⟨o,keep c o (I.cne x c e) hc nch ho<|I.freeC x c e,hd⟩
 refine⟨I.ok,I.os,hg,⟨λb o e n hb hx=> ?_,λb o e n hb hx=> ?_,λb o e n hx=> ?_,λb o e hx=> ?_,λb xs e=>tups b xs (I.base.tups b xs e),λb o xs e=>frzs b o xs (I.base.frzs b o xs e),λb ps e=> ?_⟩,?_,λx c e=> ?_,?_,λx c e=> ?_,λp hp=> ?_,hok,I.len⟩
 ·exact keep b o (neL b o e) hb (neC b o e hx) (I.base.keep b o e n hb hx) (I.base.free b o e n hx)
 ·obtain⟨sl,e1⟩:=I.base.slot b o e n hb hx;obtain⟨sl',e2⟩:=slot b _ (neL b o e) hb (neC b o e hx) e1 (I.base.free b o e n hx);exact⟨sl',e2⟩
 ·obtain⟨o',e1⟩:=I.base.there b o e hx;exact free b o' (neC b o e hx) e1 (I.base.free b o e n hx)
 ·obtain⟨o',e1⟩:=I.base.there b o e hx;exact there b o' (neC b o e hx) e1
 ·obtain⟨m1,e1⟩:=I.base.tbls b ps e;obtain⟨m2,e2⟩:=tbls b _ e1;exact⟨m1++m2,by rw[e2,Array.append_assoc]⟩
 ·obtain⟨m,hn,hl⟩:=I.loc;refine⟨m,ns m hn,λi x v e1 e2 e3=> ?_⟩
  obtain⟨u,r,l⟩:=hl i x v e1 e2 e3;refine⟨u,r,?_⟩;rcases l with l| ⟨k,c,e,z⟩
  ·exact .inl l
  ·exact .inr ⟨k,c,e,cellK x c e _ z⟩
 ·obtain⟨v,z⟩:=I.cell x c e;exact⟨v,cellK x c e v z⟩
 ·obtain⟨m,⟨o,_,_,ho,_⟩,_⟩:=I.loc;exact free _ o (λz=>(hch _ z).2.1 rfl) ho I.free
 ·obtain⟨v,o,ho,hd⟩:=I.cell x c e;exact free c o (λz=>(hch c z).2.2.1 x c e rfl) ho (I.freeC x c e)
 ·obtain⟨e,n,ne,nf,d⟩:=I.pin p hp;have nch:p.1 ∉ ch:=λz=>(hch p.1 z).2.2.2 p hp rfl
  exact⟨keep p.1 p.2 ne nf nch e n,free p.1 p.2 nch e n,ne,nf,d⟩
theorem Inv.un {t':Nat}(I:Inv X pins σ H s)(u:Un X.fs [] H H' s.heap h')(hok:HOk X.prog X.w H' h'):Inv X pins σ H' {s with heap:=h',toks:=t'}:=by
 obtain⟨m,⟨o,es,ep,ho,r⟩,_⟩:=id I.loc;obtain⟨sl,hL⟩:=u.any ho I.free ae
 exact I.step (g':=s.gens) (d':=s.drawn) (ch:=[]) (λ_ z=>nomatch z) (λb o _ hb _ e n=>u.keep b o e n hb ae) (λb o _ hb _ e n=>u.slot b o e n hb ae) (λb o _ e n=>u.free b o e n ae) (λb o _ e=>u.there b o e ae) u.tups u.frzs u.tbls (λm' hm=>by
  obtain⟨o',es',ep',ho',r'⟩:=hm;rw[ho]at ho';cases ho';exact⟨_,es',ep',hL,r'⟩) hok I.bare
theorem Inv.call {g':Array GenState}{t':Nat}{d':Drawn}{ch:List Addr}(I:Inv X pins σ H s)(u:Un (frs X.stack) ch H H' s.heap h')(hok:HOk X.prog X.w H' h')(hg:AllBare g')
  (hch: ∀b∈ch,(b∈X.ex\/X.s₀.heap.objs.size<=b)/\b≠X.env.locals/\(∀x c,X.env.cells.lookup x=some c->c≠b)/\ ∀p∈X.pn++pins,p.1≠b) :
  Inv X pins σ H' {s with heap:=h',gens:=g',drawn:=d',toks:=t'}:=by
 obtain⟨m,⟨o,es,ep,ho,r⟩,_⟩:=id I.loc;obtain⟨sl,hL⟩:=u.any ho I.free λz=>(hch _ z).2.1 rfl
 exact I.step (ch:=ch) hch (λb o hL hb hc e n=>u.keep b o e n (λz=>(aR.mp<|I.stkSub b z).elim hL hb) hc) (λb o _ _ hc e n=>u.any e n hc) (λb o hc e n=>u.free b o e n hc) (λb o hc e=>u.there b o e hc) u.tups u.frzs u.tbls (λm' hm=>by
  obtain⟨o',es',ep',ho',r'⟩:=hm;rw[ho]at ho';cases ho';exact⟨_,es',ep',hL,r'⟩) hok hg
theorem Inv.turned {t':Nat}{it:Addr}(I:Inv X pins σ H s)(k: ∀b o,b≠it->s.heap.get? b=some o->h'.get? b=some o)(hn:H it=none)(hL:it≠X.env.locals)
  (h1:it∈X.ex\/X.s₀.heap.objs.size<=it) (h2: ∀x c,X.env.cells.lookup x=some c->c≠it) (h3: ∀p∈X.pn++pins,p.1≠it):Inv X pins σ H {s with heap:=h',toks:=t'}:=by
 have nit: ∀b u,H b=some u->b≠it:=λb u e z=>by rw[z,hn]at e;cases e
 refine I.step (g':=s.gens) (d':=s.drawn) (ch:=[it]) (λb hb=> ?_) (λb o _ _ hc e _=>k b o (λz=>hc (by simp[z])) e) (λb o _ _ hc e _=>⟨o.slots,k b o (λz=>hc (by simp[z])) e⟩) (λ_ _ _ _ n=>n)
  (λb o hc e=>⟨o,k b o (λz=>hc (by simp[z])) e⟩) (λ_ _ e=>e) (λ_ _ _ e=>e) (λb ps e=>⟨#[],by rw[e];simp⟩) (λm hm=> ?_) (λb u e=> ?_) I.bare
 ·have e:b=it:=by simpa using hb
  subst e;exact⟨h1,hL,h2,h3⟩
 ·obtain⟨o,es,ep,ho,r⟩:=hm;exact⟨o,es,ep,k _ o (Ne.symm hL) ho,r⟩
 ·refine(I.hok b u e).stay (λc v hc q=>k c v ?_ q) (λ_ q=>q) λ_ _ q=>q
  rcases hc with z|z
  ·rw[z];exact nit b u e
  ·exact nit c _ z
theorem Inv.tok (I:Inv X pins σ H s)(t:Nat):Inv X pins σ H {s with toks:=t}:=I.un (h':=s.heap) (t':=t) Un.refl I.hok
theorem Inv.kept {t':Nat}(I:Inv X pins σ H s)(k: ∀b u,s.heap.get? b=some u->h'.get? b=some u):Inv X pins σ H {s with heap:=h',toks:=t'}:=I.un (Un.kept k) (I.hok.kept k)
theorem Inv.laid {a:Addr}{o:HO}{t':Nat}(I:Inv X pins σ H s)(k: ∀b u,s.heap.get? b=some u->h'.get? b=some u)(hp:s.heap.objs.size<=a)(new:oM X.prog X.w (upd H a o) h' a o) :
  Inv X pins σ (upd H a o) {s with heap:=h',toks:=t'}:=I.un (Un.laid k hp<|I.hok.fresh hp) (I.hok.laid k hp new)
theorem Inv.write {x e:Addr}{o:HO}{t':Nat}(I:Inv X pins σ H s)(mu:Mut (H x))(he:e=x\/H e=some (.own x))(k: ∀b u,b≠e->s.heap.get? b=some u->h'.get? b=some u)(heo: ∃u,h'.get? e=some u)
  (new:oM X.prog X.w (upd H x o) h' x o):Inv X pins σ (upd H x o) {s with heap:=h',toks:=t'}:=I.un (Un.write mu he k heo) (I.hok.write mu he k heo new)
theorem Inv.pins_of {pins':List (Addr×Obj)}(I:Inv X pins σ H s)(h: ∀p∈pins',s.heap.get? p.1=some p.2/\H p.1=none/\p.1≠X.env.locals/\p.1 ∉ X.fs/\ ∀v,p.2.data≠ .cell v):Inv X pins' σ H s:=
 ⟨I.ok,I.os,I.bare,I.base,I.loc,I.cell,I.free,I.freeC,λp hp=>(cB.mp hp).elim (λz=>I.pin p (iP _ z)) (h p),I.hok,I.len⟩
theorem aQ4 {N:List Str}(hN:N.Nodup){i j:Nat}{x:Str}(a:N[i]? =some x)(b:N[j]? =some x):i=j:=by
 obtain⟨h1,e1⟩:=fF.mp a;obtain⟨h2,e2⟩:=fF.mp b;exact(List.getElem_inj hN).mp (e1.trans e2.symm)
theorem bA2 {M:Model}{A:Around}{E:Value->Shared->Prop}{i:Nat}{x:Str}{v:V}{u:Value}{Q:Unit->Shared->Prop}(I:Inv X pins σ H s)(hN:X.N.Nodup)(hi:X.N[i]? =some x)(hx:Loc X.env.scope x)(r:RelV v u)
  (h: ∀s',Inv X pins (σ.set i<|some v) H s'->(∃a,SameBut a s.heap s'.heap/\(a=X.env.locals\/X.env.cells.lookup x=some a))->Q () s') (hf:X.fn x=true\/X.env.scope.names.lookup x=some .local:=by walk_at "z"):wpAny M A (storeName X.env x u) Q E s:=by
 obtain⟨m,hn,hl⟩:=id I.loc;have hcls:(X.env.scope.kind== .class||(X.env.scope.kind== .module&&X.env.locals != X.env.globals))=false:=by rw[I.ok.kind];rfl
 have hiσ:i<σ.length:=by rw[I.len];exact(fF.mp hi).1
 have cne:=I.cne;have tracked: ∀{a:Addr} {h':Heap},(∃o,s.heap.get? a=some o/\H a=none)->SameBut a s.heap h'->HOk X.prog X.w H h':=λ{a h'} ha hs b ob e=>by
  obtain⟨_,_,hfree⟩:=ha;refine(I.hok b ob e).stay (λc w' hc q=>(hs.2 c ?_).trans q) (λ_ q=>q) λ_ _ q=>q
  rintro rfl;rcases hc with rfl|hc
  ·rw[hfree]at e;cases e
  ·rw[hfree]at hc;cases hc
 rcases hx with hk|hk
 ·refine wpAny_storeName_local hk hn (λh' hn' hs=> ?_) hcls
  obtain⟨oL,_,_,hoL,_⟩:=id hn;refine h _ ⟨I.ok,I.os,I.bare,⟨λb o e n hb hx=> ?_,λb o e n hb hx=> ?_,I.base.free,λb o e hx=> ?_,I.base.tups,I.base.frzs,I.base.tbls⟩,⟨_,hn',λj y v' e1 e2 e3=> ?_⟩,λy c e=> ?_,I.free,I.freeC,λp hp=> ?_,tracked ⟨oL,hoL,I.free⟩ hs,by simpa using I.len⟩ ⟨_,hs,.inl rfl⟩
  ·exact(hs.2 b<|aW<|bO (aM e) I.ok.above).trans (I.base.keep b o e n hb hx)
  ·obtain⟨sl,e1⟩:=I.base.slot b o e n hb hx;exact⟨sl,(hs.2 b<|aW<|bO (aM e) I.ok.above).trans e1⟩
  ·obtain⟨o',e1⟩:=I.base.there b o e hx;exact⟨o',(hs.2 b<|aW<|bO (aM e) I.ok.above).trans e1⟩
  ·by_cases hj:j=i
   ·subst hj;rw[hi]at e1;cases e1;rw[List.getElem?_set_self hiσ]at e2;cases e2;exact⟨u,r,.inl ⟨hk,ae⟩⟩
   ·rw[List.getElem?_set_ne<|Ne.symm hj]at e2;obtain⟨u',r',q⟩:=hl j y v' e1 e2 e3;refine⟨u',r',?_⟩;rcases q with⟨k,e⟩| ⟨k,c,e,z⟩
    ·refine .inl ⟨k,?_⟩
     have:y≠x:=λe=>hj (aQ4 hN e1<|e▸hi)
     simp[this,e]
    ·exact .inr ⟨k,c,e,z.sameBut hs<|cne y c e⟩
  ·obtain⟨w',z⟩:=I.cell y c e;exact⟨w',z.sameBut hs<|cne y c e⟩
  ·obtain⟨e,n,ne,nf,d⟩:=I.pin p hp;exact⟨(hs.2 p.1 ne).trans e,n,ne,nf,d⟩
 ·have hfn:X.fn x=true:=by
   rcases hf with z|z
   ·exact z
   ·rw[z]at hk;cases hk
  obtain⟨c,hc⟩:=I.ok.has x (.inl hk);obtain⟨w',z⟩:=I.cell x c hc;refine wpAny_storeName_cell I.ok.kind hk hc z (λh' hc' hs=> ?_)
  obtain⟨oc,hoc,hocd⟩:=id z;refine h {s with heap:=h'} ⟨I.ok,I.os,I.bare,⟨λb o e n hb hx=> ?_,λb o e n hb hx=> ?_,I.base.free,λb o e hx=> ?_,I.base.tups,I.base.frzs,I.base.tbls⟩,⟨m,hn.sameBut hs<|Ne.symm<|cne x c hc,λj y v' e1 e2 e3=> ?_⟩,λy c' e=> ?_,I.free,I.freeC,λp hp=> ?_,tracked ⟨oc,hoc,I.freeC x c hc⟩ hs,by simpa using I.len⟩ ⟨c,hs,.inr hc⟩
  ·exact(hs.2 b<|aW<|bO (aM e)<|I.ok.cab x c hfn hc).trans (I.base.keep b o e n hb hx)
  ·obtain⟨sl,e1⟩:=I.base.slot b o e n hb hx;exact⟨sl,(hs.2 b<|aW<|bO (aM e)<|I.ok.cab x c hfn hc).trans e1⟩
  ·obtain⟨o',e1⟩:=I.base.there b o e hx;exact⟨o',(hs.2 b<|aW<|bO (aM e)<|I.ok.cab x c hfn hc).trans e1⟩
  ·by_cases hj:j=i
   ·subst hj;rw[hi]at e1;cases e1;rw[List.getElem?_set_self hiσ]at e2;cases e2;exact⟨u,r,.inr ⟨.inl hk,c,hc,hc'⟩⟩
   ·rw[List.getElem?_set_ne<|Ne.symm hj]at e2;obtain⟨u',r',q⟩:=hl j y v' e1 e2 e3;refine⟨u',r',?_⟩;rcases q with q| ⟨k,c',e,z'⟩
    ·exact .inl q
    ·refine .inr ⟨k,c',e,z'.sameBut hs ?_⟩
     rintro rfl;exact hj (aQ4 hN e1<|I.ok.inj _ _ _ e hc▸hi)
  ·by_cases hcc:c'=c
   ·subst hcc;exact⟨_,hc'⟩
   ·obtain⟨w2,z2⟩:=I.cell y c' e;exact⟨w2,z2.sameBut hs hcc⟩
  ·obtain⟨e,n,ne,nf,d⟩:=I.pin p hp;refine⟨(hs.2 p.1 ?_).trans e,n,ne,nf,d⟩;intro q;rw[q,hoc]at e;have q':oc=p.2:=dZ e;exact d w' (by rw[<-q'];exact hocd)
theorem a62 {M:Model}{A:Around}{E:Value->Shared->Prop}{i:Nat}{x:Str}{v:V}{u:Value}{Q:Unit->Shared->Prop}(I:Inv X pins σ H s)(hN:X.N.Nodup)(hi:X.N[i]? =some x)(hx:Loc X.env.scope x)(r:RelV v u)
  (h: ∀s',Inv X pins (σ.set i<|some v) H s'->Q () s') (hf:X.fn x=true\/X.env.scope.names.lookup x=some .local:=by walk_at "z"):wpAny M A (storeName X.env x u) Q E s:=
 bA2 I hN hi hx r (λs' I' _=>h s' I') hf
end
abbrev XK:=Value->Option Addr->Hp->Prop
abbrev St:=List (Option V)
abbrev VK:=V->Hp->Prop
abbrev TE:=St->Hp->VK->Prop
abbrev TT:=St->Hp->(Bool->Hp->Prop)->Prop
abbrev TA:=St->Hp->(List V->Hp->Prop)->Prop
structure aX7 where
 nx:St->Hp->Prop
 rt:VK
 bk:St->Hp->Prop:=λ_ _=>False
 ct:St->Hp->Prop:=λ_ _=>False
abbrev TS:=aX7->St->Hp->Prop
def EP (X:Cx)(pins:List (Addr×Obj))(σ:St)(Q:VK)(u:Value)(s':Shared):Prop:= ∃v H',Inv X pins σ H' s'/\RelV v u/\Q v H'
def TP (X:Cx)(pins:List (Addr×Obj))(σ:St)(Q:Bool->Hp->Prop)(b:Bool)(s':Shared):Prop:= ∃H',Inv X pins σ H' s'/\Q b H'
def AP (X:Cx)(pins:List (Addr×Obj))(σ:St)(Q:List V->Hp->Prop)(us:List Value)(s':Shared):Prop:= ∃vs H',Inv X pins σ H' s'/\Vals vs us/\Q vs H'
def SP (X:Cx)(pins:List (Addr×Obj))(D:aX7)(f:Flow)(s':Shared):Prop:=
 match f with
 | .next=> ∃σ' H',Inv X pins σ' H' s'/\D.nx σ' H'
 | .brk=> ∃σ' H',Inv X pins σ' H' s'/\D.bk σ' H'
 | .cont=> ∃σ' H',Inv X pins σ' H' s'/\D.ct σ' H'
 | .ret u=> ∃v σ' H',Inv X pins σ' H' s'/\RelV v u/\D.rt v H'
def PE (X:Cx)(e:Expr)(t:TE):Prop:=
 ∀(pins:List (Addr×Obj)) (s:Shared) (σ:St) (H:Hp) (Q:VK),Inv X pins σ H s->t σ H Q->wpAny (model X.prog X.w) X.A (eval e X.env) (EP X pins σ Q) X.xe s
def PT (X:Cx)(e:Expr)(t:TT):Prop:=
 ∀(pins:List (Addr×Obj)) (s:Shared) (σ:St) (H:Hp) (Q:Bool->Hp->Prop),Inv X pins σ H s->t σ H Q->wpAny (model X.prog X.w) X.A (isTrue e X.env<|eval e X.env) (TP X pins σ Q) X.xe s
def PW (X:Cx)(e:Expr)(t:TT):Prop:=
 ∀(whole:Sem Value) (pins:List (Addr×Obj)) (s:Shared) (σ:St) (H:Hp) (Q:Bool->Hp->Prop),Inv X pins σ H s->t σ H Q->wpAny (model X.prog X.w) X.A (isTrue e X.env whole) (TP X pins σ Q) X.xe s
theorem PW.pt {X:Cx}{e:Expr}{t:TT}(h:PW X e t):PT X e t:=h _
def PA (X:Cx)(es:List Expr)(t:TA):Prop:=
 ∀(pos:Pos) (pins:List (Addr×Obj)) (s:Shared) (σ:St) (H:Hp) (Q:List V->Hp->Prop),Inv X pins σ H s->t σ H Q->wpAny (model X.prog X.w) X.A (spliced<|backTo pos<|starEach es X.env) (AP X pins σ Q) X.xe s
def PS (X:Cx)(st:Stmt)(t:TS):Prop:=
 ∀(pins:List (Addr×Obj)) (s:Shared) (σ:St) (H:Hp) (D:aX7),Inv X pins σ H s->t D σ H->wpAny (model X.prog X.w) X.A (exec st X.env) (SP X pins D) X.xe s
def PSs (X:Cx)(st:List Stmt)(t:TS):Prop:=
 ∀(pins:List (Addr×Obj)) (s:Shared) (σ:St) (H:Hp) (D:aX7),Inv X pins σ H s->t D σ H->wpAny (model X.prog X.w) X.A (execs st X.env) (SP X pins D) X.xe s
theorem thn {α:Type}{t:Sem α}{Q Q':α->Shared->Prop}{M:Model}{A:Around}{E:Value->Shared->Prop}{s:Shared}(h:wpAny M A t Q E s)(hQ: ∀a s,Q a s->Q' a s):wpAny M A t Q' E s:=bR h hQ λ_ _ x=>x
end L2
namespace L2
open PySem PySem.Spec PyProof.Rows
section
variable {X:Cx}
def a26 (i:Nat):TE:=λσ H Q=> ∃v,σ[i]? =some (some v)/\Q v H
def tC (v:V):TE:=λ_ H Q=>Q v H
theorem pe_var {i:Nat}{x:Str}{pos:Pos}(hN:X.N[i]? =some x)(hv:Vis X.env.scope x)(hd:(x==("__debug__":Str))=false:=by decide)(hcd:(x==("__classdict__":Str))=false:=by decide):PE X (.Name x pos) (a26 i):=by
 intro pins s σ H Q I h;obtain⟨v,e,h⟩:=h;obtain⟨m,hn,hl⟩:=I.loc;obtain⟨u,r,l⟩:=hl i x v hN e hv;have fin:EP X pins σ Q u s:=⟨v,H,I,r,h⟩;rcases l with⟨hk,hm⟩| ⟨hk,c,hc,hcell⟩
 ·exact wpAny_Name (wpAny_loadName_local I.ok.kind hk hn hm fin) hd
 ·rcases hk with hk|hk
  ·exact wpAny_Name (wpAny_loadName_cell I.ok.kind hk hc hcell fin) hd
  ·exact wpAny_Name (wpAny_loadName_free I.ok.kind hk hc hcell fin hcd) hd
theorem pe_int {i j pos}:PE X (.Constant (.int i) j pos) (tC<|.int i):=λ_ _ _ H _ I h=>wpAny_Constant_int ⟨.int i,H,I.tok _,⟨_,rfl⟩,h⟩
theorem pe_bl {b j pos}:PE X (.Constant (.bool b) j pos) (tC<|.bl b):=λ_ _ _ H _ I h=>Constant_bool ⟨.bl b,H,I,rfl,h⟩
theorem pe_non {j pos}:PE X (.Constant .none j pos) (tC .non):=λ_ _ _ H _ I h=>Constant_none ⟨.non,H,I,rfl,h⟩
def Gl (X:Cx)(x:Str):Prop:=X.env.kindOf x=some .globalImplicit
theorem aL1 {E:Value->Shared->Prop}{pins:List (Addr×Obj)}{s:Shared}{σ:St}{H:Hp}{x:Str}{u:Value}{pos:Pos}{Q:Value->Shared->Prop}(I:Inv X pins σ H s)(hg:Gl X x)(hm:X.mg x=some u)(h:Q u s)
  (hd:(x==("__debug__":Str))=false:=by decide):wpAny (model X.prog X.w) X.A (eval (.Name x pos) X.env) Q E s:=
 Calls.Name_function_global I.ok.kind hg (Calls.loadGlobal_global (by rw[I.ok.glob];exact I.mod.glob.keeps I.bk) hm h) hd
theorem oN {E:Value->Shared->Prop}{pins:List (Addr×Obj)}{s:Shared}{σ:St}{H:Hp}{x:Str}{u:Value}{pos:Pos}{Q:Value->Shared->Prop}(I:Inv X pins σ H s)(hg:Gl X x)(hm:X.mg x=none)(hv:bootBuiltins x=some u)(h:Q u s)
  (hn:x≠"__name__":=by decide) (hd:(x==("__debug__":Str))=false:=by decide):wpAny (model X.prog X.w) X.A (eval (.Name x pos) X.env) Q E s:=by
 obtain⟨mb,h1,h2⟩:=I.mod.blt;exact Calls.Name_function_global I.ok.kind hg (Calls.loadGlobal_builtin (by rw[I.ok.glob];exact I.mod.glob.keeps I.bk) hm (by rw[I.ok.blt];exact h1.keeps I.bk) ((h2 x hn).trans hv) h) hd
theorem b39 {x:Str}{v:V}{u:Value}{pos:Pos}(hg:Gl X x)(hm:X.mg x=some u)(r:RelV v u)(hd:(x==("__debug__":Str))=false:=by decide):PE X (.Name x pos) (tC v):=
 λ_ _ _ H _ I h=>aL1 I hg hm ⟨v,H,I,r,h⟩ hd
variable {a b:Expr}{ta tb:TE}{pos:Pos}
def PC (X:Cx)(op:CmpOp)(a b:Expr)(t:TE):Prop:=
 ∀(pins:List (Addr×Obj)) (s:Shared) (σ:St) (H:Hp) (Q:VK),Inv X pins σ H s->t σ H Q->
  wpAny (model X.prog X.w) X.A (eval a X.env) (λv s₁=>wpAny (model X.prog X.w) X.A (eval b X.env) (λu s₂=>wpAny (model X.prog X.w) X.A (compareOp op v u) (EP X pins σ Q) X.xe s₂) X.xe s₁) X.xe s
theorem aQ5 (b:Expr){op:CmpOp}(h:op≠ .In)(h2:op≠ .NotIn):behindInMarks op b=false:=by
 have e1:(op==CmpOp.In)=false:=by cases op<;>first|rfl|exact absurd rfl h
 have e2:(op==CmpOp.NotIn)=false:=by cases op<;>first|rfl|exact absurd rfl h2
 cases b<;>simp[behindInMarks,e1,e2]
def tIsN (ta:TE):TE:=λσ H Q=>ta σ H λx H1=>Q (.bl<|decide (x= .non)) H1
def bZ2 (ta:TE):TE:=λσ H Q=>ta σ H λx H1=>Q (.bl<|!decide (x= .non)) H1
theorem RelV.none_iff {x:V}{v:Value}(r:RelV x v):(v==Value.none)=decide (x= .non):=by
 cases x with
 | non=>cases r;rfl
 | bl _=>cases r;rfl
 | int _=>obtain⟨t,rfl⟩:=r;rfl
 | str _=>obtain⟨t,rfl⟩:=r;rfl
 | byt _=>obtain⟨t,rfl⟩:=r;rfl
 | flt _=>obtain⟨t,rfl⟩:=r;rfl
 | ref _=>cases r;rfl
 | ty _=>cases r;rfl
theorem pc_isN {j pos'}(ha:PE X a ta):PC X .Is a (.Constant .none j pos') (tIsN ta):=by
 intro pins s σ H Q I h;refine thn (ha pins s σ H _ I h) λv s1 ⟨x,H1,I1,r1,q1⟩=> ?_
 exact Constant_none (is_none_gen ⟨.bl _,H1,I1,by rw[r1.none_iff];rfl,q1⟩)
theorem bR8 {j pos'}(ha:PE X a ta):PC X .IsNot a (.Constant .none j pos') (bZ2 ta):=by
 intro pins s σ H Q I h;refine thn (ha pins s σ H _ I h) λv s1 ⟨x,H1,I1,r1,q1⟩=> ?_
 exact Constant_none (isnot_none_gen ⟨.bl _,H1,I1,by rw[r1.none_iff];rfl,q1⟩)
def tB (t:TE):TT:=λσ H Q=>t σ H λx H1=> ∃c,x= .bl c/\Q c H1
theorem pe_cmp {op:CmpOp}{t:TE}(h:PC X op a b t)(h1:behindInMarks op b=false:=by first|exact aQ5 _ ac ac|rfl):PE X (.Compare a [op] [b] pos) t:=λpins s σ H Q I hw=>wpAny_Compare1 (h pins s σ H Q I hw) h1
theorem aX8 {op:CmpOp}{t:TE}(h:PC X op a b t)(h1:behindInMarks op b=false:=by first|exact aQ5 _ ac ac|rfl):PT X (.Compare a [op] [b] pos) (tB t):=by
 intro pins s σ H Q I hw;refine wpAny_isTrue_Compare1 (thn (h pins s σ H _ I hw) λv s1 h1=>thn h1 λu s2 h2=>thn h2 λc s3 ⟨x,H1,I1,r1,q1⟩=> ?_) h1
 obtain⟨d,rfl,q⟩:=q1;cases r1;exact jN ⟨H1,I1,q⟩
theorem pt_val {e:Expr}{t:TE}(h:PE X e t)(he: ∀whole,isTrue e X.env whole=(do let v<-whole;standAt e.pos;holding [v] (truthy v)):=by intro _;rfl):PT X e (tB t):=by
 intro pins s σ H Q I hw;refine isTrue_plain (thn (h pins s σ H _ I hw) λv s1 ⟨x,H1,I1,r1,q1⟩=> ?_) (he _)
 obtain⟨d,rfl,q⟩:=q1;cases r1;exact jN ⟨H1,I1,q⟩
variable {tA tB':TT}{eH:List Expr}
def tAnd (t u:TT):TT:=λσ H Q=>t σ H λc H1=>if c=true then u σ H1 Q else Q false H1
def tOr (t u:TT):TT:=λσ H Q=>t σ H λc H1=>if c=true then Q true H1 else u σ H1 Q
def tNot (t:TT):TT:=λσ H Q=>t σ H λc H1=>Q (!c) H1
theorem bR9 (ha:PT X a tA):PW X (.BoolOp .And [a] pos) tA:=by
 intro wh pins s σ H Q I h;refine isTrue_and (thn (ha pins s σ H Q I h) λc s1 e=> ?_)
 cases c with
 | true=>exact isTrue_and_nil e
 | false=>exact e
theorem pw_or1 (ha:PT X a tA):PW X (.BoolOp .Or [a] pos) tA:=by
 intro wh pins s σ H Q I h;refine isTrue_or (thn (ha pins s σ H Q I h) λc s1 e=> ?_)
 cases c with
 | false=>exact isTrue_or_nil e
 | true=>exact e
theorem pw_and (ha:PT X a tA)(hb:PW X (.BoolOp .And (b::eH) pos) tB'):PW X (.BoolOp .And (a::b::eH) pos) (tAnd tA tB'):=by
 intro wh pins s σ H Q I h;refine isTrue_and (thn (ha pins s σ H _ I h) λc s1 ⟨H1,I1,q1⟩=> ?_)
 cases c with
 | true=>exact hb wh pins s1 σ H1 Q I1 q1
 | false=>exact⟨H1,I1,q1⟩
theorem pw_or (ha:PT X a tA)(hb:PW X (.BoolOp .Or (b::eH) pos) tB'):PW X (.BoolOp .Or (a::b::eH) pos) (tOr tA tB'):=by
 intro wh pins s σ H Q I h;refine isTrue_or (thn (ha pins s σ H _ I h) λc s1 ⟨H1,I1,q1⟩=> ?_)
 cases c with
 | true=>exact⟨H1,I1,q1⟩
 | false=>exact hb wh pins s1 σ H1 Q I1 q1
theorem pt_not (ha:PT X a tA):PT X (.UnaryOp .Not a pos) (tNot tA):=by
 intro pins s σ H Q I h;exact isTrue_not (ha pins s σ H (λc H1=>Q (!c) H1) I h)
def tAndV (ta tb:TE):TE:=λσ H Q=>ta σ H λx H1=> ∃c,x= .bl c/\if c=true then tb σ H1 Q else Q (.bl false) H1
def tOrV (ta tb:TE):TE:=λσ H Q=>ta σ H λx H1=> ∃c,x= .bl c/\if c=true then Q (.bl true) H1 else tb σ H1 Q
theorem pe_one {op}{t:TE}(h:PE X a t):PE X (.BoolOp op [a] pos) t:=λpins s σ H Q I hw=>BoolOp_one (h pins s σ H Q I hw)
theorem pe_and (ha:PE X a ta)(hb:PE X (.BoolOp .And (b::eH) pos) tb):PE X (.BoolOp .And (a::b::eH) pos) (tAndV ta tb):=by
 intro pins s σ H Q I h;refine BoolOp_and (thn (ha pins s σ H _ I h) λv s1 ⟨x,H1,I1,r1,q1⟩=> ?_)
 obtain⟨c,rfl,q1⟩:=q1;cases r1;refine jN ?_;cases c with
 | true=>exact hb pins s1 σ H1 Q I1 q1
 | false=>exact⟨.bl false,H1,I1,rfl,q1⟩
theorem pe_or (ha:PE X a ta)(hb:PE X (.BoolOp .Or (b::eH) pos) tb):PE X (.BoolOp .Or (a::b::eH) pos) (tOrV ta tb):=by
 intro pins s σ H Q I h;refine BoolOp_or (thn (ha pins s σ H _ I h) λv s1 ⟨x,H1,I1,r1,q1⟩=> ?_)
 obtain⟨c,rfl,q1⟩:=q1;cases r1;refine jN ?_;cases c with
 | false=>exact hb pins s1 σ H1 Q I1 q1
 | true=>exact⟨.bl true,H1,I1,rfl,q1⟩
def tIf (t:TT)(ta tb:TE):TE:=λσ H Q=>t σ H λc H1=>if c=true then ta σ H1 Q else tb σ H1 Q
theorem bE7 {c:Expr}(hc:PT X c tA)(ha:PE X a ta)(hb:PE X b tb):PE X (.IfExp c a b pos) (tIf tA ta tb):=by
 intro pins s σ H Q I h;refine wpAny_IfExp (thn (hc pins s σ H _ I h) λd s1 ⟨H1,I1,q1⟩=> ?_)
 cases d with
 | true=>exact ha pins s1 σ H1 Q I1 q1
 | false=>exact hb pins s1 σ H1 Q I1 q1
end
end L2
namespace L2
open PySem PySem.Spec PyProof.Rows
def SqL (K:Frag)(H:Hp)(a:Addr)(xs:List V):Prop:=
 Rd H a (.lst xs)\/
  ∃(o:Obj) (its:Array Value) (n:Nat),K.lookup a=some o/\o.cls= .type "list"/\o.dict=none/\o.data= .seq its n/\its.size<=sizeLine/\Vals xs its.toList
def SqT (K:Frag)(H:Hp)(a:Addr)(xs:List V):Prop:=
 Rd H a (.tup xs)\/
  ∃(o:Obj) (its:Array Value) (n:Nat),K.lookup a=some o/\o.cls= .type "tuple"/\o.data= .seq its n/\its.size<=sizeLine/\Vals xs its.toList
noncomputable def absV:Value->Option V
 | .none=>some .non
 | .bool b=>some (.bl b)
 | .int i _=>some (.int i)
 | .str x _=>some (.str x)
 | .bytes b _=>some (.byt b)
 | .float b _=>some (.flt b)
 | .ref a=>some (.ref a)
 | .type n=>some (.ty n)
 | _=>none
theorem RelV.abs {x:V}{u:Value}(r:RelV x u):absV u=some x:=by
 cases x with
 | non=>cases r;rfl
 | bl _=>cases r;rfl
 | int _=>obtain⟨t,rfl⟩:=r;rfl
 | str _=>obtain⟨t,rfl⟩:=r;rfl
 | byt _=>obtain⟨t,rfl⟩:=r;rfl
 | flt _=>obtain⟨t,rfl⟩:=r;rfl
 | ref _=>cases r;rfl
 | ty _=>cases r;rfl
theorem RelV.inj {x y:V}{u:Value}(r:RelV x u)(q:RelV y u):x=y:=dZ (r.abs.symm.trans q.abs)
theorem Vals.inj: ∀{xs ys:List V} {us:List Value},Vals xs us->Vals ys us->xs=ys
 | _,_,_,.nil,.nil=>rfl
 | _,_,_,.cons r t,.cons r' t'=>by rw[r.inj r',Vals.inj t t']
section
variable {X:Cx}{pins:List (Addr×Obj)}{σ:St}{H:Hp}{s:Shared}{a:Addr}{xs ys:List V}
theorem SqL.of {K:Frag}(h:H a=some (.lst xs)):SqL K H a xs:= .inl (.inl h)
theorem Inv.list (I:Inv X pins σ H s)(h:SqL X.K H a xs): ∃its:List Value,Vals xs its/\PlainL s.heap a its.toArray/\xs.length<=sizeLine:=by
 rcases h with h| ⟨o,its,n,hk,hc,hd,hs,hz,r⟩
 ·obtain⟨z,its,n,r,e⟩:=h.ok I.hok;exact⟨its,r,⟨_,n,e,rfl,rfl,rfl⟩,z⟩
 ·refine⟨its.toList,r,⟨o,n,I.kIn a o hk,hc,hd,by simpa using hs⟩,?_⟩
  have e:=r.length;simp only[jL]at e
  lia
theorem Inv.tuple (I:Inv X pins σ H s)(h:SqT X.K H a xs): ∃its:List Value,Vals xs its/\IsTup s.heap a its.toArray/\xs.length<=sizeLine:=by
 rcases h with h| ⟨o,its,n,hk,hc,hs,hz,r⟩
 ·obtain⟨z,its,r,p⟩:=h.ok I.hok;exact⟨its,r,p,z⟩
 ·refine⟨its.toList,r,⟨o,I.kIn a o hk,hc,n,by simpa using hs⟩,?_⟩
  have e:=r.length;simp only[jL]at e
  lia
theorem Inv.list_inj (I:Inv X pins σ H s)(h:SqL X.K H a xs)(h':SqL X.K H a ys):xs=ys:=by
 obtain⟨its,r,⟨o,n,e,_,_,d⟩,_⟩:=I.list h;obtain⟨its',r',⟨o',n',e',_,_,d'⟩,_⟩:=I.list h';rw[e]at e';cases e';rw[d]at d'
 injection d' with d1 _
 have:its=its':=by simpa using bC toList d1
 subst this;exact r.inj r'
theorem Inv.tuple_inj (I:Inv X pins σ H s)(h:SqT X.K H a xs)(h':SqT X.K H a ys):xs=ys:=by
 obtain⟨its,r,⟨o,e,_,n,d⟩,_⟩:=I.tuple h;obtain⟨its',r',⟨o',e',_,n',d'⟩,_⟩:=I.tuple h';rw[e]at e';cases e';rw[d]at d'
 injection d' with d1 _
 have:its=its':=by simpa using bC toList d1
 subst this;exact r.inj r'
end
noncomputable abbrev Cx.wish (X:Cx)(E:Value->Shared->Prop):Cx:={X with xe:=E}
noncomputable abbrev Cx.nox (X:Cx):Cx:=X.wish λ_ _=>False
theorem Cx.Ok.wish {X:Cx}(ok:X.Ok)(E:Value->Shared->Prop):(X.wish E).Ok:=
 ⟨ok.mod,ok.kind,ok.glob,ok.blt,ok.above,ok.inj,ok.has,ok.cab,ok.hd,ok.frames,ok.stk,ok.exf,ok.bs,ok.bsz,ok.noex,ok.exfs,ok.funs,ok.frf⟩
theorem Cx.Ok.unwish {X:Cx}{E:Value->Shared->Prop}(ok:(X.wish E).Ok):X.Ok:=
 ⟨ok.mod,ok.kind,ok.glob,ok.blt,ok.above,ok.inj,ok.has,ok.cab,ok.hd,ok.frames,ok.stk,ok.exf,ok.bs,ok.bsz,ok.noex,ok.exfs,ok.funs,ok.frf⟩
section
variable {X:Cx}{pins:List (Addr×Obj)}{σ:St}{H:Hp}{s:Shared}{E:Value->Shared->Prop}
theorem Inv.wish (I:Inv X pins σ H s)(E:Value->Shared->Prop):Inv (X.wish E) pins σ H s:=⟨I.ok.wish E,I.os,I.bare,I.base,I.loc,I.cell,I.free,I.freeC,I.pin,I.hok,I.len⟩
theorem Inv.unwish (I:Inv (X.wish E) pins σ H s):Inv X pins σ H s:=⟨I.ok.unwish,I.os,I.bare,I.base,I.loc,I.cell,I.free,I.freeC,I.pin,I.hok,I.len⟩
theorem SP.unwish {D:aX7}{f:Flow}{s':Shared}(h:SP (X.wish E) pins D f s'):SP X pins D f s':=by
 cases f with
 | next=>obtain⟨σ',H',I,q⟩:=h;exact⟨σ',H',I.unwish,q⟩
 | brk=>obtain⟨σ',H',I,q⟩:=h;exact⟨σ',H',I.unwish,q⟩
 | cont=>obtain⟨σ',H',I,q⟩:=h;exact⟨σ',H',I.unwish,q⟩
 | ret u=>obtain⟨v,σ',H',I,r,q⟩:=h;exact⟨v,σ',H',I.unwish,r,q⟩
theorem PSs.nox {st:List Stmt}{t:TS}(h:PSs X.nox st t):PSs X st t:=λpins s σ H D I hw=>
 bR (h pins s σ H D (I.wish _) hw) (λ_ _ q=>q.unwish) λ_ _ z=>False.elim z
end
section
variable {X:Cx}{st:Stmt}{eH:List Stmt}{t u:TS}{e:Expr}{te:TE}{pos:Pos}
def tNext:TS:=λD σ H=>D.nx σ H
def tSeq (t u:TS):TS:=λD σ H=>t {D with nx:=u D} σ H
theorem b40:PSs X [] tNext:=λ_ _ σ H _ I h=>rW ⟨σ,H,I,h⟩
theorem a63 (h1:PS X st t)(h2:PSs X eH u):PSs X (st::eH) (tSeq t u):=by
 intro pins s σ H D I h;refine wpAny_execs_cons (thn (h1 pins s σ H {D with nx:=u D} I h) λf s1 q=> ?_)
 cases f with
 | next=>
  obtain⟨σ',H',I',q⟩:=q;exact h2 pins s1 σ' H' D I' q
 | ret v=>exact q
 | brk=>exact q
 | cont=>exact q
theorem b41 (h1:PS X st t):PSs X [st] t:=by
 intro pins s σ H D I h;refine wpAny_execs_cons (thn (h1 pins s σ H D I h) λf s1 q=> ?_)
 cases f with
 | next=>exact rW q
 | ret v=>exact q
 | brk=>exact q
 | cont=>exact q
theorem Inv.quiet {pins:List (Addr×Obj)}{σ:St}{H:Hp}{s:Shared}(I:Inv X pins σ H s):interactive X.env=false:=by simp[interactive,I.ok.kind]
def tDrop (te:TE):TS:=λD σ H=>te σ H λ_ H1=>D.nx σ H1
theorem bS0 (he:PE X e te)(hs:swapsWith e none pos.line X.env=pure false:=by rfl):PS X (.Expr e pos) (tDrop te):=by
 intro pins s σ H D I h;exact wpAny_Expr_any (thn (he pins s σ H _ I h) λv s1 ⟨x,H1,I1,r1,q1⟩=>⟨σ,H1,I1,q1⟩) I.quiet hs
def tRet (te:TE):TS:=λD σ H=>te σ H D.rt
theorem bE8 (he:PE X e te):PS X (.Return (some e) pos) (tRet te):=by
 intro pins s σ H D I h;exact wpAny_Return_some (thn (he pins s σ H _ I h) λv s1 ⟨x,H1,I1,r1,q1⟩=>⟨x,σ,H1,I1,r1,q1⟩)
def tIfS (c:TT)(t u:TS):TS:=λD σ H=>c σ H λb H1=>if b=true then t D σ H1 else u D σ H1
theorem bZ3 {c:Expr}{a b:List Stmt}{tc:TT}(hc:PT X c tc)(ha:PSs X a t)(hb:PSs X b u):PS X (.If c a b pos) (tIfS tc t u):=by
 intro pins s σ H D I h;refine wpAny_If (thn (hc pins s σ H _ I h) λd s1 ⟨H1,I1,q1⟩=> ?_)
 cases d with
 | true=>exact ha pins s1 σ H1 D I1 q1
 | false=>exact hb pins s1 σ H1 D I1 q1
def tNever:TS:=λ_ _ _=>False
theorem bE9:PS X st tNever:=λ_ _ _ _ _ _ h=>h.elim
end
abbrev TG:=V->St->Hp->(St->Hp->Prop)->Prop
abbrev TGs:=List V->St->Hp->(St->Hp->Prop)->Prop
def PG (X:Cx)(target:Expr)(t:TG):Prop:=
 ∀(pins:List (Addr×Obj)) (s:Shared) (σ:St) (H:Hp) (v:V) (u:Value) (Q:St->Hp->Prop),Inv X pins σ H s->RelV v u->t v σ H Q->
  wpAny (model X.prog X.w) X.A (assign target X.env u) (λ_ s'=> ∃σ' H',Inv X pins σ' H' s'/\Q σ' H') X.xe s
def PGs (X:Cx)(ts:List Expr)(t:TGs):Prop:=
 ∀(pins:List (Addr×Obj)) (s:Shared) (σ:St) (H:Hp) (vs:List V) (us:List Value) (Q:St->Hp->Prop),Inv X pins σ H s->Vals vs us->t vs σ H Q->
  wpAny (model X.prog X.w) X.A (assignInOrder ((assignEach ts X.env).map (·.2)) us) (λ_ s'=> ∃σ' H',Inv X pins σ' H' s'/\Q σ' H') X.xe s
abbrev bF0:=V->V->V->Hp->(Hp->Prop)->Prop
def PSet (X:Cx)(t:bF0):Prop:=
 ∀(pins:List (Addr×Obj)) (s:Shared) (σ:St) (H:Hp) (o i v:V) (ov iv u:Value) (Q:Hp->Prop),Inv X pins σ H s->RelV o ov->RelV i iv->RelV v u->t o i v H Q->
  wpAny (model X.prog X.w) X.A (setItem ov iv u) (λ_ s'=> ∃H',Inv X pins σ H' s'/\Q H') X.xe s
abbrev TIp:=V->V->Hp->VK->Prop
def PIp (X:Cx)(op:Operator)(t:TIp):Prop:=
 ∀(pins:List (Addr×Obj)) (s:Shared) (σ:St) (H:Hp) (x y:V) (v u:Value) (Q:VK),Inv X pins σ H s->RelV x v->RelV y u->t x y H Q->
  wpAny (model X.prog X.w) X.A (inplaceOp op v u) (EP X pins σ Q) X.xe s
section
variable {X:Cx}{pos:Pos}
def u7 (i:Nat):TG:=λv σ H Q=>Q (σ.set i<|some v) H
theorem cQ {i:Nat}{x:Str}(hN:X.N.Nodup)(hi:X.N[i]? =some x)(hx:Loc X.env.scope x)(hf:X.fn x=true\/X.env.scope.names.lookup x=some .local:=by walk_at "z"):PG X (.Name x pos) (u7 i):=by
 intro pins s σ H v u Q I r h;exact wpAny_assign_Name (a62 I hN hi hx r (λs' I'=>⟨_,H,I',h⟩) hf)
def gNil:TGs:=λvs σ H Q=>vs=[]/\Q σ H
def gCons (t:TG)(u:TGs):TGs:=λvs σ H Q=> ∃v r,vs=v::r/\t v σ H λσ' H'=>u r σ' H' Q
theorem bS1:PGs X [] gNil:=by
 intro pins s σ H vs us Q I r h;obtain⟨e,h⟩:=h;subst e;cases r;exact assignInOrder_nil ⟨σ,H,I,h⟩
theorem bF1 {e:Expr}{es:List Expr}{t:TG}{u:TGs}(h1:PG X e t)(h2:PGs X es u)
  (hs:(assignEach (e::es) X.env).map (·.2)=assign e X.env::(assignEach es X.env).map (·.2):=by rfl):PGs X (e::es) (gCons t u):=by
 intro pins s σ H vs us Q I r h;obtain⟨v,vr,e1,h⟩:=h;subst e1;cases r with
 | cons r rr=>
  rw[hs];refine assignInOrder_cons (thn (h1 pins s σ H _ _ _ I r h) λ_ s1 ⟨σ1,H1,I1,q1⟩=> ?_)
  exact h2 pins s1 σ1 H1 _ _ Q I1 rr q1
def gTup (K:Frag)(n:Nat)(t:TGs):TG:=λv σ H Q=> ∃a xs,v= .ref a/\SqT K H a xs/\xs.length=n/\t xs σ H Q
theorem pg_tup {es:List Expr}{k:Nat}{t:TGs}{n:Nat}(hc:X.calm=true)(h:PGs X es t)
  (hn:(assignEach es X.env).length=n:=by rfl) (hst:(assignEach es X.env).findIdx? (·.1)=none:=by rfl):PG X (.Tuple es k pos) (gTup X.K n t):=by
 intro pins s σ H v u Q I r hw;obtain⟨a,xs,e1,hq,hl,hw⟩:=hw;subst e1;cases r;obtain⟨its,rv,ht,hz⟩:=I.tuple hq;refine assign_Tuple_tuple (I.ok.hd hc) ht (by simp[hn,<-hl,rv.length]) hst λh' hx=> ?_
 have I1:Inv X pins σ H {s with heap:=h'}:=I.kept (t':=s.toks) λb o e=>hx b o (aW<|aM e) e
 exact h pins _ σ H xs _ Q I1 (by simpa using rv) hw
def gSub (to ti:TE)(t:bF0):TG:=λv σ H Q=>to σ H λo H1=>ti σ H1 λi H2=>t o i v H2 λH3=>Q σ H3
theorem bF2 {o i:Expr}{to ti:TE}{t:bF0}(ho:PE X o to)(hi:PE X i ti)(hs:PSet X t)
  (ha: ∀v,assign (.Subscript o i pos) X.env v=(do
   let ov<-holding [v] (eval o X.env)
   let iv<-holding [v,ov] (eval i X.env)
   standAt pos
   holding [v,ov,iv] (setItem ov iv v)
   release [v,ov,iv] []):=by intro _;rfl):PG X (.Subscript o i pos) (gSub to ti t):=by
 intro pins s σ H v u Q I r h;rw[ha];refine a9 (e9<|thn (ho pins s σ H _ I h) λov s1 ⟨x,H1,I1,r1,q1⟩=> ?_)
 refine a9 (e9<|thn (hi pins s1 σ H1 _ I1 q1) λiv s2 ⟨y,H2,I2,r2,q2⟩=> ?_)
 refine a9 (sB<|a9<|e9<|thn (hs pins s2 σ H2 x y v ov iv u _ I2 r1 r2 r q2) λ_ s3 ⟨H3,I3,q3⟩=> ?_)
 exact wpAny_release ⟨σ,H3,I3,q3⟩
def tAsg (te:TE)(g:TG):TS:=λD σ H=>te σ H λx H1=>g x σ H1 D.nx
theorem aX9 {tg e:Expr}{te:TE}{g:TG}(he:PE X e te)(hg:PG X tg g)(hs:swapsWithSole [tg] e pos.line X.env=pure false:=by rfl)(hw:swappedStores [tg] e X.env=pure none:=by rfl)
  (h1:(assignEach [tg] X.env).map (·.2)=[assign tg X.env]:=by rfl):PS X (.Assign [tg] e pos) (tAsg te g):=by
 intro pins s σ H D I h;refine wpAny_Assign_stores (thn (he pins s σ H _ I h) λv s1 ⟨x,H1,I1,r1,q1⟩=> ?_) hs hw
 rw[h1];exact thn (hg pins s1 σ H1 x v _ I1 r1 q1) λ_ s2 q=>q
theorem ps_set {i:Nat}{x:Str}{e:Expr}{te:TE}{pos':Pos}(hN:X.N.Nodup)(hi:X.N[i]? =some x)(hx:Loc X.env.scope x)(he:PE X e te)(hs:swapsWith e (some<|.Name x pos') pos.line X.env=pure false:=by rfl)(hf:X.fn x=true\/X.env.scope.names.lookup x=some .local:=by walk_at "z") :
  PS X (.Assign [.Name x pos'] e pos) (tAsg te<|u7 i):=by
 intro pins s σ H D I h;refine wpAny_Assign_Name (thn (he pins s σ H _ I h) λv s1 ⟨y,H1,I1,r1,q1⟩=> ?_) hs
 exact a62 I1 hN hi hx r1 (λs2 I2=>⟨_,H1,I2,q1⟩) hf
def tAug (i:Nat)(te:TE)(ti:TIp):TS:=λD σ H=> ∃x,σ[i]? =some (some x)/\te σ H λy H1=>ti x y H1 λz H2=>D.nx (σ.set i<|some z) H2
theorem ps_aug {i:Nat}{x:Str}{e:Expr}{te:TE}{op:Operator}{ti:TIp}{pos':Pos}(hN:X.N.Nodup)(hi:X.N[i]? =some x)(hx:Loc X.env.scope x)(he:PE X e te)(ho:PIp X op ti)(hf:X.fn x=true\/X.env.scope.names.lookup x=some .local:=by walk_at "z") :
  PS X (.AugAssign (.Name x pos') op e pos) (tAug i te ti):=by
 intro pins s σ H D I h;obtain⟨v,e1,h⟩:=h;obtain⟨m,hn,hl⟩:=I.loc;have vis:Vis X.env.scope x:=by rcases hx with k|k;exact .inl k;exact .inr (.inl k)
 obtain⟨u,r,l⟩:=hl i x v hi e1 vis;refine wpAny_AugAssign_Name ?_;have go:wpAny (model X.prog X.w) X.A (eval e X.env) (λw s₂=>wpAny (model X.prog X.w) X.A (inplaceOp op u w) (λr s₃=>wpAny (model X.prog X.w) X.A (storeName X.env x r) (λ_=>SP X pins D .next) X.xe s₃) X.xe s₂) X.xe s:=by
  refine thn (he pins s σ H _ I h) λw s1 ⟨y,H1,I1,r1,q1⟩=> ?_
  refine thn (ho pins s1 σ H1 v y u w _ I1 r r1 q1) λz s2 ⟨zv,H2,I2,r2,q2⟩=> ?_
  exact a62 I2 hN hi hx r2 (λs3 I3=>⟨_,H2,I3,q2⟩) hf
 rcases l with⟨hk,hm⟩| ⟨hk,c,hc,hcell⟩
 ·exact wpAny_loadName_local I.ok.kind hk hn hm go
 ·rcases hk with hk|hk
  ·exact wpAny_loadName_cell I.ok.kind hk hc hcell go
  ·rcases hx with k|k
   ·have:X.env.scope.names.lookup x=some .free:=hk;rw[k]at this;cases this
   ·have:X.env.scope.names.lookup x=some .free:=hk;rw[k]at this;cases this
def tAugS (to ti te:TE)(tget:V->V->Hp->VK->Prop)(tip:TIp)(tset:bF0):TS:=λD σ H=>to σ H λo H1=>ti σ H1 λi H2=>tget o i H2 λx H3=>te σ H3 λy H4=>tip x y H4 λz H5=>tset o i z H5 λH6=>D.nx σ H6
def PGet (X:Cx)(t:V->V->Hp->VK->Prop):Prop:=
 ∀(pins:List (Addr×Obj)) (s:Shared) (σ:St) (H:Hp) (o i:V) (ov iv:Value) (Q:VK),Inv X pins σ H s->RelV o ov->RelV i iv->t o i H Q->
  wpAny (model X.prog X.w) X.A (getItem ov iv) (EP X pins σ Q) X.xe s
theorem bS2 {o i e:Expr}{to ti te:TE}{tget:V->V->Hp->VK->Prop}{tip:TIp}{tset:bF0}{op:Operator}{tpos:Pos}(ho:PE X o to)(hi:PE X i ti)(hg:PGet X tget)(he:PE X e te)(hp:PIp X op tip)(hs:PSet X tset)
  (ha: ∀ov iv new,augStore i ov iv new=(do holding [new,ov,iv] (setItem ov iv new);release [new,ov,iv] [];pure .next):=by intros;rfl):PS X (.AugAssign (.Subscript o i tpos) op e pos) (tAugS to ti te tget tip tset):=by
 intro pins s σ H D I h;refine wpAny_AugAssign_SubscriptAny (thn (ho pins s σ H _ I h) λov s1 ⟨x1,H1,I1,r1,q1⟩=> ?_) ha
 refine thn (hi pins s1 σ H1 _ I1 q1) λiv s2 ⟨x2,H2,I2,r2,q2⟩=> ?_
 refine thn (hg pins s2 σ H2 x1 x2 ov iv _ I2 r1 r2 q2) λold s3 ⟨x3,H3,I3,r3,q3⟩=> ?_
 refine thn (he pins s3 σ H3 _ I3 q3) λv s4 ⟨x4,H4,I4,r4,q4⟩=> ?_
 refine thn (hp pins s4 σ H4 x3 x4 old v _ I4 r3 r4 q4) λnew s5 ⟨x5,H5,I5,r5,q5⟩=> ?_
 exact thn (hs pins s5 σ H5 x1 x2 x5 ov iv new _ I5 r1 r2 r5 q5) λ_ s6 ⟨H6,I6,q6⟩=>⟨σ,H6,I6,q6⟩
def ipI (f:Int->Int->Int):TIp:=λx y H Q=> ∃i j,x= .int i/\y= .int j/\Q (.int<|f i j) H
theorem ip_add:PIp X .Add (ipI λi j=>i+j):=by
 intro pins s σ H x y v u Q I r1 r2 h;obtain⟨i,j,e1,e2,q⟩:=h;subst e1;subst e2;obtain⟨t,rfl⟩:=r1;obtain⟨t',rfl⟩:=r2;exact iadd_int ⟨.int _,H,I.tok _,⟨_,rfl⟩,q⟩
theorem bF3:PIp X .Sub (ipI λi j=>i-j):=by
 intro pins s σ H x y v u Q I r1 r2 h;obtain⟨i,j,e1,e2,q⟩:=h;subst e1;subst e2;obtain⟨t,rfl⟩:=r1;obtain⟨t',rfl⟩:=r2;exact isub_int ⟨.int _,H,I.tok _,⟨_,rfl⟩,q⟩
end
section
variable {X:Cx}{pos:Pos}
def tWhile (c:TT)(tb:TS):TS:=λD σ H=> ∃W:Nat->St->Hp->Prop,(∃m,W m σ H)/\ ∀m σ H,W m σ H->
 c σ H λb H1=>if b=true then ∃N:St->Hp->Prop,(∀σ' H',N σ' H'-> ∃m',m'<m/\W m' σ' H')/\tb {D with nx:=N,ct:=N,bk:=D.nx} σ H1 else D.nx σ H1
theorem bF4 {c:Expr}{body:List Stmt}{tc:TT}{tb:TS}(hp:PassesOwn (model X.prog X.w) X.A X.env X.xe)(hc:PT X c tc)(hb:PSs X body tb):PS X (.While c body [] pos) (tWhile tc tb):=by
 intro pins s σ H D I h;obtain⟨W,⟨m0,w0⟩,turn⟩:=h;refine wpAny_While (codeAny_whileLoop (λn s'=> ∃σ' H',Inv X pins σ' H' s'/\W n σ' H') ?_ m0 ⟨σ,H,I,w0⟩)
 rintro n s1 ⟨σ1,H1,I1,w1⟩;refine jP hp (thn (hc pins s1 σ1 H1 _ I1<|turn n σ1 H1 w1) λb s2 ⟨H2,I2,q2⟩=> ?_)
 cases b with
 | true=>
  obtain⟨N,hN,q2⟩:=q2;rw[a8 rfl];refine jP hp (thn (hb pins s2 σ1 H2 _ I2 q2) λf s3 q3=> ?_)
  cases f with
  | next=>
   obtain⟨σ3,H3,I3,n3⟩:=q3;obtain⟨m',hm,w3⟩:=hN σ3 H3 n3;exact⟨m',hm,σ3,H3,I3,w3⟩
  | cont=>
   obtain⟨σ3,H3,I3,n3⟩:=q3;obtain⟨m',hm,w3⟩:=hN σ3 H3 n3;exact⟨m',hm,σ3,H3,I3,w3⟩
  | brk=>exact q3
  | ret v=>exact q3
 | false=>
  rw[a7 aY];exact rW ⟨σ1,H2,I2,q2⟩
end
structure It where
 go:Nat->Hp->Prop
 yld:Nat->Hp->V->Hp->Prop
 stop:Nat->Hp->Prop
def zO (X:Cx)(pins:List (Addr×Obj))(H:Hp)(b:Addr):Prop:=
 H b=none/\b≠X.env.locals/\b ∉ X.fs/\(b∈X.ex\/X.s₀.heap.objs.size<=b)/\(∀x c,X.env.cells.lookup x=some c->c≠b)/\ ∀p∈X.pn++pins,p.1≠b
theorem Inv.fpOk {X:Cx}{pins:List (Addr×Obj)}{σ:St}{H H':Hp}{s:Shared}{b:Addr}(I:Inv X pins σ H s)(hb:s.heap.objs.size<=b)(hn:H' b=none):zO X pins H' b:=by
 refine⟨hn,l7<|bO I.lt hb,I.nofs hb,.inr<|aV I.sz hb,λx c e z=> ?_,λp hp z=> ?_⟩
 ·obtain⟨v,q⟩:=I.cell x c e;exact absurd (bO q.lt (by rw[z];exact hb)) (dQ _)
 ·exact absurd (bO (aM (I.pin p hp).1) (by rw[z];exact hb)) (dQ _)
structure aL2 (P:Program)(w:World)(K:Frag)(tg:Expr)(J:It)(fp:List Addr)(it:Addr)(tn:Nat->Heap->Prop):Prop where
 mem:it∈fp
 obj: ∀i h,tn i h-> ∀b∈fp,∃o,h.get? b=some o/\ ∀v,o.data≠ .cell v
 keep: ∀i h h',tn i h->(∀b∈fp,∀o,h.get? b=some o->h'.get? b=some o)->tn i h'
 item: ∀(X:Cx),X.prog=P->X.w=w->X.K=K->X.calm=true-> ∀(i:Nat) (pins:List (Addr×Obj)) (s:Shared) (σ:St) (H:Hp) (E:Value->Shared->Prop),Inv X pins σ H s->(∀b∈fp,zO X pins H b)->tn i s.heap->J.go i H->
  wpAny (model P w) X.A (pyNext<|.ref it) (λr s1=> ∃u,r=some u/\
   wpAny (model P w) X.A (letOwnedTupleGo tg (.ref it) u) (λ_ s2=> ∃x H',Inv X pins σ H' s2/\RelV x u/\J.yld i H x H'/\tn (i+1) s2.heap/\ ∀b∈fp,H' b=none) E s1) E s
 done: ∀(X:Cx),X.prog=P->X.w=w->X.K=K->X.calm=true-> ∀(i:Nat) (pins:List (Addr×Obj)) (s:Shared) (σ:St) (H:Hp) (E:Value->Shared->Prop),Inv X pins σ H s->(∀b∈fp,zO X pins H b)->tn i s.heap->J.stop i H->
  wpAny (model P w) X.A (pyNext<|.ref it) (λr s1=>r=none/\Inv X pins σ H s1) E s
 self: ∀(A:Around) (i:Nat) (s:Shared) (Q:Value->Shared->Prop) (E:Value->Shared->Prop),tn i s.heap->Q (.ref it) s->wpAny (model P w) A (pyIter<|.ref it) Q E s
abbrev TI:=St->Hp->(It->Hp->Prop)->Prop
def PIE (X:Cx)(pins:List (Addr×Obj))(σ:St)(tg:Expr)(R:It->Hp->Prop)(itv:Value)(s2:Shared):Prop:=
 ∃(it:Addr) (fp:List Addr) (tn:Nat->Heap->Prop) (J:It) (H':Hp),itv= .ref it/\Inv X pins σ H' s2/\aL2 X.prog X.w X.K tg J fp it tn/\tn 0 s2.heap/\(∀b∈fp,zO X pins H' b)/\R J H'
def PI (X:Cx)(tg iter:Expr)(wi:TI):Prop:=
 ∀(pins:List (Addr×Obj)) (s:Shared) (σ:St) (H:Hp) (R:It->Hp->Prop),Inv X pins σ H s->wi σ H R->
  wpAny (model X.prog X.w) X.A (eval iter X.env) (λv s1=>wpAny (model X.prog X.w) X.A (pyIter v) (PIE X pins σ tg R) X.xe s1) X.xe s
theorem aF8 {M:Model}{A:Around}{E:Value->Shared->Prop}{s:Shared}{tg:Expr}{it:Addr}{u:Value}{o:Obj}{n:String}{vs:Array Value}{Q:Unit->Shared->Prop}(ho:s.heap.get? it=some o)(hc:o.cls= .type n)(hd:o.data= .fields vs)
  (hn:["enumerate","zip","dict_itemiterator","dict_reverseitemiterator","odict_iterator","itertools.zip_longest","itertools.pairwise"].contains n=false) (hQ:Q () s):wpAny M A (letOwnedTupleGo tg (.ref it) u) Q E s:=by
 unfold letOwnedTupleGo;cases tg<;>first
  | exact aF hQ
  | (cases u<;>first
    | exact aF hQ
    | (refine a9 (wpAny_load ho ?_)
       rw[hc,hd];show wpAny M A (if(["enumerate","zip","dict_itemiterator","dict_reverseitemiterator","odict_iterator","itertools.zip_longest","itertools.pairwise"].contains n&&vs[0]? ==some (rawInt _))=true then _ else _) Q E s;rw[a7 (by intro h;rw[hn,Bool.false_and]at h;cases h)]
       exact aF hQ))
noncomputable def Itl (K:Frag)(a:Addr):It:=
 ⟨λi H=> ∃xs x,SqL K H a xs/\xs[i]? =some x,λi H x H'=>H'=H/\ ∀xs,SqL K H a xs->xs[i]? =some x,λi H=> ∃xs,SqL K H a xs/\xs.length<=i⟩
noncomputable def Itt (K:Frag)(a:Addr):It:=
 ⟨λi H=> ∃xs x,SqT K H a xs/\xs[i]? =some x,λi H x H'=>H'=H/\ ∀xs,SqT K H a xs->xs[i]? =some x,λi H=> ∃xs,SqT K H a xs/\xs.length<=i⟩
noncomputable def Itr (lo:Int)(n:Nat):It:=⟨λi _=>i<n,λi H x H'=>H'=H/\x= .int (lo+i),λi _=>n<=i⟩
theorem bA3 {P:Program}{w:World}{K:Frag}{tg:Expr}(a it:Addr):aL2 P w K tg (Itl K a) [it] it (λi h=>h.IsListIter it a i) where
 mem:=ae
 obj:=λi h st b hb=>by
  have e:b=it:=by simpa using hb
  subst e;obtain⟨o,e,c,d⟩:=st;exact⟨o,e,λv z=>by rw[d]at z;cases z⟩
 keep:=λi h h' st k=>st.at λo e=>k it ae o e
 item:=by
  intro X hP hw hK hc i pins s σ H E I hf st hg;subst hP hw hK;obtain⟨xs,x,hq,hx⟩:=hg;obtain⟨its,rv,p,hz⟩:=I.list hq;obtain⟨u,hu,ru⟩:=rv.get hx;obtain⟨f0,f1,f2,f3,f4,f5⟩:=hf it ae
  refine wpAny_pyNext_list_item st p.isList (x:=u) (by simpa using hu) λh' st' sb=> ?_
  have I1:Inv X pins σ H {s with heap:=h'}:=I.turned (t':=s.toks) (λb o hb e=>(sb.2 b hb).trans e) f0 f1 f3 f4 f5
  obtain⟨o,e,c,d⟩:=id st';exact⟨u,rfl,aF8 (s:={s with heap:=h'}) e c d ac ⟨x,H,I1,ru,⟨rfl,λys hy=>by rw[I.list_inj hy hq];exact hx⟩,st',λb hb=>(hf b hb).1⟩⟩
 done:=by
  intro X hP hw hK hc i pins s σ H E I hf st hg;subst hP hw hK;obtain⟨xs,hq,hx⟩:=hg;obtain⟨its,rv,p,hz⟩:=I.list hq;obtain⟨f0,f1,f2,f3,f4,f5⟩:=hf it ae
  have hl:=rv.length;exact wpAny_pyNext_list_end (I.ok.hd hc) st p.isList (by simp;lia) λh' eb=>⟨rfl,I.turned (t':=s.toks) (λb o hb e=>eb b o hb e) f0 f1 f3 f4 f5⟩
 self:=λ_ _ _ _ _ st h=>wpAny_pyIter_listiter st h
theorem aY0 {P:Program}{w:World}{K:Frag}{tg:Expr}(a it:Addr):aL2 P w K tg (Itt K a) [it] it (λi h=>h.IsTupleIter it a i) where
 mem:=ae
 obj:=λi h st b hb=>by
  have e:b=it:=by simpa using hb
  subst e;obtain⟨o,e,c,d⟩:=st;exact⟨o,e,λv z=>by rw[d]at z;cases z⟩
 keep:=λi h h' st k=>st.at λo e=>k it ae o e
 item:=by
  intro X hP hw hK hc i pins s σ H E I hf st hg;subst hP hw hK;obtain⟨xs,x,hq,hx⟩:=hg;obtain⟨its,rv,p,hz⟩:=I.tuple hq;obtain⟨u,hu,ru⟩:=rv.get hx;obtain⟨f0,f1,f2,f3,f4,f5⟩:=hf it ae
  refine wpAny_pyNext_tuple_item st (show s.heap.IsTuple a its.toArray from p) (x:=u) (by simpa using hu) λh' st' sb=> ?_
  have I1:Inv X pins σ H {s with heap:=h'}:=I.turned (t':=s.toks) (λb o hb e=>(sb.2 b hb).trans e) f0 f1 f3 f4 f5
  obtain⟨o,e,c,d⟩:=id st';exact⟨u,rfl,aF8 (s:={s with heap:=h'}) e c d ac ⟨x,H,I1,ru,⟨rfl,λys hy=>by rw[I.tuple_inj hy hq];exact hx⟩,st',λb hb=>(hf b hb).1⟩⟩
 done:=by
  intro X hP hw hK hc i pins s σ H E I hf st hg;subst hP hw hK;obtain⟨xs,hq,hx⟩:=hg;obtain⟨its,rv,p,hz⟩:=I.tuple hq;obtain⟨f0,f1,f2,f3,f4,f5⟩:=hf it ae
  have hl:=rv.length;exact wpAny_pyNext_tuple_end (I.ok.hd hc) st (show s.heap.IsTuple a its.toArray from p) (by simp;lia) λh' eb=>⟨rfl,I.turned (t':=s.toks) (λb o hb e=>eb b o hb e) f0 f1 f3 f4 f5⟩
 self:=λ_ _ _ _ _ st h=>wpAny_pyIter_tupleiter st h
theorem aY1 {P:Program}{w:World}{K:Frag}{tg:Expr}(it:Addr)(lo:Int)(n:Nat):aL2 P w K tg (Itr lo n) [it] it (λi h=>IsRangeIter h it (lo+(i:Nat)*1) ((n:Int)-(i:Nat)) 1) where
 mem:=ae
 obj:=λi h st b hb=>by
  have e:b=it:=by simpa using hb
  subst e;exact⟨_,st,λv z=>by
   have z':Data.fields _=Data.cell v:=z;cases z'⟩
 keep:=λi h h' st k=>k it ae _ st
 item:=by
  intro X hP hw hK hc i pins s σ H E I hf st hg;subst hP hw hK;obtain⟨f0,f1,f2,f3,f4,f5⟩:=hf it ae
  have W:=Walks.range (prog:=X.prog) (w:=X.w) (I.ok.hd hc) it lo 1 n;refine W.item i s _ _ hg st λv h' tk hv st' kk=> ?_
  obtain⟨t,rfl⟩:=hv;have I1:Inv X pins σ H {s with heap:=h',toks:=tk}:=I.turned (λb o hb e=>kk b o (by simpa using hb) e) f0 f1 f3 f4 f5
  refine⟨_,rfl,aF8 (s:={s with heap:=h',toks:=tk}) (n:="range_iterator") st' rfl rfl ac ⟨.int<|lo+i,H,I1,⟨t,?_⟩,⟨rfl,rfl⟩,st',λb hb=>(hf b hb).1⟩⟩
  rw[lD]
 done:=by
  intro X hP hw hK hc i pins s σ H E I hf st hg;subst hP hw hK;obtain⟨f0,f1,f2,f3,f4,f5⟩:=hf it ae
  exact wpAny_pyNext_range_end (I.ok.hd hc) st (by have:n<=i:=hg;lia) λh' eb=>⟨rfl,I.turned (t':=s.toks) (λb o hb e=>eb b o hb e) f0 f1 f3 f4 f5⟩
 self:=λ_ _ _ _ _ st h=>wE st h
end L2
namespace L2
open PySem PySem.Spec PyProof.Rows
section
variable {X:Cx}{tg:Expr}
theorem aQ6 {pins:List (Addr×Obj)}{σ:St}{H:Hp}{s:Shared}{R:It->Hp->Prop}{E:Value->Shared->Prop}{lo hi:Int}{t u v:Tok}{tk:Nat}(I:Inv X pins σ H s)(h1: -(2^62)<=lo)(h2:lo<2^62)(h3: -(2^62)<=hi)(h4:hi<2^62)
  (q:R (Itr lo (hi-lo).toNat) H):wpAny (model X.prog X.w) X.A (pyIter<|.ref s.heap.objs.size) (PIE X pins σ tg R) E {s with heap:=s.heap.push {cls:= .type "range",data:= .fields #[.int lo t,.int hi u,.int 1 v]},toks:=tk}:=by
 refine wpAny_pyIter_range (IsRange.new ..) (small_one h1 h2 h3 h4) ?_
 have I1:Inv X pins σ H {s with heap:=s.heap.push {cls:= .type "range",data:= .fields #[.int lo t,.int hi u,.int 1 v]},toks:=tk}:=I.kept λb o e=>aO _ e
 refine⟨(s.heap.push {cls:= .type "range",data:= .fields #[.int lo t,.int hi u,.int 1 v]}).objs.size,[(s.heap.push {cls:= .type "range",data:= .fields #[.int lo t,.int hi u,.int 1 v]}).objs.size],_,_,H,rfl,
  I1.kept (t':=tk) λb o e=>aO _ e,aY1 _ lo (hi-lo).toNat,?_,λb hb=> ?_,q⟩
 ·have e1:lo+((0:Nat):Int)*1=lo:=ae
  have e2:(((hi-lo).toNat:Nat):Int)-((0:Nat):Int)=Builtin.Range.rangeSize lo hi 1:=by rw[rangeSize_one];split<;>lia
  show IsRangeIter _ _ (lo+((0:Nat):Int)*1) ((((hi-lo).toNat:Nat):Int)-((0:Nat):Int)) 1
  rw[e1,e2];exact bK _ rfl
 ·have e:b=(s.heap.push {cls:= .type "range",data:= .fields #[.int lo t,.int hi u,.int 1 v]}).objs.size:=by simpa using hb
  subst e;exact I1.fpOk (aC _) (I1.hok.fresh<|aC _)
def iRng1 (ta:TA):TI:=λσ H R=>ta σ H λvs H1=> ∃j:Int,vs=[.int j]/\ -(2^62)<=j/\j<2^62/\R (Itr 0 j.toNat) H1
def iRng2 (ta:TA):TI:=λσ H R=>ta σ H λvs H1=> ∃i j:Int,vs=[.int i,.int j]/\(-(2^62)<=i/\i<2^62/\ -(2^62)<=j/\j<2^62)/\R (Itr i (j-i).toNat) H1
theorem bA4 {a:Expr}{ta:TA}{p pos:Pos}(hg:Gl X "range")(hm:X.mg "range"=none)(ha:PA X [a] ta)(hs:starEach [a] X.env=[(false,eval a X.env)]:=by rfl):PI X tg (.Call (.Name "range" p) [a] [] pos) (iRng1 ta):=by
 intro pins s σ H R I h;refine Call_ (oN I hg hm boot_range<|gL (thn (ha pos pins s σ H _ I h) λus s1 ⟨vs,H1,I1,r1,q1⟩=> ?_) hs rfl)
 obtain⟨j,e,q1,q2,q⟩:=q1;subst e;cases r1 with
 | cons r rr=>
  cases rr;obtain⟨t,rfl⟩:=r;exact call_range_1 (aQ6 I1 ad ad q1 q2<|by simpa using q)
theorem bA5 {a b:Expr}{ta:TA}{p pos:Pos}(hg:Gl X "range")(hm:X.mg "range"=none)(ha:PA X [a,b] ta)(hs:starEach [a,b] X.env=[(false,eval a X.env),(false,eval b X.env)]:=by rfl)(hs2:starEach [b] X.env=[(false,eval b X.env)]:=by rfl) :
  PI X tg (.Call (.Name "range" p) [a,b] [] pos) (iRng2 ta):=by
 intro pins s σ H R I h;refine Call_ (oN I hg hm boot_range<|gL (thn (ha pos pins s σ H _ I h) λus s1 ⟨vs,H1,I1,r1,q1⟩=> ?_) (by rw[hs,hs2]) (by rw[hs2];rfl))
 obtain⟨i,j,e,⟨q1,q2,q3,q4⟩,q⟩:=q1;subst e;cases r1 with
 | cons r rr=>
  cases rr with
  | cons r' rr=>
   cases rr;obtain⟨t,rfl⟩:=r;obtain⟨t',rfl⟩:=r';exact call_range_2 (aQ6 I1 q1 q2 q3 q4 q)
def tFor (wi:TI)(g:TG)(tb:TS):TS:=λD σ H=>wi σ H λJ H1=> ∃W:Nat->Nat->St->Hp->Prop,(∃m,W 0 m σ H1)/\ ∀i m σ H,W i m σ H->
 (J.stop i H/\D.nx σ H)\/(J.go i H/\ ∃N:St->Hp->Prop,(∀σ' H',N σ' H'-> ∃m',m'<m/\W (i+1) m' σ' H')/\ ∀x H',J.yld i H x H'->g x σ H' λσ2 H2=>tb {D with nx:=N,ct:=N,bk:=D.nx} σ2 H2)
noncomputable def a64 (fp:List Addr)(h:Heap):List (Addr×Obj):=fp.filterMap λb=>(h.get? b).map λo=>(b,o)
theorem sQ {fp:List Addr}{h:Heap}{b:Addr}{o:Obj}(hb:b∈fp)(e:h.get? b=some o):(b,o)∈a64 fp h:=List.mem_filterMap.mpr ⟨b,hb,by rw[e];rfl⟩
theorem bA6 {fp:List Addr}{h:Heap}{p:Addr×Obj}(hp:p∈a64 fp h):p.1∈fp/\h.get? p.1=some p.2:=by
 obtain⟨b,hb,e⟩:=List.mem_filterMap.mp hp;cases q:h.get? b with
 | none=>rw[q]at e;cases e
 | some o=>
  rw[q]at e;have e':(b,o)=p:=dZ e;subst e';exact⟨hb,q⟩
theorem Inv.pinned {pins:List (Addr×Obj)}{σ:St}{H:Hp}{s:Shared}{fp:List Addr}(I:Inv X pins σ H s)(hf: ∀b∈fp,zO X pins H b)(ho: ∀b∈fp,∃o,s.heap.get? b=some o/\ ∀v,o.data≠ .cell v):Inv X (pins++a64 fp s.heap) σ H s:=
 I.pins_of λp hp=>(cB.mp hp).elim (λz=>I.pin p (cL _ z)) λz=>by
  obtain⟨hb,e⟩:=bA6 z;obtain⟨f0,f1,f2,_⟩:=hf p.1 hb;obtain⟨o,e',d⟩:=ho p.1 hb;rw[e]at e';cases e';exact⟨e,f0,f1,f2,d⟩
theorem Inv.unpinned {pins pl:List (Addr×Obj)}{σ:St}{H:Hp}{s:Shared}(I:Inv X (pins++pl) σ H s):Inv X pins σ H s:=I.pins_of λp hp=>I.pin p (cL _<|iP _ hp)
theorem ps_for {iter:Expr}{body:List Stmt}{wi:TI}{g:TG}{tb:TS}{pos:Pos}(hp:PassesOwn (model X.prog X.w) X.A X.env X.xe)(hc:X.calm=true)(hi:PI X tg iter wi)(hg:PG X tg g)(hb:PSs X body tb)
  (hs: ∀x,foldedSetIterable iter X.env x=pure x:=by intro _;rfl):PS X (.For tg iter body [] pos) (tFor wi g tb):=by
 intro pins s σ H D I h;refine wpAny_For (thn (hi pins s σ H _ I h) λv s1 h1=>thn h1 λitv s2 h2=> ?_) hs
 obtain⟨it,fp,tn,J,H2,e,I2,T,st2,f2,W,⟨m0,w0⟩,turn⟩:=h2;subst e;have stat: ∀{H':Hp},(∀b∈fp,H' b=none)-> ∀b∈fp,zO X pins H' b:=λhn b hb=>⟨hn b hb,(f2 b hb).2⟩
 refine codeAny_forLoop_any (λn s'=> ∃i σ' H',Inv X pins σ' H' s'/\tn i s'.heap/\(∀b∈fp,H' b=none)/\W i n σ' H') ?_ m0 ⟨0,σ,H2,I2,st2,λb hb=>(f2 b hb).1,w0⟩
 rintro n s3 ⟨i,σ3,H3,I3,st3,fr3,w3⟩;rcases turn i n σ3 H3 w3 with⟨stop,qn⟩| ⟨go,N,hN,step⟩
 ·refine jP hp (thn (T.done X rfl rfl rfl hc i pins s3 σ3 H3 X.xe I3 (stat fr3) st3 stop) λr s4 ⟨hr,I4⟩=> ?_)
  subst hr;exact rW ⟨σ3,H3,I4,qn⟩
 ·refine jP hp (thn (T.item X rfl rfl rfl hc i pins s3 σ3 H3 X.xe I3 (stat fr3) st3 go) λr s4 ⟨u,hr,h4⟩=> ?_)
  subst hr;refine jP hp (thn h4 λ_ s5 ⟨x,H5,I5,r5,y5,st5,fr5⟩=> ?_)
  have I5':=I5.pinned (stat fr5) (T.obj _ _ st5);refine jP hp (thn (hg _ s5 σ3 H5 x u _ I5' r5<|step x H5 y5) λ_ s6 ⟨σ6,H6,I6,q6⟩=> ?_)
  refine jP hp (thn (hb _ s6 σ6 H6 _ I6 q6) λf s7 q7=> ?_)
  have again: ∀{σ7:St} {H7:Hp},Inv X (pins++a64 fp s5.heap) σ7 H7 s7->N σ7 H7-> ∃m,m<n/\ ∃i σ' H',Inv X pins σ' H' s7/\tn i s7.heap/\(∀b∈fp,H' b=none)/\W i m σ' H':=λ{σ7 H7} I7 n7=>by
   obtain⟨m',hm,w7⟩:=hN σ7 H7 n7;refine⟨m',hm,i+1,σ7,H7,I7.unpinned,T.keep _ _ _ st5 λb hb o e=>(I7.pin (b,o)<|cL _<|cL _<|sQ hb e).1,λb hb=> ?_,w7⟩
   obtain⟨o,e,d⟩:=T.obj _ _ st5 b hb;exact(I7.pin (b,o)<|cL _<|cL _<|sQ hb e).2.1
  cases f with
  | next=>obtain⟨σ7,H7,I7,n7⟩:=q7;exact again I7 n7
  | cont=>obtain⟨σ7,H7,I7,n7⟩:=q7;exact again I7 n7
  | brk=>obtain⟨σ7,H7,I7,q7⟩:=q7;exact⟨σ7,H7,I7.unpinned,q7⟩
  | ret v=>obtain⟨x7,σ7,H7,I7,r7,q7⟩:=q7;exact⟨x7,σ7,H7,I7.unpinned,r7,q7⟩
end
end L2
namespace L2
open PySem PySem.Spec PyProof.Rows
abbrev R2:=V->V->Hp->VK->Prop
def OpR (X:Cx)(f:Value->Value->Sem Value)(r:R2):Prop:=
 ∀(pins:List (Addr×Obj)) (s:Shared) (σ:St) (H:Hp) (x y:V) (v u:Value) (Q:VK),Inv X pins σ H s->RelV x v->RelV y u->r x y H Q->
  wpAny (model X.prog X.w) X.A (f v u) (EP X pins σ Q) X.xe s
def UnR (X:Cx)(f:Value->Sem Value)(r:V->Hp->VK->Prop):Prop:=
 ∀(pins:List (Addr×Obj)) (s:Shared) (σ:St) (H:Hp) (x:V) (v:Value) (Q:VK),Inv X pins σ H s->RelV x v->r x H Q->
  wpAny (model X.prog X.w) X.A (f v) (EP X pins σ Q) X.xe s
def m9 (X:Cx)(f:Value)(r:List V->Hp->VK->Prop):Prop:=
 ∀(pins:List (Addr×Obj)) (s:Shared) (σ:St) (H:Hp) (xs:List V) (us:List Value) (Q:VK),Inv X pins σ H s->Vals xs us->r xs H Q->
  wpAny (model X.prog X.w) X.A (call f us) (EP X pins σ Q) X.xe s
def tOp (r:R2)(ta tb:TE):TE:=λσ H Q=>ta σ H λx H1=>tb σ H1 λy H2=>r x y H2 Q
def tUn (r:V->Hp->VK->Prop)(ta:TE):TE:=λσ H Q=>ta σ H λx H1=>r x H1 Q
def rI (C:Int->Int->Prop)(g:Int->Int->V):R2:=λx y H Q=> ∃i j,x= .int i/\y= .int j/\C i j/\Q (g i j) H
def rI0 (g:Int->Int->V):R2:=λx y H Q=> ∃i j,x= .int i/\y= .int j/\Q (g i j) H
def rU (g:Int->V):V->Hp->VK->Prop:=λx H Q=> ∃i,x= .int i/\Q (g i) H
section
variable {X:Cx}{a b c:Expr}{ta tb tc:TE}{pos:Pos}
theorem binT (ha:PE X a ta)(hb:PE X b tb){pins:List (Addr×Obj)}{s:Shared}{σ:St}{H:Hp}{R:V->V->Hp->Prop}(I:Inv X pins σ H s)
  (h:ta σ H λx H1=>tb σ H1 λy H2=>R x y H2) {Q:Value->Shared->Prop} {f:Value->Value->Sem Value}
  (hf: ∀v u s2 x y H2,Inv X pins σ H2 s2->RelV x v->RelV y u->R x y H2->wpAny (model X.prog X.w) X.A (f v u) Q X.xe s2) :
  wpAny (model X.prog X.w) X.A (eval a X.env) (λv s₁=>wpAny (model X.prog X.w) X.A (eval b X.env) (λu s₂=>wpAny (model X.prog X.w) X.A (f v u) Q X.xe s₂) X.xe s₁) X.xe s:=by
 refine thn (ha pins s σ H _ I h) λv s1 ⟨x,H1,I1,r1,q1⟩=> ?_
 refine thn (hb pins s1 σ H1 _ I1 q1) λu s2 ⟨y,H2,I2,r2,q2⟩=> ?_
 exact hf v u s2 x y H2 I2 r1 r2 q2
theorem pe_op {op:Operator}{r:R2}(ho:OpR X (binaryOp op) r)(ha:PE X a ta)(hb:PE X b tb):PE X (.BinOp a op b pos) (tOp r ta tb):=by
 intro pins s σ H Q I h;exact wpAny_BinOp (binT ha hb I h λv u s2 x y H2 I2 rx ry q=>ho pins s2 σ H2 x y v u Q I2 rx ry q)
theorem pe_un {op:UnaryOp}{r:V->Hp->VK->Prop}(ho:UnR X (unaryOp op) r)(ha:PE X a ta):PE X (.UnaryOp op a pos) (tUn r ta):=by
 intro pins s σ H Q I h;exact UnaryOp_ (thn (ha pins s σ H _ I h) λv s1 ⟨x,H1,I1,r1,q1⟩=>ho pins s1 σ H1 x v Q I1 r1 q1)
theorem opI {f:Value->Value->Sem Value}{C:Int->Int->Prop}{g:Int->Int->Int}
  (rule: ∀(i j:Int) (t u:Tok) (s:Shared) (Q:Value->Shared->Prop) (E:Value->Shared->Prop),C i j->Q (.int (g i j) s.toks) {s with toks:=s.toks+1}->wpAny (model X.prog X.w) X.A (f (.int i t)<|.int j u) Q E s) :
  OpR X f (rI C λi j=> .int (g i j)):=by
 intro pins s σ H x y v u Q I rx ry h;obtain⟨i,j,rfl,rfl,hc,q⟩:=h;obtain⟨t,rfl⟩:=rx;obtain⟨t',rfl⟩:=ry;exact rule i j t t' s _ _ hc ⟨.int<|g i j,H,I.tok _,⟨_,rfl⟩,q⟩
theorem opI0 {f:Value->Value->Sem Value}{g:Int->Int->Int}
  (rule: ∀(i j:Int) (t u:Tok) (s:Shared) (Q:Value->Shared->Prop) (E:Value->Shared->Prop),Q (.int (g i j) s.toks) {s with toks:=s.toks+1}->wpAny (model X.prog X.w) X.A (f (.int i t)<|.int j u) Q E s) :
  OpR X f (rI0 λi j=> .int (g i j)):=by
 intro pins s σ H x y v u Q I rx ry h;obtain⟨i,j,rfl,rfl,q⟩:=h;obtain⟨t,rfl⟩:=rx;obtain⟨t',rfl⟩:=ry;exact rule i j t t' s _ _ ⟨.int<|g i j,H,I.tok _,⟨_,rfl⟩,q⟩
theorem bS3 {f:Value->Value->Sem Value}{g:Int->Int->Bool}
  (rule: ∀(i j:Int) (t u:Tok) (s:Shared) (Q:Value->Shared->Prop) (E:Value->Shared->Prop),Q (.bool<|g i j) s->wpAny (model X.prog X.w) X.A (f (.int i t)<|.int j u) Q E s) :
  OpR X f (rI0 λi j=> .bl (g i j)):=by
 intro pins s σ H x y v u Q I rx ry h;obtain⟨i,j,rfl,rfl,q⟩:=h;obtain⟨t,rfl⟩:=rx;obtain⟨t',rfl⟩:=ry;exact rule i j t t' s _ _ ⟨.bl<|g i j,H,I,rfl,q⟩
def bS4 (i j:Int):Prop:=0<=j/\j<=1000000/\i.natAbs<2^64
def aY2 (i j:Int):Prop:=(-(2^64)<i/\i<2^64)\/(-(2^64)<j/\j<2^64)
theorem aY2.ok {i j:Int}(h:aY2 i j):IntMulOk i j:=by
 rcases h with⟨h1,h2⟩| ⟨h1,h2⟩
 ·exact .of_left (intBits_le_64 h1 h2)
 ·exact .of_right (intBits_le_64 h1 h2)
theorem op_add:OpR X (binaryOp .Add) (rI0 λi j=> .int (i+j)):=opI0 λ_ _ _ _ _ _ _ q=>add_int q
theorem op_sub:OpR X (binaryOp .Sub) (rI0 λi j=> .int (i-j)):=opI0 λ_ _ _ _ _ _ _ q=>sub_int q
theorem bS5:OpR X (binaryOp .Mod) (rI (λ_ j=>j≠0) λi j=> .int (i.fmod j)):=opI λ_ _ _ _ _ _ _ hc q=>mod_int' hc q
theorem op_pow:OpR X (binaryOp .Pow) (rI bS4 λi j=> .int (i^j.toNat)):=opI λ_ _ _ _ _ _ _ hc q=>pow_int_small hc.1 hc.2.1 hc.2.2 q
theorem unI {f:Value->Sem Value}{g:Int->Int}
  (rule: ∀(i:Int) (t:Tok) (s:Shared) (Q:Value->Shared->Prop) (E:Value->Shared->Prop),Q (.int (g i) s.toks) {s with toks:=s.toks+1}->wpAny (model X.prog X.w) X.A (f<|.int i t) Q E s) :
  UnR X f (rU λi=> .int (g i)):=by
 intro pins s σ H x v Q I rx h;obtain⟨i,rfl,q⟩:=h;obtain⟨t,rfl⟩:=rx;exact rule i t s _ _ ⟨.int<|g i,H,I.tok _,⟨_,rfl⟩,q⟩
theorem un_neg:UnR X (unaryOp .USub) (rU λi=> .int (-i)):=unI λ_ _ _ _ _ q=>neg_int q
end
noncomputable def scal:V->V->Bool
 | .non,.non=>true| .non,.int _=>true| .int _,.non=>true| .non,.bl _=>true| .bl _,.non=>true| .non,.str _=>true| .str _,.non=>true
 | .int _,.int _=>true| .bl _,.bl _=>true| .str _,.str _=>true| .byt _,.byt _=>true
 | .int _,.str _=>true| .str _,.int _=>true| .bl _,.str _=>true| .str _,.bl _=>true
 | _,_=>false
noncomputable def rEq:R2:=λx y H Q=>scal x y=true/\Q (.bl<|decide (x=y)) H
noncomputable def rNe:R2:=λx y H Q=>scal x y=true/\Q (.bl<|!decide (x=y)) H
theorem a45 {i j:Int}:decide (V.int i=V.int j)=(i==j):=by
 rw[rX];simp
theorem aL3 {i j:Bool}:decide (V.bl i=V.bl j)=(i==j):=by
 rw[rX];simp
theorem a46 {i j:Str}:decide (V.str i=V.str j)=(i==j):=by
 rw[rX];simp
theorem b42 {i j:Array UInt8}:decide (V.byt i=V.byt j)=(i.toList==j.toList):=by
 rw[rX];cases i;cases j;simp
section
variable {X:Cx}{a b c:Expr}{ta tb tc:TE}{pos:Pos}
theorem dW {pins:List (Addr×Obj)}{σ:St}{H:Hp}{s:Shared}{Q:VK}{k k':Bool}(I:Inv X pins σ H s)(q:Q (.bl k) H)(e:k=k'):EP X pins σ Q (.bool k') s:=by
 subst e;exact⟨.bl k,H,I,rfl,q⟩
theorem bF5:OpR X (compareOp .Eq) rEq:=by
 intro pins s σ H x y v u Q I rx ry h;obtain⟨hs,q⟩:=h;cases x with
 | non=>
  cases rx;cases y with
  | non=>cases ry;exact PySem.EqNone.eq_none_none (dW I q ae)
  | bl j=>cases ry;exact PySem.EqNone.eq_none_bool (dW I q ae)
  | int j=>obtain⟨t',rfl⟩:=ry;exact PySem.EqNone.eq_none_int (dW I q ae)
  | str j=>obtain⟨t',rfl⟩:=ry;exact PySem.EqNone.eq_none_str (dW I q ae)
  | _=>exact absurd (show false=true from hs) aY
 | bl i=>
  cases rx;cases y with
  | non=>cases ry;exact PySem.EqNone.eq_bool_none (dW I q ae)
  | bl j=>cases ry;exact eq_bool (dW I q aL3)
  | str j=>obtain⟨t',rfl⟩:=ry;exact PySem.EqMixed.eq_bool_str (dW I q ae)
  | _=>exact absurd (show false=true from hs) aY
 | int i=>
  obtain⟨t,rfl⟩:=rx;cases y with
  | non=>cases ry;exact PySem.EqNone.eq_int_none (dW I q ae)
  | int j=>obtain⟨t',rfl⟩:=ry;exact eq_int (dW I q a45)
  | str j=>obtain⟨t',rfl⟩:=ry;exact PySem.EqMixed.eq_int_str (dW I q ae)
  | _=>exact absurd (show false=true from hs) aY
 | str i=>
  obtain⟨t,rfl⟩:=rx;cases y with
  | non=>cases ry;exact PySem.EqNone.eq_str_none (dW I q ae)
  | bl j=>cases ry;exact PySem.EqMixed.eq_str_bool (dW I q ae)
  | int j=>obtain⟨t',rfl⟩:=ry;exact PySem.EqMixed.eq_str_int (dW I q ae)
  | str j=>obtain⟨t',rfl⟩:=ry;exact eq_str (dW I q a46)
  | _=>exact absurd (show false=true from hs) aY
 | byt i=>
  obtain⟨t,rfl⟩:=rx;cases y with
  | byt j=>obtain⟨t',rfl⟩:=ry;exact PySem.W.eq_bytes (dW I q b42)
  | _=>exact absurd (show false=true from hs) aY
 | _=>cases y<;>exact absurd (show false=true from hs) aY
theorem bF6:OpR X (compareOp .NotEq) rNe:=by
 intro pins s σ H x y v u Q I rx ry h;obtain⟨hs,q⟩:=h;cases x with
 | non=>
  cases rx;cases y with
  | non=>cases ry;exact PySem.EqNone.ne_none_none (dW I q ae)
  | bl j=>cases ry;exact PySem.EqNone.ne_none_bool (dW I q ae)
  | int j=>obtain⟨t',rfl⟩:=ry;exact PySem.EqNone.ne_none_int (dW I q ae)
  | str j=>obtain⟨t',rfl⟩:=ry;exact PySem.EqNone.ne_none_str (dW I q ae)
  | _=>exact absurd (show false=true from hs) aY
 | bl i=>
  cases rx;cases y with
  | non=>cases ry;exact PySem.EqNone.ne_bool_none (dW I q ae)
  | bl j=>cases ry;exact ne_bool (dW I q<|bC not aL3)
  | str j=>obtain⟨t',rfl⟩:=ry;exact PySem.EqMixed.ne_bool_str (dW I q ae)
  | _=>exact absurd (show false=true from hs) aY
 | int i=>
  obtain⟨t,rfl⟩:=rx;cases y with
  | non=>cases ry;exact PySem.EqNone.ne_int_none (dW I q ae)
  | int j=>obtain⟨t',rfl⟩:=ry;exact ne_int (dW I q<|bC not a45)
  | str j=>obtain⟨t',rfl⟩:=ry;exact PySem.EqMixed.ne_int_str (dW I q ae)
  | _=>exact absurd (show false=true from hs) aY
 | str i=>
  obtain⟨t,rfl⟩:=rx;cases y with
  | non=>cases ry;exact PySem.EqNone.ne_str_none (dW I q ae)
  | bl j=>cases ry;exact PySem.EqMixed.ne_str_bool (dW I q ae)
  | int j=>obtain⟨t',rfl⟩:=ry;exact PySem.EqMixed.ne_str_int (dW I q ae)
  | str j=>obtain⟨t',rfl⟩:=ry;exact ne_str (dW I q<|bC not a46)
  | _=>exact absurd (show false=true from hs) aY
 | byt i=>
  obtain⟨t,rfl⟩:=rx;cases y with
  | byt j=>obtain⟨t',rfl⟩:=ry;exact PySem.W.ne_bytes (dW I q<|bC not b42)
  | _=>exact absurd (show false=true from hs) aY
 | _=>cases y<;>exact absurd (show false=true from hs) aY
theorem op_lt:OpR X (compareOp .Lt) (rI0 λi j=> .bl (decide (i<j))):=bS3 λ_ _ _ _ _ _ _ q=>lt_int q
theorem op_le:OpR X (compareOp .LtE) (rI0 λi j=> .bl (decide (i<=j))):=bS3 λ_ _ _ _ _ _ _ q=>le_int q
theorem op_gt:OpR X (compareOp .Gt) (rI0 λi j=> .bl (decide (j<i))):=bS3 λ_ _ _ _ _ _ _ q=>gt_int q
theorem op_ge:OpR X (compareOp .GtE) (rI0 λi j=> .bl (decide (j<=i))):=bS3 λ_ _ _ _ _ _ _ q=>ge_int q
theorem bF7 (b:Expr){op:CmpOp}(h:op≠ .In:=by decide)(h2:op≠ .NotIn:=by decide):behindInMarks op b=false:=by
 have e1:(op==CmpOp.In)=false:=by cases op<;>first|rfl|exact absurd rfl h
 have e2:(op==CmpOp.NotIn)=false:=by cases op<;>first|rfl|exact absurd rfl h2
 cases b<;>simp[behindInMarks,e1,e2]
theorem bS6 {op:CmpOp}{r:R2}(ho:OpR X (compareOp op) r)(ha:PE X a ta)(hb:PE X b tb)(hm:behindInMarks op b=false):PE X (.Compare a [op] [b] pos) (tOp r ta tb):=by
 intro pins s σ H Q I h;exact wpAny_Compare1 (binT ha hb I h λv u s2 x y H2 I2 rx ry q=>ho pins s2 σ H2 x y v u Q I2 rx ry q) hm
def tTest (t:TE):TT:=λσ H Q=>t σ H λx H'=> ∃k,x= .bl k/\Q k H'
theorem bS7 {op:CmpOp}{r:R2}(ho:OpR X (compareOp op) r)(ha:PE X a ta)(hb:PE X b tb)(hm:behindInMarks op b=false):PT X (.Compare a [op] [b] pos) (tTest<|tOp r ta tb):=by
 intro pins s σ H Q I h;refine wpAny_isTrue_Compare1 (thn (ha pins s σ H _ I h) λv s1 ⟨x,H1,I1,r1,q1⟩=>thn (hb pins s1 σ H1 _ I1 q1) λu s2 ⟨y,H2,I2,r2,q2⟩=>
  thn (ho pins s2 σ H2 x y v u _ I2 r1 r2 q2) λc s3 ⟨z,H3,I3,r3,k,e,q3⟩=> ?_) hm
 subst e;cases r3;exact jN ⟨H3,I3,q3⟩
theorem zP:(sizeLine:Nat)<2^63:=by rw[sizeLine_eq];decide
theorem vals1 {x:V}{us:List Value}(r:Vals [x] us): ∃u,us=[u]/\RelV x u:=by
 cases r with
 | cons r1 r2=>cases r2;exact⟨_,rfl,r1⟩
theorem vals2 {x y:V}{us:List Value}(r:Vals [x,y] us): ∃u w',us=[u,w']/\RelV x u/\RelV y w':=by
 cases r with
 | cons r1 r2=>
  cases r2 with
  | cons r3 r4=>cases r4;exact⟨_,_,rfl,r1,r3⟩
theorem bF8:m9 X (.builtin "abs") (λxs H Q=> ∃i,xs=[.int i]/\Q (.int<|if i<0 then -i else i) H):=by
 intro pins s σ H xs us Q I r h;obtain⟨i,rfl,q⟩:=h;obtain⟨u,rfl,t,rfl⟩:=vals1 r;exact call_abs_int λu tk=>⟨.int<|if i<0 then -i else i,H,I.tok _,⟨_,rfl⟩,q⟩
theorem bA7 (hc:X.calm=true):m9 X (.builtin "max") (λxs H Q=> ∃i j,xs=[.int i,.int j]/\Q (.int<|if j>i then j else i) H):=by
 intro pins s σ H xs us Q I r h;obtain⟨i,j,rfl,q⟩:=h;obtain⟨u,w',rfl,⟨t,rfl⟩,⟨t',rfl⟩⟩:=vals2 r;refine max_two_ints (I.ok.hd hc) λh' tk k=>⟨_,H,I.kept k,?_,q⟩
 by_cases hj:j>i
 ·rw[a8 hj,a8 hj];exact⟨_,rfl⟩
 ·rw[a7 hj,a7 hj];exact⟨_,rfl⟩
theorem bA8 (hc:X.calm=true):m9 X (.builtin "min") (λxs H Q=> ∃i j,xs=[.int i,.int j]/\Q (.int<|if j<i then j else i) H):=by
 intro pins s σ H xs us Q I r h;obtain⟨i,j,rfl,q⟩:=h;obtain⟨u,w',rfl,⟨t,rfl⟩,⟨t',rfl⟩⟩:=vals2 r;refine min_two_ints (I.ok.hd hc) λh' tk k=>⟨_,H,I.kept k,?_,q⟩
 by_cases hj:j<i
 ·rw[a8 hj,a8 hj];exact⟨_,rfl⟩
 ·rw[a7 hj,a7 hj];exact⟨_,rfl⟩
theorem aF9:m9 X (.type "int") (λxs H Q=>(∃i,xs=[.int i]/\Q (.int i) H)\/ ∃k,xs=[.bl k]/\Q (.int<|if k then 1 else 0) H):=by
 intro pins s σ H xs us Q I r h;rcases h with⟨i,rfl,q⟩| ⟨k,rfl,q⟩
 ·obtain⟨u,rfl,t,rfl⟩:=vals1 r;exact call_int_int ⟨.int i,H,I,⟨_,rfl⟩,q⟩
 ·obtain⟨u,rfl,r1⟩:=vals1 r;cases r1;exact call_int_bool ⟨.int<|if k then 1 else 0,H,I.tok _,⟨_,rfl⟩,q⟩
end
end L2
namespace L2
open PySem PySem.Spec PyProof.Rows
structure Cls (K:Frag)(C:Addr):Prop where
 pg:PySem.W.plainGet K C Str.empty=true
 hd:PySem.W.hasDictIn K C=true
 po:PySem.W.plainOver K C=true
 sa:PySem.W.findIn K (.ref C) "__setattr__"=some (some<|.builtin "object.__setattr__")
def NoAttr (K:Frag)(C:Addr)(f:Str):Prop:=PySem.W.findIn K (.ref C) f=some none
end L2
namespace L2
open PySem PySem.Spec PyProof.Rows
structure jS (k:Nat)(A:Around):Prop where
 hd:A.handled=none
 dp:A.depth+3*k+5<recursionLimit
 un:A.units+16*k+200<cLine
theorem jS.mono {j k:Nat}{A:Around}(r:jS k A)(h:j<=k):jS j A:=⟨r.hd,by have:=r.dp;lia,by have:=r.un;lia⟩
theorem jS.deeper {k:Nat}{A:Around}(r:jS (k+1) A)(env:Env):jS k (A.deeper env):=
 ⟨r.hd,by have:=r.dp;show A.depth+1+3*k+5<_;lia,by have:=r.un;show A.units+3+16*k+200<_;lia⟩
theorem jS.depth {k:Nat}{A:Around}(r:jS k A):A.depth<recursionLimit:=by have:=r.dp;lia
theorem jS.units {k:Nat}{A:Around}(r:jS k A):A.units+64<cLine:=by have:=r.un;lia
def tNil:TA:=λ_ H Q=>Q [] H
def tCons (ta:TE)(tr:TA):TA:=λσ H Q=>ta σ H λx H1=>tr σ H1 λxs H2=>Q (x::xs) H2
section
variable {X:Cx}{e:Expr}{es:List Expr}{te:TE}{t:TA}{pos:Pos}
theorem aY3:PA X [] tNil:=λ_ _ _ _ H Q I h=>Calls.spliced_nil ⟨[],H,I,.nil,h⟩
theorem aL4 (ha:PE X e te)(hr:PA X es t)(hs:starEach (e::es) X.env=(false,eval e X.env)::starEach es X.env:=by rfl):PA X (e::es) (tCons te t):=by
 intro pos pins s σ H Q I h;rw[hs];show wpAny _ _ (spliced ((false,eval e X.env)::backTo pos (starEach es X.env))) _ _ s;refine Calls.spliced_cons (thn (ha pins s σ H _ I h) λu s1 ⟨x,H1,I1,r1,q1⟩=> ?_)
 exact thn (hr pos pins s1 σ H1 _ I1 q1) λus s2 ⟨xs,H2,I2,r2,q2⟩=>⟨x::xs,H2,I2,.cons r1 r2,q2⟩
def tTup (t:TA):TE:=λσ H Q=>t σ H λxs H1=>xs.length<=sizeLine/\ ∀p,H1 p=none->Q (.ref p) (upd H1 p<|.tup xs)
def tLst (t:TA):TE:=λσ H Q=>t σ H λxs H1=>xs.length<=sizeLine/\ ∀p,H1 p=none->Q (.ref p) (upd H1 p<|.lst xs)
theorem pe_tup {x1}(h:PA X es t):PE X (.Tuple es x1 pos) (tTup t):=by
 intro pins s σ H Q I hq;refine wpAny_Tuple_spliced (thn (h pos pins s σ H _ I hq) λus s1 ⟨xs,H1,I1,r,z,q⟩=>⟨by rw[<-r.length];exact z,?_⟩)
 have hf:H1 s1.heap.objs.size=none:=I1.hok.fresh (aC _);refine⟨.ref s1.heap.objs.size,upd H1 s1.heap.objs.size<|.tup xs,I1.laid (t':=s1.toks) (λb u e=>aO _ e) (aC _) ?_,rfl,q _ hf⟩
 exact⟨z,us,r,⟨_,bK _ rfl,rfl,_,rfl⟩⟩
theorem pe_lst (h:PA X es t):PE X (.List es pos) (tLst t):=by
 intro pins s σ H Q I hq;refine wpAny_List_spliced (thn (h pos pins s σ H _ I hq) λus s1 ⟨xs,H1,I1,r,z,q⟩=>⟨by rw[<-r.length];exact z,?_⟩)
 have hf:H1 s1.heap.objs.size=none:=I1.hok.fresh (aC _);refine⟨.ref s1.heap.objs.size,upd H1 s1.heap.objs.size<|.lst xs,I1.laid (t':=s1.toks) (λb u e=>aO _ e) (aC _) ?_,rfl,q _ hf⟩
 exact⟨z,us,0,r,bK _ rfl⟩
end
abbrev Sp:=List V->Hp->VK->XK->Prop
abbrev CXT:=List Env->Hp->Shared->XK->Value->Shared->Prop
structure bS8 (P:Program)(w:World)(K:Frag)(mg:Str->Option Value)(base:Heap)(A:Around)(outer:List Env)(s:Shared)(H:Hp):Prop where
 frames:A.frames=some outer
 mod:Mod K mg base
 bs: ∀b o,base.get? b=some o->s.heap.get? b=some o/\H b=none
 bsz:base.objs.size<=s.heap.objs.size
 funs:s.heap.FunFrames base outer
 frf: ∀b∈frs outer,H b=none
 hok:HOk P w H s.heap
 bare:AllBare s.gens
def CE (outer:List Env)(P:Program)(w:World)(H:Hp)(s:Shared)(Q:VK)(u:Value)(s':Shared):Prop:=
 ∃v H',s'.os=s.os/\AllBare s'.gens/\Un (frs outer) [] H H' s.heap s'.heap/\HOk P w H' s'.heap/\RelV v u/\Q v H'
def CR (CX:CXT)(outer:List Env)(P:Program)(w:World)(H:Hp)(s:Shared)(Q:VK)(E:XK)(r:Result)(s':Shared):Prop:=
 match r with
 | .ok (.ret u)=>CE outer P w H s Q u s'
 | .ok _=>False
 | .error e=>CX outer H s E e s'
structure xA (P:Program)(w:World)(K:Frag)(mg:Str->Option Value)(base:Heap)(CX:CXT)(k:Nat)(f:Addr)(fd:FuncData)(ps:List Str)(sp:Sp):Prop where
 len: ∀vs H Q E,sp vs H Q E->vs.length=ps.length
 run: ∀(A:Around) (outer:List Env) (s:Shared) (H:Hp) (args:Args) (us:List Value) (vs:List V) (Q:VK) (E:XK),jS k A->bS8 P w K mg base A outer s H->BindsTo s fd args (ps.zip us)->Vals vs us->sp vs H Q E->
  codeAny (model P w) A (.call (.ref f) args) (CR CX outer P w H s Q E) s
section
variable {X:Cx}{pins:List (Addr×Obj)}{σ:St}{H:Hp}{s s':Shared}
theorem Inv.env0 (I:Inv X pins σ H s):bS8 X.prog X.w X.K X.mg X.base X.A X.stack s H:=
 ⟨I.ok.frames,I.ok.mod,I.bs,aV I.ok.bsz I.sz,I.stack,I.stkFree,I.hok,I.bare⟩
theorem Inv.after {Q:VK}{u:Value}(I:Inv X pins σ H s)(h:CE X.stack X.prog X.w H s Q u s'):EP X pins σ Q u s':=by
 obtain⟨v,H',os,bare,un,hok,r,q⟩:=h;obtain⟨hh,g,d,t,os'⟩:=s';obtain rfl:os'=s.os:=os;exact⟨v,H',I.call (h':=hh) (g':=g) (d':=d) (t':=t) (ch:=[]) un hok bare λb z=>absurd z ae,r,q⟩
end
def bF9 (sp:Sp)(dvs:List V)(E:XK)(t:TA):TE:=λσ H Q=>t σ H λvs H1=>sp (vs++dvs) H1 Q E
def Binds (K:Frag)(fd:FuncData)(ps:List Str)(ds:List Value):Prop:=
 ∀(s:Shared) (us:List Value),K.In s.heap->(us++ds).length=ps.length->BindsTo s fd ⟨us,[]⟩ (ps.zip<|us++ds)
theorem Binds.all {K:Frag}{fd:FuncData}{ps:List Str}(h: ∀us:List Value,us.length=ps.length->bindArgs fd ⟨us,[]⟩=pure (ps.zip us)):Binds K fd ps []:=λs us _ hl=>by
 rw[wU]at hl⊢;exact .of_eq (h us hl)
def a65 (CX:CXT)(X:Cx)(E:XK):Prop:= ∀(pins:List (Addr×Obj)) (σ:St) (H:Hp) (s:Shared) (e:Value) (s':Shared),Inv X pins σ H s->CX X.stack H s E e s'->X.xe e s'
section
variable {X:Cx}{CX:CXT}{k:Nat}{f C:Addr}{fd:FuncData}{ps:List Str}{sp:Sp}{dvs:List V}{ds:List Value}{E:XK}{x m:Str}{p pos apos:Pos}{e o:Expr}{es:List Expr}{ta:TE}{t:TA}
theorem bG0 {pins:List (Addr×Obj)}{σ:St}{H:Hp}{s:Shared}{Q:VK}{us:List Value}{vs:List V}(F:xA X.prog X.w X.K X.mg X.base CX k f fd ps sp)(hr:jS k X.A)(hb:Binds X.K fd ps ds)(hd:Vals dvs ds)(hx:a65 CX X E)
  (I:Inv X pins σ H s) (r:Vals vs us) (h:sp (vs++dvs) H Q E):wpAny (model X.prog X.w) X.A (call (.ref f) us) (EP X pins σ Q) X.xe s:=by
 have r2:Vals (vs++dvs) (us++ds):=r.append hd;have hl:(us++ds).length=ps.length:=by rw[<-r2.length];exact F.len _ _ _ _ h
 refine wpAny_call (codeAny_mono (F.run X.A X.stack s H ⟨us,[]⟩ (us++ds) (vs++dvs) Q E hr I.env0 (hb s us I.kIn hl) r2 h) λr s' hq=> ?_)
 cases r with
 | error e=>exact hx pins σ H s e s' I hq
 | ok fl=>
  cases fl with
  | ret u=>exact I.after hq
  | next=>exact False.elim hq
  | brk=>exact False.elim hq
  | cont=>exact False.elim hq
theorem bS9 (F:xA X.prog X.w X.K X.mg X.base CX k f fd ps sp)(hr:jS k X.A)(hg:Gl X x)(hm:X.mg x=some (.ref f))(hk:keepIn X.K (.ref f)=true)(hb:Binds X.K fd ps ds)(hd:Vals dvs ds)(hx:a65 CX X E)
  (ha:PA X (e::es) t) (hdb:(x==("__debug__":Str))=false:=by decide) (he:starEach (e::es) X.env=(false,eval e X.env)::starEach es X.env:=by rfl) (hpl:(backTo pos<|starEach es X.env).any (·.1)=false:=by rfl) :
  PE X (.Call (.Name x p) (e::es) [] pos) (bF9 sp dvs E t):=by
 intro pins s σ H Q I h;refine rM (aL1 I hg hm ?_ hdb);refine PySem.W.callWith_K (h₀:=X.base) I.ok.mod.kin hk (thn (ha pos pins s σ H _ I h) λus s1 ⟨vs,H1,I1,r,q⟩=>⟨I1.kIn,?_⟩) he hpl
 exact bG0 F hr hb hd hx I1 r q
theorem bG1 (F:xA X.prog X.w X.K X.mg X.base CX k f fd ps sp)(hr:jS k X.A)(hg:Gl X x)(hm:X.mg x=some (.ref f))(hk:keepIn X.K (.ref f)=true)(hb:Binds X.K fd ps ds)(hd:Vals dvs ds)(hx:a65 CX X E)
  (hdb:(x==("__debug__":Str))=false:=by decide):PE X (.Call (.Name x p) [] [] pos) (bF9 sp dvs E tNil):=by
 intro pins s σ H Q I h;refine rM (aL1 I hg hm ?_ hdb);exact PySem.W.callWith_K0 I.kIn hk (bG0 (us:=[]) F hr hb hd hx I .nil h)
end
section
variable {X:Cx}{CX:CXT}{k:Nat}{f C:Addr}{fd:FuncData}{ps ks:List Str}{sp:Sp}{E:XK}{x m:Str}{p pos apos kpos:Pos}{e o:Expr}{es:List Expr}{kws:List Keyword}{te ta:TE}{t tk:TA}{nm:Option Str}
variable {g:List Value->List Value->List Value}{gV:List V->List V->List V}
end
structure bW (N P:List Str)(sc:Scope):Prop where
 kind:sc.kind= .function
 co:sc.isCoroutine=false
 gen:sc.isGenerator=false
 nd:N.Nodup
 pre:N.take P.length=P
 par: ∀x∈P,sc.names.lookup x=some .local\/sc.names.lookup x=some .cell
 nofree: ∀y∈sc.names,y.2≠ .free
theorem aG0 {kindOf:Str->Option NameKind}{x:Str}: ∀{binds:List (Str×Value)} {m:Str->Option Value},(∀v,(x,v) ∉ binds)->bindL kindOf binds m x=m x
 | [],_,_=>rfl
 | (n,v)::r,m,h=>by
  unfold bindL;rw[aG0 λw hw=>h w (b6 _ hw)]
  split
  ·have:x≠n:=by rintro rfl;exact h v aP
   simp[this]
  ·rfl
theorem aG1 {kindOf:Str->Option NameKind}{x:Str}: ∀{binds:List (Str×Value)} {m:Str->Option Value},(∀v,(x,v) ∉ binds)->bindC kindOf binds m x=m x
 | [],_,_=>rfl
 | (n,v)::r,m,h=>by
  unfold bindC;rw[aG1 λw hw=>h w (b6 _ hw)]
  split
  ·rfl
  ·have:x≠n:=by rintro rfl;exact h v aP
   simp[this]
theorem aG2 {kindOf:Str->Option NameKind}{x:Str}{v:Value}: ∀{P:List Str} {vs:List Value} {i:Nat} {m:Str->Option Value},P.Nodup->P[i]? =some x->vs[i]? =some v->kindOf x=some .local->
  bindL kindOf (P.zip vs) m x=some v
 | [],_,_,_,_,h,_,_=>by simp at h
 | _::_,[],_,_,_,_,h,_=>by simp at h
 | p::P,w::vs,0,m,nd,h1,h2,hk=>by
  simp at h1 h2;subst h1;subst h2
  show bindL kindOf ((p,w)::P.zip vs) m p=_
  unfold bindL;rw[aG0 λv hv=>(oB.mp nd).1 (wV hv).1,a8 hk]
  simp
 | p::P,w::vs,i+1,m,nd,h1,h2,hk=>by
  show bindL kindOf ((p,w)::P.zip vs) m x=_
  unfold bindL;exact aG2 (i:=i) (oB.mp nd).2 (by simpa using h1) (by simpa using h2) hk
theorem aG3 {kindOf:Str->Option NameKind}{x:Str}{v:Value}: ∀{P:List Str} {vs:List Value} {i:Nat} {m:Str->Option Value},P.Nodup->P[i]? =some x->vs[i]? =some v->kindOf x≠some .local->
  bindC kindOf (P.zip vs) m x=some v
 | [],_,_,_,_,h,_,_=>by simp at h
 | _::_,[],_,_,_,_,h,_=>by simp at h
 | p::P,w::vs,0,m,nd,h1,h2,hk=>by
  simp at h1 h2;subst h1;subst h2
  show bindC kindOf ((p,w)::P.zip vs) m p=_
  unfold bindC;rw[aG1 λv hv=>(oB.mp nd).1 (wV hv).1,a7 hk]
  simp
 | p::P,w::vs,i+1,m,nd,h1,h2,hk=>by
  show bindC kindOf ((p,w)::P.zip vs) m x=_
  unfold bindC;exact aG3 (i:=i) (oB.mp nd).2 (by simpa using h1) (by simpa using h2) hk
noncomputable def start (N:List Str)(vs:List V):St:=vs.map some++replicate (N.length-vs.length) none
noncomputable def zQ (CX:CXT)(P:Program)(w:World)(K:Frag)(mg:Str->Option Value)(base:Heap)(N:List Str)(qual:Str)(scope:Scope)(f:Addr)(cd:Value)(A:Around)(outer:List Env)(s:Shared)(H:Hp)(E:XK):Cx where
 prog:=P
 w:=w
 K:=K
 mg:=mg
 base:=base
 A:=A.deeper (envOfC qual scope s.heap.objs.size f cd)
 N:=N
 s₀:=s
 H₀:=H
 env:=envOfC qual scope s.heap.objs.size f cd
 outer:=outer
 stack:=envOfC qual scope s.heap.objs.size f cd::outer
 ex:=[]
 calm:=true
 fn:=λ_=>true
 pn:=[]
 xe:=λe s'=>wpAny (model P w) (A.deeper<|envOfC qual scope s.heap.objs.size f cd) (leaving (envOfC qual scope s.heap.objs.size f cd) e) (λ_ s''=>CX outer H s E e s'') (λe' s''=>CX outer H s E e' s'') s'
theorem aQ7 {sc:Scope}{n:Nat}{x:Str}(h:sc.names.lookup x=some .cell): ∃c,(cellsFrom n sc.names []).lookup x=some c:=by
 have q:=wF sc.names n [] (.inl h);exact w8.mp q
theorem bA9 {CX:CXT}{P:Program}{w:World}{K:Frag}{mg:Str->Option Value}{base:Heap}{N ps:List Str}{qual:Str}{scope:Scope}{f:Addr}{cd:Value}{A:Around}{outer:List Env}{s s1:Shared}{H:Hp}{E:XK}{us:List Value}{vs:List V}
  (S:bW N ps scope) (hd:A.handled=none) (e0:bS8 P w K mg base A outer s H) (hl:vs.length=ps.length) (r:Vals vs us)
  (x:InCallC s s.heap.objs.size (bindL (envOfC qual scope s.heap.objs.size f cd).kindOf (ps.zip us) λ_=>none) (cellsFrom (s.heap.objs.size+1) scope.names []) (bindC (envOfC qual scope s.heap.objs.size f cd).kindOf (ps.zip us) λ_=>none) s1) :
  Inv (zQ CX P w K mg base N qual scope f cd A outer s H E) [] (start N vs) H s1:=by
 have hpl:ps.length<=N.length:=by have:=bC length S.pre;rw[rS]at this;lia
 obtain⟨h1,tk,rfl,hk⟩:=x.done;have noA: ∀b:Addr,b ∉ (zQ CX P w K mg base N qual scope f cd A outer s H E).ex:=λb z=>absurd (show b∈([]:List Addr)from z) ae
 refine⟨⟨e0.mod,S.kind,rfl,rfl,aC _,λy z c h1 h2=> ?_,λy hy=> ?_,λy c _ h=> ?_,λ_=>hd,Around.frames_deeper e0.frames,.inr ⟨rfl,rfl⟩,λb z=>absurd z (noA b),e0.bs,e0.bsz,λb _ _=>noA b,λb z=>absurd z (noA b),e0.funs,e0.frf⟩,
  rfl,e0.bare,Un.kept hk,⟨_,x.toInCall.ns,λi y v h1 h2 h3=> ?_⟩,λy c h=>⟨_,x.cell y c h⟩,e0.hok.fresh<|aC _,λy c h=> ?_,λp hp=>absurd (show p∈([]:List (Addr×Obj))from hp) ae,e0.hok.kept hk,?_⟩
 ·exact name_of_addr x.apart (kQ h1) (kQ h2)
 ·have hy:scope.names.lookup y=some .cell\/scope.names.lookup y=some .free:=hy;rcases hy with hy|hy
  ·exact aQ7 hy
  ·exact absurd rfl (S.nofree _<|kQ hy)
 ·exact sF (x.above y c<|kQ h)
 ·have hi:i<vs.length:=by
   unfold start at h2
   by_cases hi:i<vs.length
   ·exact hi
   ·rw[nY<|by simpa using hi]at h2
    rw[List.getElem?_replicate]at h2;split at h2<;>cases h2
  have ha:vs[i]? =some v:=by
   unfold start at h2;rw[rB<|by simpa using hi,dD]at h2
   cases e:vs[i]? with
   | none=>rw[e]at h2;cases h2
   | some a=>rw[e]at h2;cases h2;rfl
  obtain⟨u,hu,rv⟩:=r.get ha;have hp:ps[i]? =some y:=by
   rw[<-S.pre,List.getElem?_take_of_lt ad];exact h1
  have ndP:ps.Nodup:=by rw[<-S.pre];exact S.nd.sublist (List.take_sublist _ _)
  refine⟨u,rv,?_⟩
  rcases S.par y (gM hp)with k|k
  ·exact .inl ⟨k,aG2 ndP hp hu k⟩
  ·obtain⟨c,e⟩:=aQ7 (n:=s.heap.objs.size+1) k;refine .inr ⟨.inl k,c,e,?_⟩;have q:=x.cell y c e;rw[aG3 ndP hp hu (by show scope.names.lookup y≠_;rw[k];decide)]at q
   exact q
 ·exact e0.hok.fresh (sF<|x.above y c<|kQ h)
 ·unfold start;show _=N.length;rw[fG,aI,List.length_replicate]
  lia
theorem bZ4 {CX:CXT}{P:Program}{w:World}{K:Frag}{mg:Str->Option Value}{base:Heap}{k:Nat}{f:Addr}{name qual:Str}{params:Arguments}{body:List Stmt}{scope:Scope}{dV kV doc pm cdv ct oc:Value}{an od:Option Addr}
  {osl:Array (Option Value)} {N ps:List Str} {sp:Sp} (lk:K.lookup f=some ⟨oc,od,.func<|fnOf name qual params body scope dV kV doc pm an cdv ct,osl⟩) (hcd:codeIn K cdv qual=true) (S:bW N ps scope)
  (len: ∀vs H Q E,sp vs H Q E->vs.length=ps.length)
  (hbody: ∀(A:Around) (outer:List Env) (s:Shared) (H:Hp) (vs:List V) (Q:VK) (E:XK),jS k (A.deeper<|envOfC qual scope s.heap.objs.size f cdv)->sp vs H Q E->
   ∃t,PSs (zQ CX P w K mg base N qual scope f cdv A outer s H E) body t/\t {nx:=λ_ H'=>Q .non H',rt:=Q} (start N vs) H) :
  xA P w K mg base CX (k+1) f (fnOf name qual params body scope dV kV doc pm an cdv ct) ps sp:=by
 refine⟨len,λA outer s H args us vs Q E hr e0 hb r hsp=> ?_⟩
 have hl:=len _ _ _ _ hsp;have KX:K.In s.heap:=e0.mod.kin.keeps λb o e=>(e0.bs b o e).1
 have lim:s.heap.NoLimit:=e0.mod.nolimit.keeps λb o e=>(e0.bs b o e).1
 have hkind: ∀y∈ps.zip us,scope.names.lookup y.1=some .local\/(scope.names.lookup y.1=some .cell/\((cellsFrom (s.heap.objs.size+1) scope.names []).lookup y.1).isSome=true):=λ⟨n,v⟩ hy=>by
  rcases S.par n (wV hy).1 with q|q
  ·exact .inl q
  ·exact .inr ⟨q,wF _ _ _<|.inl q⟩
 refine codeAny_call_function hr.depth (KX _ _ lk) rfl S.co S.gen rfl (PySem.W.codeRec_of KX hcd) (hb _ _ _ _ ?_)
 refine wpAny_newFunctionEnv_cells S.kind hkind λenv he s1 x=> ?_
 subst he;refine⟨lim.keeps x.toInCall.keep,codeAny_func ?_⟩;obtain⟨t,ht,hq⟩:=hbody A outer s H vs Q E (hr.deeper _) hsp;have I:Inv (zQ CX P w K mg base N qual scope f cdv A outer s H E) [] (start N vs) H s1:=bA9 S hr.hd e0 hl r x;refine bR (ht [] s1 (start N vs) H _ I hq) (λfl s' hs=> ?_) λe s' hs=>hs
 have fin: ∀{σ':St} {H':Hp} {v:V} {u:Value},Inv (zQ CX P w K mg base N qual scope f cdv A outer s H E) [] σ' H' s'->RelV v u->Q v H'->CE outer P w H s Q u s':=
  λ{σ' H' v u} J rv q=>⟨v,H',J.os,J.bare,J.base,J.hok,rv,q⟩
 cases fl with
 | ret u=>
  obtain⟨v,σ',H',J,rv,q⟩:=hs;exact fin J rv q
 | next=>
  obtain⟨σ',H',J,q⟩:=hs;exact fin (v:=V.non) (u:=Value.none) J rfl q
 | brk=>
  obtain⟨_,_,_,q⟩:=hs;exact False.elim q
 | cont=>
  obtain⟨_,_,_,q⟩:=hs;exact False.elim q
end L2
namespace L2
open PySem PySem.Spec PyProof.Rows
section
variable {X:Cx}{x:Str}{p pos:Pos}{e:Expr}{es:List Expr}{t:TA}{id T:String}{r:List V->Hp->VK->Prop}
def tCB (r:List V->Hp->VK->Prop)(t:TA):TE:=λσ H Q=>t σ H λvs H1=>r vs H1 Q
theorem aQ8 (hc:m9 X (.builtin id) r)(hg:Gl X x)(hm:X.mg x=none)(hv:bootBuiltins x=some (.builtin id))(ha:PA X (e::es) t)(hn:x≠"__name__":=by decide)(hdb:(x==("__debug__":Str))=false:=by decide)
  (he:starEach (e::es) X.env=(false,eval e X.env)::starEach es X.env:=by rfl) (hpl:(backTo pos<|starEach es X.env).any (·.1)=false:=by rfl):PE X (.Call (.Name x p) (e::es) [] pos) (tCB r t):=by
 intro pins s σ H Q I h;refine rM (oN I hg hm hv ?_ hn hdb);exact PyProof.Rows.callWith_builtin1 (thn (ha pos pins s σ H _ I h) λus s1 ⟨vs,H1,I1,r1,q1⟩=>hc pins s1 σ H1 vs us Q I1 r1 q1) he hpl
theorem bB0 (hc:m9 X (.type T) r)(hg:Gl X x)(hm:X.mg x=none)(hv:bootBuiltins x=some (.type T))(ha:PA X (e::es) t)(hn:x≠"__name__":=by decide)(hdb:(x==("__debug__":Str))=false:=by decide)
  (he:starEach (e::es) X.env=(false,eval e X.env)::starEach es X.env:=by rfl) (hpl:(backTo pos<|starEach es X.env).any (·.1)=false:=by rfl):PE X (.Call (.Name x p) (e::es) [] pos) (tCB r t):=by
 intro pins s σ H Q I h;refine rM (oN I hg hm hv ?_ hn hdb);exact gL (thn (ha pos pins s σ H _ I h) λus s1 ⟨vs,H1,I1,r1,q1⟩=>hc pins s1 σ H1 vs us Q I1 r1 q1) he hpl
end
end L2
namespace HT
open PySem PyProof.Rows
section
open PySem.SeqAt
open PySem.AutoSeq1 (wpAny_loadPart')
open PySem.MeetsSeq PySem.MeetsSeq2 PySem.MeetsSeq3
end
section
variable {prog:Program}{w:World}{A:Around}{E:Value->Shared->Prop}{s:Shared}
theorem cat_tup {t b:Addr}{vs ws:List Value}{Q:Value->Shared->Prop}(ht:IsTup s.heap t vs.toArray)(hb:IsTup s.heap b ws.toArray)(hv:vs≠[])
  (h1:ws=[]->Q (.ref t) s) (h2:ws≠[]->Q (.ref s.heap.objs.size) {s with heap:=s.heap.push {cls:= .type "tuple",data:= .seq (vs++ws).toArray}})
  (hsz:vs.length+ws.length<=sizeLine):wpAny (model prog w) A (binaryOp .Add (.ref t)<|.ref b) Q E s:=by
 obtain⟨⟨cls,dd,data,sl⟩,ho,hc,n,hd⟩:=id ht;obtain⟨⟨cls2,dd2,data2,sl2⟩,ho2,hc2,n2,hd2⟩:=id hb;simp only at hc hd hc2 hd2;subst hc hd hc2 hd2;have e:vs.toArray++ws.toArray=(vs++ws).toArray:=ae
 by_cases hw:ws=[]
 ·exact concat_meets ⟨_,ho,rfl⟩ ⟨_,ho2,rfl⟩ wQ seq_tuple_add wG wC (wA _ _)
   (tuple_addW1 t b vs.toArray ws.toArray n n2 dd dd2 sl sl2 (by simpa using hv)<|by simp[hw]) ⟨ho,ho2,h1 hw⟩
 ·refine concat_meets ⟨_,ho,rfl⟩ ⟨_,ho2,rfl⟩ wQ seq_tuple_add wG wC (wA _ _)
   (tuple_addW2 t b vs.toArray ws.toArray n n2 dd dd2 sl sl2 (by simpa using hv) (by simpa using hw) (by rw[aU,aU];exact hsz)) ⟨ho,ho2,?_⟩
  rw[e];exact h2 hw
noncomputable def sIx (n d:Nat):Option Int->Nat
 | none=>d
 | some v=>if v<0 then(v+(n:Int)).toNat else min v.toNat n
theorem sIx_none (n d:Nat):sIx n d none=d:=rfl
theorem sIx_nat (n d k:Nat):sIx n d (some (k:Int))=min k n:=by
 show(if(k:Int)<0 then((k:Int)+(n:Int)).toNat else min (k:Int).toNat n)=min k n
 rw[a7 ad,fH]
theorem sIx_le (n d:Nat)(hd:d<=n)(o:Option Int):sIx n d o<=n:=by
 cases o with
 | none=>exact hd
 | some v=>
  show(if v<0 then(v+(n:Int)).toNat else min v.toNat n)<=n
  by_cases hv:v<0
  ·rw[a8 hv];lia
  ·rw[a7 hv];exact Nat.min_le_right _ _
theorem b43 (v:Int)(n d:Nat):(if v<0 then max (v+(n:Int)) 0 else min v (n:Int))=((sIx n d (some v):Nat):Int):=by
 show(if v<0 then max (v+(n:Int)) 0 else min v (n:Int))=(((if v<0 then(v+(n:Int)).toNat else min v.toNat n):Nat):Int)
 by_cases hv:v<0
 ·simp only[a8 hv];lia
 ·simp only[a7 hv];lia
theorem aY4 (lo hi:Option Int)(n:Nat):Builtin.Slice.sliceAdjust lo hi 1 (n:Int)=(((sIx n 0 lo:Nat):Int),((sIx n n hi:Nat):Int)):=by
 have h1: ¬((1:Int)<0):=ad
 unfold Builtin.Slice.sliceAdjust;simp only[h1,dR];refine fM ?_ ?_
 ·cases lo with
  | none=>rfl
  | some v=>exact b43 v n 0
 ·cases hi with
  | none=>rfl
  | some v=>exact b43 v n n
theorem aY5 (i j:Nat):Builtin.Slice.slicePlaces (i:Int) (j:Int) 1=j-i:=by
 unfold Builtin.Slice.slicePlaces;have h1:(1:Int)>0:=ad
 simp only[h1,eT,Int.ediv_one];split<;>lia
theorem a66 {v:Value}{o:Option Int}{Q:Option Int->Shared->Prop}(p:IsPart v o)(h:Q o s):wpAny (model prog w) A (Builtin.Slice.slicePartIndex v) Q E s:=by
 cases p with
 | none=>exact slicePart_none h
 | int i t=>exact slicePart_int h
theorem qN {sl:Addr}{vl vu:Value}{lo hi:Option Int}{n:Nat}{Q:Int×Int×Nat->Shared->Prop}(hs:s.heap.IsSliceOf sl vl vu .none)(pl:IsPart vl lo)(pu:IsPart vu hi)
  (h:Q (((sIx n 0 lo:Nat):Int),1,sIx n n hi-sIx n 0 lo) s):wpAny (model prog w) A (Builtin.Slice.sliceApplied (.ref sl)<|pure (n:Int)) Q E s:=by
 obtain⟨os,hos,hcs,hds⟩:=id hs;unfold Builtin.Slice.sliceApplied Builtin.Slice.sliceFields;refine a9 (a9<|cF hos hds (x:=vl) rfl (a9<|cF hos hds (x:=vu) rfl (a9<|cF hos hds (x:= .none) rfl (aF ?_))));refine a9 (slicePart_none ?_);show wpAny _ _ (if((1:Int)==0)=true then _ else _) _ _ s;rw[a7 ac]
 refine a9 (a66 pl<|a9<|a66 pu<|a9<|aF ?_)
 show wpAny _ _ (match Builtin.Slice.sliceAdjust lo hi 1 (n:Int)with| (lo,hi)=>pure (lo,(1:Int),Builtin.Slice.slicePlaces lo hi 1)) _ _ s
 rw[aY4 lo hi n];show wpAny _ _ (pure (((sIx n 0 lo:Nat):Int),(1:Int),Builtin.Slice.slicePlaces ((sIx n 0 lo:Nat):Int) ((sIx n n hi:Nat):Int) 1)) _ _ s;rw[aY5];exact aF h
theorem bG2 (xs:Array Value)(i k:Nat):((List.range k).filterMap fun(m:Nat)=>xs[((i:Int)+(m:Int)*1).toNat]?).toArray=((xs.toList.drop i).take k).toArray:=by
 have e:(fun(m:Nat)=>xs[((i:Int)+(m:Int)*1).toNat]?)=λm=>xs[i+m]? :=by
  funext m
  have:((i:Int)+(m:Int)*1).toNat=i+m:=ad
  rw[this]
 rw[e];have:=pick_run xs i k;rw[List.filterMap_map]at this;have e2:((λx=>xs[x]?)∘λx=>i+x)=λm=>xs[i+m]? :=rfl
 rw[e2]at this;rw[this]
theorem getItem_tuple_cut {t sl:Addr}{items:Array Value}{vl vu:Value}{lo hi:Option Int}{Q:Value->Shared->Prop}(ht:IsTup s.heap t items)(hs:s.heap.IsSliceOf sl vl vu .none)(pl:IsPart vl lo)(pu:IsPart vu hi)
  (hw: ¬(sIx items.size 0 lo=0/\sIx items.size items.size hi=items.size))
  (h:Q (.ref s.heap.objs.size) {s with heap:=s.heap.push {cls:= .type "tuple",data:= .seq ((items.toList.drop<|sIx items.size 0 lo).take<|sIx items.size items.size hi-sIx items.size 0 lo).toArray}})
  (hsz:items.size<=sizeLine):wpAny (model prog w) A (getItem (.ref t)<|.ref sl) Q E s:=by
 have htake:sizeOk (.seq ((items.toList.drop<|sIx items.size 0 lo).take<|sIx items.size items.size hi-sIx items.size 0 lo).toArray):=by
  show((items.toList.drop<|sIx items.size 0 lo).take<|sIx items.size items.size hi-sIx items.size 0 lo).toArray.size<=sizeLine
  rw[aU,rS,rT,jL];omega
 have hj:sIx items.size items.size hi<=items.size:=sIx_le _ _ (aC _) hi;obtain⟨os,hos,hcs,hds⟩:=id hs;have hTs:s.TypeIs (.ref sl) "slice":=⟨os,hos,hcs⟩;unfold getItem;try with_reducible refine e9 ?_
 first|refine a9 (aF ?_)|skip
 refine a9 (wpAny_sequenceKey ht.typeIs ac ?_)
 refine a9 (iM (name:=Str.ofString "__getitem__") ht.typeIs rA
  (fK rA ht.typeIs entry_tuple_getitem ?_<|args_tuple_getitem _ _))
 show wpAny _ _ (Builtin.Tuple.tupleItemsOf (.ref t) >>= _) _ _ s
 refine a9 (tupleItemsOf_ ht ?_)
 refine a9 (wpAny_typeOf hTs ?_)
 rw[a8 ac]
 refine a9 (qN hs pl pu ?_)
 have hno: ¬((((sIx items.size 0 lo:Nat):Int)==0&&(1:Int)==1&&(sIx items.size items.size hi-sIx items.size 0 lo)==items.size)=true):=by
  intro q;rw[c8,c8]at q;have q1:((sIx items.size 0 lo:Nat):Int)=0:=eq_of_beq q.1.1;have q2:sIx items.size items.size hi-sIx items.size 0 lo=items.size:=eq_of_beq q.2;exact hw ⟨aa,aa⟩
 show wpAny _ _ (if(((sIx items.size 0 lo:Nat):Int)==0&&(1:Int)==1&&(sIx items.size items.size hi-sIx items.size 0 lo)==items.size)=true then _ else _) _ _ s
 rw[a7 hno,bG2]
 first
  | exact a9 (m:=Builtin.Tuple.tupleExact _) (i8 (aF ⟨_,rfl,aF h⟩) htake)
  | exact a9 (m:=Builtin.Tuple.tupleExact _) (i8 (a9<|aF<|aF ⟨_,rfl,aF h⟩) htake)
  | exact a9 (a9 (m:=Builtin.Tuple.tupleExact _)<|i8 (aF<|aF ⟨_,rfl,aF h⟩) htake)
  | exact a9 (a9 (m:=Builtin.Tuple.tupleExact _)<|i8 (aF ⟨_,rfl,aF h⟩) htake)
end
end HT
namespace L2
open PySem PySem.Spec PyProof.Rows
abbrev TO:=St->Hp->(Option Int->Hp->Prop)->Prop
def PO (X:Cx)(e:Option Expr)(t:TO):Prop:=
 ∀(pins:List (Addr×Obj)) (s:Shared) (σ:St) (H:Hp) (Q:Option Int->Hp->Prop),Inv X pins σ H s->t σ H Q->
  wpAny (model X.prog X.w) X.A (evalPart e X.env) (λu s'=> ∃o H',Inv X pins σ H' s'/\IsPart u o/\Q o H') X.xe s
def bT0:TO:=λ_ H Q=>Q none H
def tPart (t:TE):TO:=λσ H Q=>t σ H λx H1=> ∃i,x= .int i/\Q (some i) H1
section
variable {X:Cx}{e:Expr}{te:TE}{lo hi:Option Expr}{tl th:TO}{pos p2:Pos}
theorem bT1:PO X none bT0:=by
 intro pins s σ H Q I h;rw[evalPart_none];exact aF ⟨none,H,I,.none,h⟩
theorem b44 (h:PE X e te):PO X (some e) (tPart te):=by
 intro pins s σ H Q I hw;rw[evalPart_some];refine thn (h pins s σ H _ I hw) λu s1 ⟨x,H1,I1,r1,q1⟩=> ?_
 obtain⟨i,rfl,q⟩:=q1;obtain⟨t,rfl⟩:=r1;exact⟨some i,H1,I1,.int i t,q⟩
def SlR (X:Cx)(r:V->Option Int->Option Int->Hp->VK->Prop):Prop:=
 ∀(pins:List (Addr×Obj)) (s:Shared) (σ:St) (H:Hp) (x:V) (v vl vu:Value) (lo hi:Option Int) (sl:Addr) (Q:VK),Inv X pins σ H s->RelV x v->s.heap.IsSliceOf sl vl vu .none->IsPart vl lo->IsPart vu hi->r x lo hi H Q->
  ∃T id,typeLookup (.type T) "__getitem__"=pure (some<|.builtin id)/\s.TypeIs v T/\wpAny (model X.prog X.w) X.A (getItem v<|.ref sl) (EP X pins σ Q) X.xe s
theorem SlR.or {r r':V->Option Int->Option Int->Hp->VK->Prop}(h:SlR X r)(h':SlR X r'):SlR X (λx lo hi H Q=>r x lo hi H Q\/r' x lo hi H Q):=by
 intro pins s σ H x v vl vu lo hi sl Q I rx hs pl pu q;rcases q with q|q
 ·exact h pins s σ H x v vl vu lo hi sl Q I rx hs pl pu q
 ·exact h' pins s σ H x v vl vu lo hi sl Q I rx hs pl pu q
def tSl (r:V->Option Int->Option Int->Hp->VK->Prop)(te:TE)(tl th:TO):TE:=λσ H Q=>te σ H λx H1=>tl σ H1 λl H2=>th σ H2 λu H3=>r x l u H3 Q
theorem aQ9 {r:V->Option Int->Option Int->Hp->VK->Prop}(hr:SlR X r)(he:PE X e te)(hl:PO X lo tl)(hu:PO X hi th):PE X (.Subscript e (.Slice lo hi none p2) pos) (tSl r te tl th):=by
 intro pins s σ H Q I h;refine Subscript_ (thn (he pins s σ H _ I h) λv s1 ⟨x,H1,I1,r1,q1⟩=> ?_)
 refine wpAny_Slice (thn (hl pins s1 σ H1 _ I1 q1) λvl s2 ⟨l,H2,I2,pl,q2⟩=>thn (hu pins s2 σ H2 _ I2 q2) λvu s3 ⟨u,H3,I3,pu,q3⟩=> ?_)
 rw[evalPart_none];refine aF ?_;have I4:Inv X pins σ H3 {s3 with heap:=s3.heap.push {cls:= .type "slice",data:= .fields #[vl,vu,.none]}}:=I3.kept (t':=s3.toks) λb ob q=>aO _ q
 obtain⟨T,id,hT,ht,hg⟩:=hr pins {s3 with heap:=s3.heap.push {cls:= .type "slice",data:= .fields #[vl,vu,.none]}} σ H3 x v vl vu l u s3.heap.objs.size Q I4 r1 (Heap.IsSliceOf.new ..) pl pu q3;show wpAny (model X.prog X.w) X.A (subscriptTail e (.Slice lo hi none p2) v<|.ref s3.heap.objs.size) (EP X pins σ Q) X.xe {s3 with heap:=s3.heap.push {cls:= .type "slice",data:= .fields #[vl,vu,.none]}}
 exact tail_any (ops:=[.ref s3.heap.objs.size,v]) ht hT hg (by with_unfolding_all rfl)
noncomputable def aR0 (xs:List V)(lo hi:Option Int):List V:=(xs.drop<|HT.sIx xs.length 0 lo).take (HT.sIx xs.length xs.length hi-HT.sIx xs.length 0 lo)
theorem a17 (xs:List V)(lo hi:Option Int):(aR0 xs lo hi).length<=xs.length:=by
 unfold aR0;rw[rS,rT]
 lia
noncomputable def rSlT (K:Frag):V->Option Int->Option Int->Hp->VK->Prop:=λx lo hi H Q=> ∃a xs,x= .ref a/\SqT K H a xs/\
 ¬(HT.sIx xs.length 0 lo=0/\HT.sIx xs.length xs.length hi=xs.length)/\ ∀p,H p=none->Q (.ref p) (upd H p<|.tup<|aR0 xs lo hi)
theorem bG3:SlR X (rSlT X.K):=by
 intro pins s σ H x v vl vu lo hi sl Q I rx hs pl pu h;obtain⟨a,xs,rfl,hx,hw,q⟩:=h;cases rx;obtain⟨its,r,ht,hz⟩:=I.tuple hx;have hlen:its.toArray.size=xs.length:=by rw[aU];exact r.length.symm
 refine⟨"tuple",_,PyProof.Rows.slot_tuple_getitem.lookup,ht.typeIs,?_⟩
 refine HT.getItem_tuple_cut ht hs pl pu (by rw[hlen];exact hw) ?_ (by rw[hlen];exact hz)
 rw[hlen];refine⟨.ref s.heap.objs.size,_,I.laid (t':=s.toks) (o:= .tup (aR0 xs lo hi)) (λb ob q=>aO _ q) (aC _) ?_,rfl,q _<|I.hok.fresh<|aC _⟩
 exact⟨aV (a17 xs lo hi) hz,_,(r.drop<|HT.sIx xs.length 0 lo).take<|HT.sIx xs.length xs.length hi-HT.sIx xs.length 0 lo,IsTup.new _ _⟩
noncomputable def rCatT (K:Frag):R2:=λx y H Q=> ∃a b xs ys,x= .ref a/\y= .ref b/\SqT K H a xs/\SqT K H b ys/\xs≠[]/\xs.length+ys.length<=sizeLine/\
 (ys=[]->Q (.ref a) H)/\(ys≠[]-> ∀p,H p=none->Q (.ref p) (upd H p<|.tup<|xs++ys))
theorem Vals.nil_iff {xs:List V}{us:List Value}(r:Vals xs us):us=[]↔xs=[]:=by
 cases r with
 | nil=>simp
 | cons _ _=>simp
theorem bT2:OpR X (binaryOp .Add) (rCatT X.K):=by
 intro pins s σ H x y v u Q I rx ry h;obtain⟨a,b,xs,ys,rfl,rfl,ha,hb,hx,hz,q1,q2⟩:=h;cases rx;cases ry;obtain⟨its,r1,p1,_⟩:=I.tuple ha;obtain⟨its2,r2,p2,_⟩:=I.tuple hb;refine HT.cat_tup p1 p2 (λz=>hx (r1.nil_iff.mp z)) (λz=>⟨.ref a,H,I,rfl,q1<|r2.nil_iff.mp z⟩) (λz=> ?_) (by rw[<-r1.length,<-r2.length];exact hz)
 refine⟨.ref s.heap.objs.size,_,I.laid (t':=s.toks) (o:= .tup (xs++ys)) (λb ob q=>aO _ q) (aC _) ?_,rfl,q2 (λw=>z (r2.nil_iff.mpr w)) _<|I.hok.fresh<|aC _⟩
 exact⟨by rw[fG];exact hz,_,r1.append r2,IsTup.new _ _⟩
end
end L2
namespace L2
open PySem PySem.Spec PyProof.Rows
noncomputable def ixN (n:Nat)(i:Int):Option Nat:=if 0<=i then(if i<n then some i.toNat else none)else if -(n:Int)<=i then some (i+n).toNat else none
noncomputable def atI {α:Type}(xs:List α)(i:Int):Option α:=(ixN xs.length i).bind λj=>xs[j]?
theorem b45 {n:Nat}{i:Int}{j:Nat}(h:ixN n i=some j):seqIndex? i n=some j/\j<n/\ -(n:Int)<=i/\i<n:=by
 unfold ixN at h
 by_cases h0:0<=i
 ·rw[a8 h0]at h
  by_cases h1:i<n
  ·rw[a8 h1]at h;have e:i.toNat=j:=dZ h;exact⟨by rw[sL h0 h1,e],ad,ad,h1⟩
  ·rw[a7 h1]at h;cases h
 ·rw[a7 h0]at h
  by_cases h1: -(n:Int)<=i
  ·rw[a8 h1]at h;have e:(i+n).toNat=j:=dZ h;exact⟨by rw[sG ad h1,e],ad,h1,ad⟩
  ·rw[a7 h1]at h;cases h
theorem a47 {α:Type}{xs:List α}{i:Int}{v:α}(h:atI xs i=some v): ∃j,seqIndex? i xs.length=some j/\xs[j]? =some v/\j<xs.length/\ -(xs.length:Int)<=i/\i<xs.length:=by
 unfold atI at h;cases e:ixN xs.length i with
 | none=>rw[e]at h;cases h
 | some j=>
  rw[e]at h;obtain⟨h1,h2,h3,h4⟩:=b45 e;exact⟨j,h1,h,h2,h3,h4⟩
theorem c6 {α:Type}{xs:List α}{j:Nat}{v:α}(h:xs[j]? =some v):atI xs (j:Int)=some v:=by
 have hj:j<xs.length:=(fF.mp h).1;have e:ixN xs.length (j:Int)=some j:=by
  unfold ixN;rw[a8 ad,a8 ad];simp
 unfold atI;rw[e];exact h
theorem bG4 {α:Type}(xs:List α)(v:α):atI (xs++[v]) (-1)=some v:=by
 have hl:(xs++[v]).length=xs.length+1:=ae
 have e:ixN (xs++[v]).length (-1)=some xs.length:=by
  unfold ixN;rw[hl,a7 ac,a8 ad]
  congr 1
  lia
 unfold atI;rw[e];show(xs++[v])[xs.length]? =some v;simp
def a48 (b:Expr):Prop:= ∀o i,subscripted b false o i=operate [o,i] (getItem o i)
def IxR (X:Cx)(r:R2):Prop:=
 ∀(value slice:Expr) (pins:List (Addr×Obj)) (s:Shared) (σ:St) (H:Hp) (x y:V) (v u:Value) (Q:VK),Inv X pins σ H s->RelV x v->RelV y u->r x y H Q->
  subscripted slice false v u=operate [v,u] (getItem v u)->wpAny (model X.prog X.w) X.A (subscriptTail value slice v u) (EP X pins σ Q) X.xe s
def MtR (X:Cx)(id:String)(r:V->List V->Hp->VK->Prop):Prop:=
 ∀(pins:List (Addr×Obj)) (s:Shared) (σ:St) (H:Hp) (x:V) (xs:List V) (v:Value) (us:List Value) (Q:VK),Inv X pins σ H s->RelV x v->Vals xs us->r x xs H Q->
  wpAny (model X.prog X.w) X.A (call (.builtin id) (v::us)) (EP X pins σ Q) X.xe s
section
variable {X:Cx}{a b:Expr}{ta tb:TE}{pos:Pos}
theorem IxR.or {r r':R2}(h:IxR X r)(h':IxR X r'):IxR X (λx y H Q=>r x y H Q\/r' x y H Q):=by
 intro value slice pins s σ H x y v u Q I rx ry q hs;rcases q with q|q
 ·exact h value slice pins s σ H x y v u Q I rx ry q hs
 ·exact h' value slice pins s σ H x y v u Q I rx ry q hs
theorem bZ5 {r:R2}(hr:IxR X r)(ha:PE X a ta)(hb:PE X b tb)(hs:a48 b):PE X (.Subscript a b pos) (tOp r ta tb):=by
 intro pins s σ H Q I h;exact Subscript_ (binT ha hb I h λv u s2 x y H2 I2 rx ry q=>hr a b pins s2 σ H2 x y v u Q I2 rx ry q (hs _ _))
noncomputable def rIxL (K:Frag):R2:=λx y H Q=> ∃p xs i v,x= .ref p/\y= .int i/\SqL K H p xs/\atI xs i=some v/\Q v H
noncomputable def rIxT (K:Frag):R2:=λx y H Q=> ∃p xs i v,x= .ref p/\y= .int i/\SqT K H p xs/\atI xs i=some v/\Q v H
noncomputable def rIxS:R2:=λx y H Q=> ∃z i c,x= .str z/\y= .int i/\z.length<=sizeLine/\atI z.cps.toList i=some c/\Q (.str ⟨#[c]⟩) H
theorem b46:IxR X (rIxL X.K):=by
 intro value slice pins s σ H x y v u Q I rx ry h hs;obtain⟨p,xs,i,z,rfl,rfl,hq,he,q⟩:=h;cases rx;obtain⟨t,rfl⟩:=ry;obtain⟨its,r,pl,hz⟩:=I.list hq;obtain⟨j,h1,h2,h3,h4,h5⟩:=a47 he;obtain⟨w,ew,rw'⟩:=r.get h2;have hl:=r.length;have hn:=zP;have fin:EP X pins σ Q w s:=⟨z,H,I,rw',q⟩
 by_cases h0:0<=i
 ·have hj:i.toNat=j:=by
   rw[sL h0 h5]at h1;exact dZ h1
  exact item_listR pl.isList h0 ad (by rw[hj];simpa using ew) fin hs
 ·have hj:(i+(its.toArray.size:Int)).toNat=j:=by
   rw[sG ad h4]at h1
   rw[aU,<-hl];exact dZ h1
  exact subscriptTail_builtinR (x:=w) pl.isList.typeIs slot_list_getitem.lookup
   (wpAny_getItem_list_neg (Q:=λr s'=>r=w/\EP X pins σ Q r s') pl.isList ad (by rw[aU]<;>lia) ad (by rw[hj];simpa using ew) ⟨rfl,fin⟩) hs
theorem ix_tup:IxR X (rIxT X.K):=by
 intro value slice pins s σ H x y v u Q I rx ry h hs;obtain⟨p,xs,i,z,rfl,rfl,hq,he,q⟩:=h;cases rx;obtain⟨t,rfl⟩:=ry;obtain⟨its,r,pl,hz⟩:=I.tuple hq;obtain⟨j,h1,h2,h3,h4,h5⟩:=a47 he;obtain⟨w,ew,rw'⟩:=r.get h2;have hl:=r.length;have hn:=zP;have fin:EP X pins σ Q w s:=⟨z,H,I,rw',q⟩;exact subscriptTail_builtinR (x:=w) pl.typeIs slot_tuple_getitem.lookup
  (getItem_tuple (j:=j) (Q:=λr s'=>r=w/\EP X pins σ Q r s') pl ad ad (by rw[aU,<-hl];exact h1) (by simpa using ew) ⟨rfl,fin⟩) hs
theorem ix_str:IxR X rIxS:=by
 intro value slice pins s σ H x y v u Q I rx ry h hs;obtain⟨z,i,c,rfl,rfl,hz,he,q⟩:=h;obtain⟨t,rfl⟩:=rx;obtain⟨t',rfl⟩:=ry;obtain⟨j,h1,h2,h3,h4,h5⟩:=a47 he;have hl:z.cps.toList.length=z.length:=by simp[Str.length]
 rw[hl]at h1 h4 h5;have hn:=zP;exact tail_any (typeIs_str s z t) slot_str_getitem.lookup (getItem_str (c:=c) (by
  have e1:decide (i< -(2^63:Int))=false:=bD ad
  have e2:decide (i≥2^63)=false:=bD ad
  rw[e1,e2,Bool.or_false]) (by rw[h1];simpa using h2) ⟨.str ⟨#[c]⟩,H,I.tok _,⟨_,rfl⟩,q⟩) hs
noncomputable def rIx (K:Frag):R2:=λx y H Q=>rIxL K x y H Q\/rIxT K x y H Q\/rIxS x y H Q
theorem ix_seq:IxR X (rIx X.K):=b46.or (ix_tup.or ix_str)
theorem aY6 (its:List Value)(n j:Nat)(u:Value):Obj.mapSeq (·.setIfInBounds j u) {cls:= .type "list",data:= .seq its.toArray n}={cls:= .type "list",data:= .seq (its.set j u).toArray n}:=by
 simp[Obj.mapSeq]
theorem Inv.lst {pins:List (Addr×Obj)}{σ:St}{H:Hp}{s:Shared}{p:Addr}{xs:List V}(I:Inv X pins σ H s)(h:H p=some (.lst xs)) :
  ∃(its:List Value) (n:Nat),Vals xs its/\s.heap.get? p=some {cls:= .type "list",data:= .seq its.toArray n}/\xs.length<=sizeLine:=by
 obtain⟨z,its,n,r,e⟩:=I.hok p _ h;exact⟨its,n,r,e,z⟩
theorem Inv.lstUpd {pins:List (Addr×Obj)}{σ:St}{H:Hp}{s:Shared}{p:Addr}{xs ys:List V}{its its':List Value}{n n':Nat}{f:Obj->Obj}(I:Inv X pins σ H s)(h:H p=some (.lst xs))
  (ho:s.heap.get? p=some {cls:= .type "list",data:= .seq its.toArray n}) (hf:f {cls:= .type "list",data:= .seq its.toArray n}={cls:= .type "list",data:= .seq its'.toArray n'}) (r:Vals ys its') (hz:ys.length<=sizeLine) (t:Nat) :
  Inv X pins σ (upd H p<|.lst ys) {s with heap:=s.heap.update p f,toks:=t}:=by
 have e:(s.heap.update p f).get? p=some {cls:= .type "list",data:= .seq its'.toArray n'}:=by
  rw[rG f ho (by rw[hf]<;>rfl),hf]
 refine I.write (x:=p) (e:=p) (by rw[h];trivial) (.inl rfl) (λb u hb q=>(Heap.get?_update_other _ _<|Ne.symm hb).trans q) ⟨_,e⟩ ?_
 exact⟨hz,its',n',r,e⟩
noncomputable def rSetL:V->V->V->Hp->(Hp->Prop)->Prop:=λo i v H Q=> ∃p xs k j,o= .ref p/\i= .int k/\H p=some (.lst xs)/\ixN xs.length k=some j/\Q (upd H p<|.lst<|xs.set j v)
theorem a67:PSet X rSetL:=by
 intro pins s σ H o i v ov iv u Q I ro ri rv h;obtain⟨p,xs,k,j,rfl,rfl,hp,hj,q⟩:=h;cases ro;obtain⟨t,rfl⟩:=ri;obtain⟨its,n,r,ho,hz⟩:=I.lst hp;obtain⟨h1,h2,h3,h4⟩:=b45 hj;have hl:=r.length;have hn:=zP;have I':Inv X pins σ (upd H p<|.lst<|xs.set j v) {s with heap:=s.heap.update p (Obj.mapSeq (·.setIfInBounds j u))}:=
  I.lstUpd hp ho (aY6 its n j u) (r.set rv j) (by rw[bT];exact hz) s.toks
 by_cases h0:0<=k
 ·have hk:k.toNat=j:=by
   rw[sL h0 h4]at h1;exact dZ h1
  exact PySem.W.ki_setAt ho h0 ad (by rw[aU,<-hl];exact h4) (by rw[hk];exact⟨_,I',q⟩)
 ·have hk:(k+(its.toArray.size:Int)).toNat=j:=by
   rw[sG ad h3]at h1
   rw[aU,<-hl];exact dZ h1
  exact PySem.W.ki_setBack ho ad (by rw[aU,<-hl];exact h3) ad (by rw[hk];exact⟨_,I',q⟩)
theorem aL5 (lo hi:Option Int)(n:Nat):(sliceBounds lo hi none n).1=((HT.sIx n 0 lo:Nat):Int)/\(sliceBounds lo hi none n).2.1=((HT.sIx n n hi:Nat):Int)/\(sliceBounds lo hi none n).2.2=1:=by
 refine⟨?_,?_,rfl⟩
 ·cases lo with
  | none=>simp[sliceBounds,HT.sIx]
  | some i=>
   simp only[sliceBounds,HT.sIx,getD_none,show(1:Int)>0 by decide,eT]
   by_cases h:i<0
   ·simp only[h,eT]<;>lia
   ·simp only[h,dR]<;>lia
 ·cases hi with
  | none=>simp[sliceBounds,HT.sIx]
  | some i=>
   simp only[sliceBounds,HT.sIx,getD_none,show(1:Int)>0 by decide,eT]
   by_cases h:i<0
   ·simp only[h,eT]<;>lia
   ·simp only[h,dR]<;>lia
theorem aD8 (its:List Value)(lo hi:Option Int):slicePick its.toArray lo hi none=((its.drop<|HT.sIx its.length 0 lo).take<|HT.sIx its.length its.length hi-HT.sIx its.length 0 lo).toArray:=by
 obtain⟨h1,h2,h3⟩:=aL5 lo hi its.toArray.size;unfold slicePick;rw[h1,h2,h3];simp only[sliceRange_one,pick_run,aU]<;>rfl
noncomputable def rSlL (K:Frag):V->Option Int->Option Int->Hp->VK->Prop:=λx lo hi H Q=> ∃a xs,x= .ref a/\SqL K H a xs/\ ∀p,H p=none->Q (.ref p) (upd H p<|.lst<|aR0 xs lo hi)
theorem b47:SlR X (rSlL X.K):=by
 intro pins s σ H x v vl vu lo hi sl Q I rx hs pl pu h;obtain⟨a,xs,rfl,hx,q⟩:=h;cases rx;obtain⟨its,r,ht,hz⟩:=I.list hx;have hlen:=r.length;refine⟨"list",_,slot_list_getitem.lookup,ht.isList.typeIs,?_⟩;refine wpAny_getItem_list_slice ht.isList hs pl pu .none ae ?_ (by rw[aU]<;>lia)
 rw[aD8,<-hlen];refine⟨.ref s.heap.objs.size,_,I.laid (t':=s.toks) (o:= .lst (aR0 xs lo hi)) (λb ob q=>aO _ q) (aC _) ?_,rfl,q _<|I.hok.fresh<|aC _⟩
 exact⟨aV (a17 xs lo hi) hz,_,0,(r.drop<|HT.sIx xs.length 0 lo).take<|HT.sIx xs.length xs.length hi-HT.sIx xs.length 0 lo,bK _ rfl⟩
noncomputable def y6:V->Bool
 | .non=>true
 | .bl _=>true
 | .int _=>true
 | .str _=>true
 | _=>false
noncomputable def eqV:V->V->Bool
 | .non,.non=>true
 | .bl a,.bl b=>a==b
 | .bl a,.int b=>(if a then 1 else 0)==b
 | .int a,.bl b=>a==(if b then 1 else 0)
 | .int a,.int b=>a==b
 | .str a,.str b=>a==b
 | _,_=>false
theorem eqAt_V {A:Around}{s:Shared}{y x:V}{u v:Value}(ry:RelV y u)(rx:RelV x v)(fy:y6 y=true)(fx:y6 x=true):SeqAt.EqAt A s u v (eqV y x):=by
 cases y with
 | non=>
  cases ry;cases x with
  | non=>cases rx;exact SeqAt.EqAt.same _
  | bl b=>cases rx;exact SeqAt.EqAt.none_bool b
  | int b=>obtain⟨t,rfl⟩:=rx;exact SeqAt.EqAt.none_int b t
  | str b=>obtain⟨t,rfl⟩:=rx;exact SeqAt.EqAt.none_str b t
  | _=>exact absurd (show false=true from fx) aY
 | bl a=>
  cases ry;cases x with
  | non=>cases rx;exact SeqAt.EqAt.bool_none a
  | bl b=>cases rx;exact SeqAt.EqAt.bool_bool a b
  | int b=>obtain⟨t,rfl⟩:=rx;exact SeqAt.EqAt.bool_int a b t
  | str b=>obtain⟨t,rfl⟩:=rx;exact SeqAt.EqAt.bool_str a b t
  | _=>exact absurd (show false=true from fx) aY
 | int a=>
  obtain⟨t',rfl⟩:=ry;cases x with
  | non=>cases rx;exact SeqAt.EqAt.int_none a t'
  | bl b=>cases rx;exact SeqAt.EqAt.int_bool a t' b
  | int b=>obtain⟨t,rfl⟩:=rx;exact SeqAt.EqAt.int_int a t' b t
  | str b=>obtain⟨t,rfl⟩:=rx;exact SeqAt.EqAt.int_str a t' b t
  | _=>exact absurd (show false=true from fx) aY
 | str a=>
  obtain⟨t',rfl⟩:=ry;cases x with
  | non=>cases rx;exact SeqAt.EqAt.str_none a t'
  | bl b=>cases rx;exact SeqAt.EqAt.str_bool a t' b
  | int b=>obtain⟨t,rfl⟩:=rx;exact SeqAt.EqAt.str_int a t' b t
  | str b=>obtain⟨t,rfl⟩:=rx;exact SeqAt.EqAt.str_str a t' b t
  | _=>exact absurd (show false=true from fx) aY
 | _=>exact absurd (show false=true from fy) aY
noncomputable def eqU (x:V)(u:Value):Bool:=match u with
 | .none=>eqV .non x
 | .bool b=>eqV (.bl b) x
 | .int i _=>eqV (.int i) x
 | .str z _=>eqV (.str z) x
 | _=>false
theorem bG5 {x y:V}{u:Value}(r:RelV y u)(f:y6 y=true):eqU x u=eqV y x:=by
 cases y with
 | non=>cases r;rfl
 | bl b=>cases r;rfl
 | int i=>obtain⟨t,rfl⟩:=r;rfl
 | str z=>obtain⟨t,rfl⟩:=r;rfl
 | _=>exact absurd (show false=true from f) aY
theorem aL6 {x:V}: ∀{xs:List V} {us:List Value},Vals xs us->xs.all y6=true->us.any (eqU x)=xs.any λy=>eqV y x
 | _,_,.nil,_=>rfl
 | y::xs,u::us,.cons r t,f=>by
  rw[all_cons,c8]at f;rw[sC,sC,bG5 r f.1,aL6 t f.2]
theorem a68 {A:Around}{s:Shared}{x:V}{v:Value}(rx:RelV x v)(fx:y6 x=true): ∀{xs:List V} {us:List Value},Vals xs us->xs.all y6=true-> ∀u∈us,SeqAt.EqAt A s u v (eqU x u)
 | _,_,.nil,_=>λu hu=>by cases hu
 | y::xs,u::us,.cons r t,f=>λu' hu=>by
  rw[all_cons,c8]at f;rcases aR.mp hu with rfl|hu
  ·rw[bG5 r f.1];exact eqAt_V r rx f.1 fx
  ·exact a68 rx fx t f.2 u' hu
noncomputable def inV (x:V)(xs:List V):Bool:=xs.any λy=>eqV y x
noncomputable def rIn (K:Frag)(neg:Bool):R2:=λx y H Q=> ∃p xs,y= .ref p/\(SqL K H p xs\/SqT K H p xs)/\y6 x=true/\xs.all y6=true/\Q (.bl<|if neg then !inV x xs else inV x xs) H
theorem aL7:OpR X (compareOp .NotIn) (rIn X.K true):=by
 intro pins s σ H x y v u Q I rx ry h;obtain⟨p,xs,rfl,hq,fx,fs,q⟩:=h;cases ry;rcases hq with hq|hq
 ·obtain⟨its,r,pl,hz⟩:=I.list hq;refine SeqAt.notIn_listAt (eqU x) pl.isList (λw hw=>a68 rx fx r fs w (by simpa using hw)) ⟨.bl _,H,I,rfl,?_⟩
  rw[show its.toArray.any (eqU x)=its.any (eqU x)by simp,aL6 r fs]
  exact q
 ·obtain⟨its,r,pl,hz⟩:=I.tuple hq;refine SeqAt.notIn_tupleAt (eqU x) pl (λw hw=>a68 rx fx r fs w (by simpa using hw)) ⟨.bl _,H,I,rfl,?_⟩
  rw[show its.toArray.any (eqU x)=its.any (eqU x)by simp,aL6 r fs]
  exact q
theorem aL8:m9 X (.builtin "len") (λxs H Q=> ∃p ys,xs=[.ref p]/\(SqL X.K H p ys\/SqT X.K H p ys)/\Q (.int ys.length) H):=by
 intro pins s σ H xs us Q I r h;obtain⟨p,ys,rfl,hq,q⟩:=h;obtain⟨u,rfl,rx⟩:=vals1 r;cases rx;have hn:=zP;rcases hq with hq|hq
 ·obtain⟨its,r',pl,hz⟩:=I.list hq;have hlen:=r'.length;exact Calls.call_len_list pl.isList (by simp only[aU]<;>lia) ⟨.int ys.length,H,I.tok _,⟨s.toks+1,by rw[aU,hlen]⟩,q⟩
 ·obtain⟨its,r',pl,hz⟩:=I.tuple hq;have hlen:=r'.length;exact len_tuple pl (by simp only[aU]<;>lia) ⟨.int ys.length,H,I.tok _,⟨s.toks+1,by rw[aU,hlen]⟩,q⟩
theorem aL9:m9 X (.type "list") (λxs H Q=> ∃p ys,xs=[.ref p]/\(SqL X.K H p ys\/SqT X.K H p ys)/\ ∀l,H l=none->Q (.ref l) (upd H l<|.lst ys)):=by
 intro pins s σ H xs us Q I r h;obtain⟨p,ys,rfl,hq,q⟩:=h;obtain⟨u,rfl,rx⟩:=vals1 r;cases rx;have fin: ∀(its:List Value),Vals ys its->ys.length<=sizeLine-> ∀(h':Heap) (c':Nat),(∀b o',s.heap.get? b=some o'->h'.get? b=some o')->
   h'.get? s.heap.objs.size=some {cls:= .type "list",dict:=none,data:= .seq its.toArray c',slots:= #[]}->EP X pins σ Q (.ref s.heap.objs.size) {s with heap:=h'}:=λits r' hz h' c' kp e=>
  ⟨.ref s.heap.objs.size,_,I.laid (t':=s.toks) kp (aC _)<|show oM X.prog X.w _ h' _ (.lst ys)from⟨hz,its,c',r',e⟩,rfl,q _<|I.hok.fresh<|aC _⟩
 rcases hq with hq|hq
 ·obtain⟨its,r',pl,hz⟩:=I.list hq;have hlen:=r'.length;obtain⟨o,ho,hc,n,hd⟩:=pl.isList;exact call_list_seq p (.inl rfl) ho hc hd (λh' c' kp e=>fin its r' hz h' c' kp e) (by simp only[aU]<;>lia)
 ·obtain⟨its,r',pl,hz⟩:=I.tuple hq;have hlen:=r'.length;obtain⟨o,ho,hc,n,hd⟩:=pl;exact call_list_seq p (.inr rfl) ho hc hd (λh' c' kp e=>fin its r' hz h' c' kp e) (by simp only[aU]<;>lia)
theorem pU:m9 X (.type "tuple") (λxs H Q=> ∃p ys,xs=[.ref p]/\((SqL X.K H p ys/\ ∀l,H l=none->Q (.ref l) (upd H l<|.tup ys))\/(SqT X.K H p ys/\Q (.ref p) H))):=by
 intro pins s σ H xs us Q I r h;obtain⟨p,ys,rfl,h⟩:=h;obtain⟨u,rfl,rx⟩:=vals1 r;cases rx;rcases h with⟨hq,q⟩| ⟨hq,q⟩
 ·obtain⟨its,r',pl,hz⟩:=I.list hq;have hlen:=r'.length;refine call_tuple_list pl.isList (λh' kp=> ?_) (by simp only[aU]<;>lia)
  have I1:Inv X pins σ H {s with heap:=h'}:=I.kept (t':=s.toks) kp;have I2:Inv X pins σ (upd H h'.objs.size<|.tup ys) {s with heap:=h'.push {cls:= .type "tuple",data:= .seq its.toArray}}:=
   I1.laid (t':=s.toks) (λb o e=>aO _ e) (aC _) (show oM X.prog X.w _ _ _ (.tup ys)from⟨hz,its,r',IsTup.new _ _⟩)
  exact⟨.ref h'.objs.size,_,I2,rfl,q _<|I1.hok.fresh<|aC _⟩
 ·obtain⟨its,r',pl,hz⟩:=I.tuple hq;exact call_tuple_same pl ⟨.ref p,H,I,rfl,q⟩
def tyV (K:Frag)(T:String)(x:V)(H:Hp):Prop:=match x with
 | .str _=>T="str"
 | .int _=>T="int"
 | .ref p=>(T="list"/\ ∃xs,SqL K H p xs)\/(T="tuple"/\ ∃o,K.lookup p=some o/\o.cls= .type "tuple"/\o.dict=none)\/
   (T="dict"/\((∃kvs,H p=some (.dK kvs))\/ ∃kvs,H p=some (.dT kvs)))\/(T="set"/\ ∃S n,H p=some (.set S n))
 | _=>False
theorem tyV_is {pins:List (Addr×Obj)}{σ:St}{H:Hp}{s:Shared}{T:String}{x:V}{v:Value}(I:Inv X pins σ H s)(r:RelV x v)(ty:tyV X.K T x H) :
  s.TypeIs v T/\ ∀a,v= .ref a-> ∃ob,s.heap.get? a=some ob/\ob.dict=none:=by
 cases x with
 | str z=>
  obtain⟨t,rfl⟩:=r;cases (show T="str" from ty)
  exact⟨typeIs_str s z t,λ_ e=>nomatch e⟩
 | int i=>
  obtain⟨t,rfl⟩:=r;cases (show T="int" from ty)
  exact⟨typeIs_int s i t,λ_ e=>nomatch e⟩
 | ref p=>
  cases r;rcases ty with⟨rfl,xs,hq⟩| ⟨rfl,o,hk,hc,hd⟩| ⟨rfl,hk⟩| ⟨rfl,S,n,hk⟩
  ·obtain⟨its,_,pl,_⟩:=I.list hq;refine⟨pl.isList.typeIs,λa e=> ?_⟩
   cases e;obtain⟨o,n,e,c,hd,_⟩:=pl;exact⟨o,e,hd⟩
  ·refine⟨⟨o,I.kIn p o hk,hc⟩,λa e=> ?_⟩
   cases e;exact⟨o,I.kIn _ o hk,hd⟩
  ·have z: ∃o,s.heap.get? p=some o/\o.ExactDict:=by
    rcases hk with⟨kvs,hk⟩| ⟨kvs,hk⟩
    ·obtain⟨_,_,_,_,o,_,_,e,ex,_⟩:=I.hok p _ hk;exact⟨o,e,ex⟩
    ·obtain⟨_,_,_,_,o,_,_,e,ex,_⟩:=I.hok p _ hk;exact⟨o,e,ex⟩
   obtain⟨o,e,ex⟩:=z;refine⟨⟨o,e,ex.1⟩,λa e2=> ?_⟩
   cases e2;exact⟨o,e,ex.2.1⟩
  ·obtain⟨o,_,_,_,e,ex,_⟩:=I.hok p _ hk;refine⟨⟨o,e,ex.1⟩,λa e2=> ?_⟩
   cases e2;exact⟨o,e,ex.2.1⟩
 | _=>exact False.elim ty
def tBM (K:Frag)(T:String)(r:V->List V->Hp->VK->Prop)(to:TE)(t:TA):TE:=λσ H Q=>to σ H λx H1=>tyV K T x H1/\t σ H1 λxs H2=>r x xs H2 Q
variable {o e:Expr}{es:List Expr}{to:TE}{t:TA}{name:Str}{apos cpos:Pos}{T id:String}{r:V->List V->Hp->VK->Prop}
theorem pe_bm (pa:PlainAttrs T)(slot:Slot T name id)(hty:typeOf (.builtin id)=pure (.type "method_descriptor"))(hm:MtR X id r)(ho:PE X o to)(ha:PA X (e::es) t)
  (hbase:attributeBase o name X.env (eval o X.env)=eval o X.env:=by rfl)
  (hfew:((backTo cpos<|starEach (e::es) X.env).all (λx=> !x.1)&&(backToKw cpos<|keywordEach [] X.env).all (λx=>x.1.isSome)
   &&decide ((e::es).length+([]:List Keyword).length+(if([]:List Keyword).isEmpty then 0 else 1)<30))=true:=by rfl)
  (hline:(apos.endLine==cpos.line)=true:=by rfl) (hs:starEach (e::es) X.env=(false,eval e X.env)::starEach es X.env:=by rfl) (hplain:(backTo cpos<|starEach es X.env).any (·.1)=false:=by rfl) :
  PE X (.Call (.Attribute o name apos) (e::es) [] cpos) (tBM X.K T r to t):=by
 intro pins s σ H Q I h;refine wpAny_Call_method_late hbase hfew hline rfl (thn (ho pins s σ H _ I h) λv s1 ⟨x,H1,I1,r1,ty,q1⟩=> ?_)
 obtain⟨h1,h2⟩:=tyV_is I1 r1 ty;refine⟨T,id,pa,slot,hty,h1,h2,?_⟩;have hA:=ha cpos pins s1 σ H1 _ I1 q1;rw[hs]at hA⊢;refine Calls.callWith_builtin (by show(false||(backTo cpos<|starEach es X.env).any (·.1))=false;rw[hplain]<;>rfl) (Calls.evalArgs_plain ?_)
 exact thn hA λus s2 ⟨vs,H2,I2,r2,q2⟩=>hm pins s2 σ H2 x vs v us Q I2 r1 r2 q2
end
end L2
namespace L2
open PySem PySem.Spec PyProof.Rows
def MtM (X:Cx)(id:String)(r:V->List V->Hp->VK->Prop):Prop:=
 ∀(pins:List (Addr×Obj)) (s:Shared) (σ:St) (H:Hp) (x:V) (xs:List V) (v:Value) (us:List Value) (Q:VK),Inv X pins σ H s->RelV x v->Vals xs us->r x xs H Q->
  wpAny (model X.prog X.w) X.A (call (.builtin id) (v::us)) (EP X pins σ Q) X.xe s
theorem Vals.one {x:V}{us:List Value}(h:Vals [x] us): ∃u,us=[u]/\RelV x u:=by
 cases h with
 | cons r q=>cases q;exact⟨_,rfl,r⟩
theorem Vals.two {x y:V}{us:List Value}(h:Vals [x,y] us): ∃u v,us=[u,v]/\RelV x u/\RelV y v:=by
 cases h with
 | cons r q=>obtain⟨u,rfl,s⟩:=Vals.one q;exact⟨_,_,rfl,r,s⟩
theorem Vals.reverse {xs:List V}{us:List Value}(h:Vals xs us):Vals xs.reverse us.reverse:=by
 induction h with
 | nil=>exact .nil
 | cons r t ih=>rw[rO,rO];exact Vals.append ih (.cons r .nil)
theorem Vals.rep {xs:List V}{us:List Value}(h:Vals xs us): ∀k:Nat,Vals (replicate k xs).flatten (replicate k us).flatten
 | 0=> .nil
 | k+1=>by
  rw[i5,i5,jO,jO];exact Vals.append h (Vals.rep h k)
theorem foldl_rep (its:List Value): ∀(k:Nat) (acc:List Value),
  foldl (λx1 x2=>x1++x2) acc.toArray (replicate k its.toArray)=(acc++(replicate k its).flatten).toArray
 | 0,acc=>ae
 | k+1,acc=>by
  have e:acc.toArray++its.toArray=(acc++its).toArray:=ae
  have e2:(acc++its)++(replicate k its).flatten=acc++(replicate (k+1) its).flatten:=by
   rw[i5,jO,List.append_assoc]
  rw[<-e2,<-foldl_rep its k (acc++its),<-e,i5,List.foldl_cons]
section
variable {X:Cx}{pins:List (Addr×Obj)}{σ:St}{H:Hp}{s:Shared}{l b:Addr}{xs ys zs:List V}
theorem Inv.lset {its its':List Value}{n:Nat}{f:Array Value->Array Value}{t':Nat}(I:Inv X pins σ H s)(hH:H l=some (.lst xs))
  (e:s.heap.get? l=some {cls:= .type "list",data:= .seq its.toArray n}) (hf:f its.toArray=its'.toArray) (hv:Vals ys its') (hz:ys.length<=sizeLine) :
  Inv X pins σ (upd H l<|.lst ys) {s with heap:=s.heap.update l (Obj.mapSeq f),toks:=t'}:=by
 have q:=PySem.IsL.update e f;rw[hf]at q;refine I.write (x:=l) (e:=l) (by rw[hH];exact trivial) (.inl rfl) (λb' u hb hu=>(Heap.get?_update_other s.heap (Obj.mapSeq f)<|Ne.symm hb).trans hu) ⟨_,q⟩ ?_
 exact⟨hz,its',_,hv,q⟩
theorem Inv.lnew {its:List Value}{t':Nat}(I:Inv X pins σ H s)(hv:Vals ys its)(hz:ys.length<=sizeLine) :
  Inv X pins σ (upd H s.heap.objs.size<|.lst ys) {s with heap:=s.heap.push {cls:= .type "list",data:= .seq its.toArray},toks:=t'}:=
 I.laid (λ_ _ q=>aO _ q) (aC _) ⟨hz,its,0,hv,bK _ rfl⟩
theorem Inv.fresh (I:Inv X pins σ H s):H s.heap.objs.size=none:=I.hok.fresh (aC _)
theorem Inv.lstM (I:Inv X pins σ H s)(hH:H l=some (.lst xs)):xs.length<=sizeLine/\ ∃(its:List Value) (n:Nat),Vals xs its/\xs.length=its.length/\s.heap.get? l=some {cls:= .type "list",data:= .seq its.toArray n}:=by
 obtain⟨z,its,n,r,e⟩:=I.hok l _ hH;exact⟨z,its,n,r,r.length,e⟩
theorem bG6 {n:Nat}(h:n<=sizeLine):Builtin.List.listTooLong n=false:=by
 unfold Builtin.List.listTooLong;exact bD ad
end
section
variable {X:Cx}
noncomputable def bT3:V->List V->Hp->VK->Prop:=λx vs H Q=> ∃l xs y,x= .ref l/\vs=[y]/\H l=some (.lst xs)/\xs.length<sizeLine/\Q .non (upd H l<|.lst<|xs++[y])
theorem aG4:MtM X "list.append" bT3:=by
 intro pins s σ H x vs v us Q I rx rv h;obtain⟨l,xs,y,rfl,rfl,hH,hz,q⟩:=h;cases rx;obtain⟨u,rfl,ru⟩:=rv.one;obtain⟨z,its,n,r,hl,e⟩:=I.lstM hH;refine call_meets F.slot_list_append ⟨_,e,rfl⟩ F.entry_list_append (F.args_list_append_2 _ _) (PySem.list_append l its.toArray n u (by rw[aU];lia)) ⟨e,?_⟩
 refine⟨.non,_,I.lset (its':=its++[u]) hH e ae (r.append<|.cons ru .nil) ?_,rfl,q⟩
 rw[fG,List.length_singleton]
 lia
noncomputable def rCat:R2:=λx y H Q=> ∃l b xs zs,x= .ref l/\y= .ref b/\H l=some (.lst xs)/\H b=some (.lst zs)/\xs.length+zs.length<=sizeLine/\ ∀p,H p=none->Q (.ref p) (upd H p<|.lst<|xs++zs)
theorem op_cat:OpR X (binaryOp .Add) rCat:=by
 intro pins s σ H x y v u Q I rx ry h;obtain⟨l,b,xs,zs,rfl,rfl,hH,hB,hz,q⟩:=h;cases rx;cases ry;obtain⟨z,its,n,r,hl,e⟩:=I.lstM hH;obtain⟨z2,its2,n2,r2,hl2,e2⟩:=I.lstM hB;refine PySem.P.add_list e e2 ?_ (by rw[aU,aU];omega)
 have ea:its.toArray++its2.toArray=(its++its2).toArray:=ae
 rw[ea];exact⟨.ref _,_,I.lnew (t':=s.toks) (r.append r2) (by rw[fG];omega),rfl,q _ I.fresh⟩
noncomputable def rRep:R2:=λx y H Q=> ∃l k xs,x= .ref l/\y= .int k/\H l=some (.lst xs)/\ -(2^63)<=k/\k<2^63/\xs.length*k.toNat<=sizeLine/\
 ∀p,H p=none->Q (.ref p) (upd H p<|.lst (replicate k.toNat xs).flatten)
theorem bT4 {α:Type}(xs:List α)(k:Nat):(replicate k xs).flatten.length=k*xs.length:=by
 induction k with
 | zero=>simp
 | succ k ih=>rw[i5,jO,fG,ih,Nat.succ_mul,add_comm]
theorem op_rep:OpR X (binaryOp .Mult) rRep:=by
 intro pins s σ H x y v u Q I rx ry h;obtain⟨l,k,xs,rfl,rfl,hH,h1,h2,hz,q⟩:=h;cases rx;obtain⟨t,rfl⟩:=ry;obtain⟨z,its,n,r,hl,e⟩:=I.lstM hH;have hlen:its.toArray.size*k.toNat<=sizeLine:=by rw[aU,<-hl];exact hz
 have hcap: ¬its.toArray.size*k.toNat>(2^63-1)/8:=by
  have:(sizeLine:Nat)<=(2^63-1)/8:=ac
  lia
 have hfit: ¬(!Builtin.List.listFitsIndex k)=true:=by
  rw[fitsIndex_both h1 h2];exact aY
 have hlong: ¬Builtin.List.listTooLong (its.toArray.size*k.toNat)=true:=by
  rw[bG6 hlen];exact aY
 have hnew:foldl (λx1 x2=>x1++x2) #[] (replicate (if its.toArray.isEmpty=true then 0 else k.toNat) its.toArray)=(replicate k.toNat its).flatten.toArray:=by
  have f0: ∀m:Nat,foldl (λx1 x2=>x1++x2) #[] (replicate m its.toArray)=(replicate m its).flatten.toArray:=λm=>by
   have:=foldl_rep its m [];rw[List.nil_append]at this;exact this
  rw[f0];cases its with
  | nil=>simp
  | cons a r'=>rw[a7 ae]
 refine wpAny_binaryOp_repeat_ref (T:="list") (U:="int") ac ⟨_,e,rfl⟩ (λs'=>typeIs_int s' k t) noFill_list_mul F.fills_int_mul F.slot_int_rmul repeat_list F.slot_int_index.lookup
  (call_meets F.slot_int_rmul (typeIs_int s k t) F.entry_int_rmul (F.args_int_rmul_2 _ _) (int___rmul___int_list k t l its.toArray n)
   ⟨e,rfl,⟨_,e,rfl⟩,call_meets F.slot_list_mul ⟨_,e,rfl⟩ F.entry_list_mul (F.args_list_mul_2 _ _) (AutoListH.list___mul___list_int_3 l its.toArray n k t hfit hcap hlong) ⟨e,?_⟩⟩)
 rw[hnew];exact⟨.ref _,_,I.lnew (t':=s.toks) (r.rep k.toNat) (by rw[bT4,Nat.mul_comm];exact hz),rfl,q _ I.fresh⟩
end
section
variable {prog:Program}{w:World}{A:Around}{E:Value->Shared->Prop}{s:Shared}
set_option maxRecDepth 100000 in
end
end L2
namespace Att
open PySem PySem.W PySem.Calls PyProof.Rows
theorem a27 {P:Params}{h:Heap}: ∀(ns:List Int) (vs:List Value),WellAll P h vs (ns.map WData.int)->IntsAre vs ns:=by
 intro ns
 induction ns with
 | nil=>
  intro vs w;rw[l8]at w;cases w;exact .nil
 | cons n ns ih=>
  intro vs w;rw[cD]at w;cases w with
  | cons a b=>
   cases a;exact .cons _ _ (ih _ b)
theorem bB1 {l:OpenLaw}{n:Nat}(hn:l.most=some n){P:Params}{h:Heap}{args:List WData}{vals:List Value}
  (hpre:l.row.toRowW.claim.pre args=true) (hwl:WellAll P h vals args) :
  ∃a vs ns,vals=[Value.ref a]/\args=[WData.list<|ns.map WData.int]/\h.get? a=some {cls:= .type "list",data:= .seq vs.toArray}/\IntsAre vs ns/\ns.length<=n:=by
 have hsh:WShape.hasAll [] args [.list .int]=true:=(pre_splitW hpre).1;have hc:l.pre.holds [] {args:=args}=true:=(pre_splitW hpre).2;obtain⟨d,r,rfl,h1,h2⟩:=hasAllW_cons hsh;obtain rfl:=hasAllW_nil h2;obtain⟨xs,rfl,h3⟩:=hasW_list h1;obtain⟨ns,rfl⟩:=items_int h3;have hlen:ns.length<=n:=by
  unfold OpenLaw.pre at hc;have h4:(WTm.not<|.lt (.lit<|.int (n:Int))<|.len<|.arg 0).holds [] {args:=[.list<|ns.map .int]}=true:=by
   have h4:=(holds_andW hc).1;rw[hn]at h4;exact h4
  have h5:=condW_of h4 (w_not<|w_lt w_lit<|w_len_list<|w_arg rfl);rw[aI]at h5;refine Nat.le_of_not_lt λq=> ?_
  have q':(n:Int)< ((ns.length:Nat):Int):=aa
  first
   | (rw[bB q']at h5;exact absurd h5 ac)
   | (simp at h5;omega)
 cases hwl with
 | cons w1 w2=>
  cases w2;cases w1 with
  | list ho hall=>exact⟨_,_,ns,rfl,rfl,ho,a27 ns _ hall,hlen⟩
theorem bB2 (l:OpenLaw)(args:List WData):l.row.toRowW.claim.post args (.bool true) args=true:=
 postW_of (r:=l.row.toRowW) (X:=(true==true))
  (show WShape.has [] (.bool true) .bool=true by first|rfl|decide|simp[WShape.has,WShape.arms,WShape.armsAll])
  (show(WTm.eq .res<|.lit<|.bool true).value [] {args:=args,res:=some (.bool true),after:=args}=some (.bool<|true==true)from w_eq_bool (w_res rfl) w_lit) rfl
theorem attach_call {l:OpenLaw}{n:Nat}{q:Program}{loose:List Str}{XP:(Str->Option Value)->Heap->Prop}{YP:World->Heap->Prop}{d:DefRec}
  (hn:l.most=some n) (hdf:d.params.defaults=[])
  (call: ∀(w:World) (s₀ s₁:Shared) (mg mb:Str->Option Value) (fa:Addr) (o:Obj) (pm cd doc:Value) (a:Addr) (vs:List Value) (ns:List Int),
   Ground q loose [] XP w s₀ mg mb s₁.heap->YP w s₁.heap->
   s₁.heap.get? fa=some o->o.data= .func (docDef d.name d.params d.body d.scope pm cd doc)->s₁.heap.CodeRec cd d.name->mg d.name=some (.ref fa)->
   s₁.heap.get? a=some {cls:= .type "list",data:= .seq vs.toArray}->IntsAre vs ns->ns.length<=n->s₁.gens= #[]->
   codeAny (model l.prog w) callerA (.call (.ref fa) ⟨[.ref a],[]⟩) (λr s'=>r= .ok (.ret<|.bool true)/\OldK s₁.heap s'.heap/\s'.os=s₁.os/\AllBare s'.gens) s₁) :
  WalkO q loose XP YP l.row.toRowW d [] (λf vs=>PySem.call f vs):=by
 intro w s₀ s₁ mg mb G Y fa o pm cd doc dV kV ho hd hcd hD hmg hg args vals as hpre hlay hrd hwl hlo;obtain rfl:dV= .none:=Dflts.none hD hdf;obtain rfl:kV= .none:=Dflts.noKw hD;obtain⟨a,vs,ns,rfl,rfl,hobj,hints,hlen⟩:=bB1 hn hpre hwl;refine enter_call (codeAny_mono (call w s₀ s₁ mg mb fa o pm cd doc a vs ns G Y ho (fd_plain hd) hcd hmg hobj hints hlen hg) λr s' hq=> ?_)
 obtain⟨rfl,h2,h3,h4⟩:=hq;exact⟨.inl ⟨.bool true,.bool true,[],rfl,λ_=>rfl,.bool true,bB2 l _,λ_=>⟨List.Pairwise.nil,λ_ hm=>(nomatch hm)⟩⟩,h2,h3,h4⟩
end Att
namespace L2
open PySem PySem.Spec PyProof.Rows
theorem aG5: ∀{vs:List Value} {ns:List Int},IntsAre vs ns->Vals (ns.map V.int) vs
 | _,_,.nil=> .nil
 | _,_,.cons n t h=> .cons ⟨t,rfl⟩ (aG5 h)
def Only (H:Hp):Prop:= ∀b,H b=none\/ ∃o xs,H b=some (.frz o<|.lst xs)
theorem bG7 {P:Program}{w:World}{K:Frag}{mg mb:Str->Option Value}{CX:CXT}{k:Nat}{fa a:Addr}{fd:FuncData}{x:Str}{sp:Sp}{s₁:Shared}{vs:List Value}{ns:List Int}
  (KX:K.In s₁.heap) (hns:s₁.heap.Ns mainGlobals mg) (hb:s₁.heap.Ns builtinsNs mb) (hbb: ∀x:Str,x≠"__name__"->mb x=bootBuiltins x) (hlim:s₁.heap.NoLimit) (hg:s₁.gens= #[])
  (ha:s₁.heap.get? a=some {cls:= .type "list",data:= .seq vs.toArray}) (hi:IntsAre vs ns) (hl:ns.length<=sizeLine) (hr:jS k callerA)
  (F: ∀base:Heap,K.In base->base.Ns mainGlobals mg->xA P w K mg base CX k fa fd [x] sp) (hbind: ∀(s:Shared) (u:Value),BindsTo s fd ⟨[u],[]⟩ [(x,u)])
  (hsp: ∀H:Hp,Only H->SqL K H a (ns.map V.int)->sp [.ref a] H (λv _=>v= .bl true) λ_ _ _=>False)
  (hCX: ∀H e s',CX [] H s₁ (λ_ _ _=>False) e s'->False) :
  codeAny (model P w) callerA (.call (.ref fa) ⟨[.ref a],[]⟩) (λr s'=>r= .ok (.ret<|.bool true)/\OldK s₁.heap s'.heap/\s'.os=s₁.os/\AllBare s'.gens) s₁:=by
 have rv:=aG5 hi;have lenV:=hi.length;have core: ∀H:Hp,Only H->SqL K H a (ns.map V.int)->HOk P w H s₁.heap->(∀b,H b≠none->b=a)->(H a≠none->K.lookup a=none)->
   codeAny (model P w) callerA (.call (.ref fa) ⟨[.ref a],[]⟩) (λr s'=>r= .ok (.ret<|.bool true)/\OldK s₁.heap s'.heap/\s'.os=s₁.os/\AllBare s'.gens) s₁:=by
  intro H hO hS hok hA hK;have base_of: ∀{b:Addr} {o:Obj},s₁.heap.get? b=some o->H b=none->(aL0 s₁.heap H).get? b=some o:=λe n=>bE6 e n
  have noA: ∀{b:Addr} {o:Obj} {es:Array DictEntry} {ep:Nat},s₁.heap.get? b=some o->o.data= .dict es ep->H b=none:=λ{b o es ep} e d=>by
   cases q:H b with
   | none=>rfl
   | some u=>
    have e':b=a:=hA b (by rw[q];simp)
    subst e';rw[ha]at e;cases e;have d':Data.seq vs.toArray _=Data.dict es ep:=d;cases d'
  have nsK: ∀{b:Addr} {m:Str->Option Value},s₁.heap.Ns b m->(aL0 s₁.heap H).Ns b m:=λ{b m} ⟨o,es,ep,e,d,r⟩=>⟨o,es,ep,base_of e<|noA e d,d,r⟩
  have hKb:K.In (aL0 s₁.heap H):=λb o e=>base_of (KX b o e) (by
   cases q:H b with
   | none=>rfl
   | some u=>
    have e':b=a:=hA b (by rw[q];simp)
    subst e';rw[hK (by rw[q];simp)]at e;cases e)
  have hM:Mod K mg (aL0 s₁.heap H):=⟨hKb,nsK hns,⟨mb,nsK hb,hbb⟩,let ⟨mc,h1,h2⟩:=hlim;⟨mc,nsK h1,h2⟩⟩;have e0:bS8 P w K mg (aL0 s₁.heap H) callerA [] s₁ H:=⟨rfl,hM,λb o e=>bR6 e,Nat.le_of_eq<|bA1 _ _,trivial,λb hb=>absurd (show b∈([]:List Addr)from hb) ae,hok,.of_eq hg⟩
  refine codeAny_mono ((F _ hKb<|nsK hns).run callerA [] s₁ H ⟨[.ref a],[]⟩ [.ref a] [.ref a] _ _ hr e0 (hbind s₁<|.ref a) (.cons rfl .nil)<|hsp H hO hS) λr s' h=> ?_
  cases r with
  | error e=>exact(hCX H e s' h).elim
  | ok fl=>
   cases fl with
   | next=>exact False.elim h
   | brk=>exact False.elim h
   | cont=>exact False.elim h
   | ret u=>
    obtain⟨v,H',os,bare,un,hok',r',q⟩:=h;have q':v= .bl true:=q;subst q';obtain rfl:u=Value.bool true:=r';refine⟨rfl,OldK.of_keep λb o e=> ?_,os,bare⟩
    cases q:H b with
    | none=>exact un.keep b o e q (by intro z;exact absurd (show b∈([]:List Addr)from z) ae) ae
    | some u=>
     rcases hO b with z| ⟨ob,xs,z⟩
     ·rw[q]at z;cases z
     ·have z2:=un.frzs b ob _ z;obtain⟨e1,_⟩:=hok b _ z;obtain⟨e2,_⟩:=hok' b _ z2;rw[e]at e1;cases e1;exact e2
 cases hk:K.lookup a with
 | some o=>
  have e:=KX a o hk;rw[ha]at e;cases e;refine core (λ_=>none) (λ_=> .inl rfl) (.inr ⟨_,vs.toArray,_,hk,rfl,rfl,rfl,by rw[aU,lenV];exact hl,by simpa using rv⟩) (λb u z=>by have z':(none:Option HO)=some u:=z;cases z') (λb z=>absurd rfl z) λz=>absurd rfl z
 | none=>
  refine core (λb=>if b=a then some (.frz {cls:= .type "list",data:= .seq vs.toArray}<|.lst<|ns.map V.int)else none) (λb=> ?_) (.inl<|.inr ⟨{cls:= .type "list",data:= .seq vs.toArray},a8 rfl⟩) (λb u z=> ?_) (λb z=> ?_) λ_=>hk
  ·by_cases hb:b=a
   ·exact .inr ⟨_,_,a8 hb⟩
   ·exact .inl (a7 hb)
  ·by_cases hb:b=a
   ·have z':=(a8 hb).symm.trans z;cases z';subst hb;exact⟨ha,by rw[aI];exact hl,vs,_,rv,ha⟩
   ·have z':=(a7 hb).symm.trans z;cases z'
  ·by_cases hb:b=a
   ·exact hb
   ·exact absurd (a7 hb) z
end L2
namespace L2
open PySem PySem.Spec PyProof.Rows
theorem walk_of {l:PySem.W.OpenLaw}{n k:Nat}{q:Program}{loose:List Str}{XP:(Str->Option Value)->Heap->Prop}{YP:World->Heap->Prop}{d:DefRec}{K:Params->Frag}{CX:World->CXT}{sp:World->Sp}{x:Str}
  (hn:l.most=some n) (hn2:n<=sizeLine) (hdf:d.params.defaults=[]) (hr:jS k callerA)
  (hY: ∀(w:World) (h:Heap),YP w h->(K w.params).In h)
  (F: ∀(w:World) (mg:Str->Option Value) (fa:Addr) (h:Heap),(K w.params).In h->h.Ns mainGlobals mg->mg d.name=some (.ref fa)->
   ∃fd:FuncData,(∀(s:Shared) (u:Value),BindsTo s fd ⟨[u],[]⟩ [(x,u)])/\
    ∀base:Heap,(K w.params).In base->base.Ns mainGlobals mg->xA l.prog w (K w.params) mg base (CX w) k fa fd [x] (sp w))
  (hsp: ∀(w:World) (H:Hp) (a:Addr) (ns:List Int),ns.length<=n->Only H->SqL (K w.params) H a (ns.map V.int)->sp w [.ref a] H (λv _=>v= .bl true) λ_ _ _=>False)
  (hCX: ∀(w:World) (H:Hp) (s:Shared) (e:Value) (s':Shared),CX w [] H s (λ_ _ _=>False) e s'->False) :
  PySem.W.WalkO q loose XP YP l.row.toRowW d [] (λf vs=>PySem.call f vs):=by
 refine Att.attach_call hn hdf λw s₀ s₁ mg mb fa o pm cd doc a vs ns G Y ho hd hcd hmg hobj hints hlen hg=> ?_
 have KX:=hY w _ Y;obtain⟨fd,hb,hF⟩:=F w mg fa _ KX G.T.g hmg;exact bG7 KX G.T.g G.T.b G.T.builtins G.T.nolimit hg hobj hints (aV hlen hn2) hr hF hb (λH hO hS=>hsp w H a ns hlen hO hS) λH e s'=>hCX w H s₁ e s'
end L2
namespace L2
open PySem PySem.Spec PyProof.Rows
def nN (s:Stmt):Arguments:=match s with
 | .FunctionDef _ a _ _ _ _ _ _ _ _=>a
 | _=>{posonlyargs:=[],args:=[],vararg:=none,kwonlyargs:=[],kw_defaults:=[],kwarg:=none,defaults:=[]}
def gW (s:Stmt):List Stmt:=match s with
 | .FunctionDef _ _ b _ _ _ _ _ _ _=>b
 | _=>[]
def aJ (s:Stmt):Scope:=match s with
 | .FunctionDef _ _ _ _ _ _ sc _ _ _=>sc
 | _=>{kind:= .function,names:=[],isGenerator:=false,isCoroutine:=false}
abbrev CX0:CXT:=λ_ _ _ _ _ _=>False
abbrev E0:XK:=λ_ _ _=>False
structure Fun (K:Frag)(x qual:Str)(st:Stmt)(f:Addr)(fd:FuncData):Prop where
 ex: ∃(oc:Value) (od:Option Addr) (kV doc pm:Value) (an:Option Addr) (cdv ct:Value) (osl:Array (Option Value)),
  fd=fnOf x qual (nN st) (gW st) (aJ st) .none kV doc pm an cdv ct/\K.lookup f=some ⟨oc,od,.func fd,osl⟩/\codeIn K cdv qual=true
 kp:keepIn K (.ref f)=true
section
variable {P:Program}{w:World}{K:Frag}{mg:Str->Option Value}{base:Heap}
theorem Fun.ok {x qual:Str}{st:Stmt}{f:Addr}{fd:FuncData}{N ps:List Str}{k:Nat}{sp:Sp}(F:Fun K x qual st f fd)(S:bW N ps (aJ st))(len: ∀vs H Q E,sp vs H Q E->vs.length=ps.length)
  (hbody: ∀(cdv:Value) (A:Around) (outer:List Env) (s:Shared) (H:Hp) (vs:List V) (Q:VK) (E:XK),jS k (A.deeper<|envOfC qual (aJ st) s.heap.objs.size f cdv)->sp vs H Q E->
   ∃t,PSs (zQ CX0 P w K mg base N qual (aJ st) f cdv A outer s H E).nox (gW st) t/\t {nx:=λ_ H'=>Q .non H',rt:=Q} (start N vs) H):xA P w K mg base CX0 (k+1) f fd ps sp:=by
 obtain⟨oc,od,kV,doc,pm,an,cdv,ct,osl,rfl,lk,hcd⟩:=F.ex;refine bZ4 lk hcd S len λA outer s H vs Q E hr hsp=> ?_
 obtain⟨t,h,q⟩:=hbody cdv A outer s H vs Q E hr hsp;exact⟨t,h.nox,q⟩
theorem Fun.binds {x qual:Str}{st:Stmt}{f:Addr}{fd:FuncData}{ps:List Str}(F:Fun K x qual st f fd)
  (h: ∀(kV doc pm:Value) (an:Option Addr) (cdv ct:Value) (us:List Value),us.length=ps.length->bindArgs (fnOf x qual (nN st) (gW st) (aJ st) .none kV doc pm an cdv ct) ⟨us,[]⟩=pure (ps.zip us)):Binds K fd ps []:=by
 obtain⟨oc,od,kV,doc,pm,an,cdv,ct,osl,rfl,lk,hcd⟩:=F.ex;exact .all (h kV doc pm an cdv ct)
theorem bG8 {x qual:Str}{st:Stmt}{f:Addr}{oc:Value}{od an:Option Addr}{osl:Array (Option Value)}{kV doc pm cdv ct:Value}(l:K.lookup f=some ⟨oc,od,.func<|fnOf x qual (nN st) (gW st) (aJ st) .none kV doc pm an cdv ct,osl⟩)
  (c:codeIn K cdv qual=true) (k:keepIn K (.ref f)=true):Fun K x qual st f (fnOf x qual (nN st) (gW st) (aJ st) .none kV doc pm an cdv ct):=⟨⟨oc,od,kV,doc,pm,an,cdv,ct,osl,rfl,l,c⟩,k⟩
end
section
variable {X:Cx}
theorem pv (i:Nat){x:Str}{pos:Pos}(hN:X.N[i]? =some x:=by rfl)(hv:Vis X.env.scope x:=by first|exact Or.inl rfl|exact Or.inr (Or.inl rfl)|exact Or.inr (Or.inr rfl))(hd:(x==("__debug__":Str))=false:=by decide)
  (hcd:(x==("__classdict__":Str))=false:=by decide):PE X (.Name x pos) (a26 i):=pe_var hN hv hd hcd
end
def gC (H H':Hp):Prop:= ∀b o,H b=some o->H' b=some o
theorem gC.refl (H:Hp):gC H H:=λ_ _ h=>h
theorem gC.trans {H H1 H2:Hp}(a:gC H H1)(b:gC H1 H2):gC H H2:=λc o h=>b c o (a c o h)
theorem gC.free {H H':Hp}(e:gC H H'){l:Addr}(h:H' l=Option.none):H l=Option.none:=by
 cases q:H l with
 | none=>rfl
 | some o=>
  rw[e l o q]at h;cases h
theorem gC.seq {K:Frag}{H H':Hp}{a:Addr}{xs:List V}(e:gC H H')(h:SqL K H a xs):SqL K H' a xs:=by
 rcases h with(h| ⟨o,h⟩)|h
 ·exact .inl (.inl<|e _ _ h)
 ·exact .inl (.inr ⟨o,e _ _ h⟩)
 ·exact .inr h
end L2
section
namespace M
open PySem PySem.Spec PyProof.Rows L2
inductive D where
 | non|bl (b:Bool)|int (i:Int)|str (x:Str)|ty (n:String)
 | tup (l:List D)|lst (l:List D)|rol (l:List D)
 | obj (C:Addr) (ks:List Str) (l:List D)
 | adr (a:Addr)
 | xob (a d:Addr) (ks:List Str) (l:List D)
abbrev AS:=Addr->Prop
def KT (K:Frag)(a:Addr)(vs:List V):Prop:=
 ∃(o:Obj) (its:Array Value) (n:Nat),K.lookup a=some o/\o.cls= .type "tuple"/\o.data= .seq its n/\its.size<=sizeLine/\Vals vs its.toList
def KL (K:Frag)(a:Addr)(vs:List V):Prop:=
 ∃(o:Obj) (its:Array Value) (n:Nat),K.lookup a=some o/\o.cls= .type "list"/\o.dict=none/\o.data= .seq its n/\its.size<=sizeLine/\Vals vs its.toList
def OkC (K:Frag)(C:Addr)(ks:List Str):Prop:=Cls K C/\ ∀f∈ks,NoAttr K C f
mutual
def Rep (K:Frag)(A:AS)(H:Hp):D->V->Prop
 | .non,v=>v= .non
 | .bl b,v=>v= .bl b
 | .int i,v=>v= .int i
 | .str x,v=>v= .str x
 | .ty n,v=>v= .ty n
 | .tup l,v=> ∃a vs,v= .ref a/\((¬A a/\Rd H a (.tup vs))\/KT K a vs)/\bI K A H l vs
 | .lst l,v=> ∃a vs,v= .ref a/\ ¬A a/\H a=some (.lst vs)/\bI K A H l vs
 | .rol l,v=> ∃a vs,v= .ref a/\((¬A a/\Rd H a (.lst vs))\/KL K a vs)/\bI K A H l vs
 | .obj C ks l,v=> ∃a dx vs,v= .ref a/\ ¬A a/\H a=some (.ins C dx<|ks.zip vs)/\ks.length=vs.length/\bI K A H l vs/\OkC K C ks
 | .adr a,v=>v= .ref a
 | .xob a d ks l,v=> ∃vs,v= .ref a/\ ¬A d/\H d=some (.xd<|ks.zip vs)/\ks.length=vs.length/\bI K A H l vs
def bI (K:Frag)(A:AS)(H:Hp):List D->List V->Prop
 | [],vs=>vs=[]
 | d::ds,vs=> ∃v vr,vs=v::vr/\Rep K A H d v/\bI K A H ds vr
end
section
variable {K:Frag}{A A':AS}{H H':Hp}
def j9 (A:AS)(H:Hp)(A':AS)(H':Hp):Prop:= ∀b o,¬A b->H b=some o-> ¬A' b/\H' b=some o
theorem Rd.pres (p:j9 A H A' H'){a:Addr}{u:HO}(n: ¬A a)(r:Rd H a u): ¬A' a/\Rd H' a u:=by
 rcases r with r| ⟨o,r⟩
 ·exact⟨(p a _ n r).1,.inl (p a _ n r).2⟩
 ·exact⟨(p a _ n r).1,.inr ⟨o,(p a _ n r).2⟩⟩
mutual
theorem Rep.mono (p:j9 A H A' H'): ∀{d:D} {v:V},Rep K A H d v->Rep K A' H' d v
 | .non,_,h=>h
 | .bl _,_,h=>h
 | .int _,_,h=>h
 | .str _,_,h=>h
 | .ty _,_,h=>h
 | .tup l,v,h=>by
  simp only[Rep]at h⊢;obtain⟨a,vs,e,c,r⟩:=h;refine⟨a,vs,e,?_,bI.mono p r⟩;rcases c with⟨n,c⟩|c
  ·exact .inl (Rd.pres p n c)
  ·exact .inr c
 | .lst l,v,h=>by
  simp only[Rep]at h⊢;obtain⟨a,vs,e,n,c,r⟩:=h;exact⟨a,vs,e,(p a _ n c).1,(p a _ n c).2,bI.mono p r⟩
 | .rol l,v,h=>by
  simp only[Rep]at h⊢;obtain⟨a,vs,e,c,r⟩:=h;refine⟨a,vs,e,?_,bI.mono p r⟩;rcases c with⟨n,c⟩|c
  ·exact .inl (Rd.pres p n c)
  ·exact .inr c
 | .obj C ks l,v,h=>by
  simp only[Rep]at h⊢;obtain⟨a,dx,vs,e,n,c,hl,r,ok⟩:=h;exact⟨a,dx,vs,e,(p a _ n c).1,(p a _ n c).2,hl,bI.mono p r,ok⟩
 | .adr _,_,h=>h
 | .xob a d ks l,v,h=>by
  simp only[Rep]at h⊢;obtain⟨vs,e,n,c,hl,r⟩:=h;exact⟨vs,e,(p d _ n c).1,(p d _ n c).2,hl,bI.mono p r⟩
theorem bI.mono (p:j9 A H A' H'): ∀{l:List D} {vs:List V},bI K A H l vs->bI K A' H' l vs
 | [],_,h=>by simp only[bI]at h ⊢; exact h
 | d::ds,vs,h=>by
  simp only[bI]at h⊢;obtain⟨v,vr,e,r,rs⟩:=h;exact⟨v,vr,e,Rep.mono p r,bI.mono p rs⟩
end
theorem bI.length: ∀{l:List D} {vs:List V},bI K A H l vs->l.length=vs.length
 | [],_,h=>by simp only[bI]at h;subst h;rfl
 | d::ds,vs,h=>by
  simp only[bI]at h;obtain⟨v,vr,rfl,_,rs⟩:=h;simp only[cT,bI.length rs]
theorem bI.nil:bI K A H [] []:=by simp only[bI]
theorem bI.cons {d:D}{v:V}{l:List D}{vs:List V}(r:Rep K A H d v)(rs:bI K A H l vs):bI K A H (d::l) (v::vs):=by
 simp only[bI];exact⟨v,vs,rfl,r,rs⟩
theorem bI.uncons {d:D}{l:List D}{vs:List V}(h:bI K A H (d::l) vs): ∃v vr,vs=v::vr/\Rep K A H d v/\bI K A H l vr:=by
 simpa only[bI]using h
theorem bI.unnil {vs:List V}(h:bI K A H [] vs):vs=[]:=by simpa only[bI]using h
theorem bI.append: ∀{l m:List D} {vs ws:List V},bI K A H l vs->bI K A H m ws->bI K A H (l++m) (vs++ws)
 | [],_,_,_,h,g=>by rw[h.unnil];exact g
 | d::l,m,vs,ws,h,g=>by
  obtain⟨v,vr,rfl,r,rs⟩:=h.uncons;exact .cons r (bI.append rs g)
theorem bI.get: ∀{l:List D} {vs:List V} {i:Nat} {d:D},bI K A H l vs->l[i]? =some d-> ∃v,vs[i]? =some v/\Rep K A H d v
 | [],_,_,_,_,e=>by simp at e
 | d::l,vs,0,d',h,e=>by
  obtain⟨v,vr,rfl,r,rs⟩:=h.uncons;simp at e;subst e;exact⟨v,ae,r⟩
 | d::l,vs,i+1,d',h,e=>by
  obtain⟨v,vr,rfl,r,rs⟩:=h.uncons;obtain⟨w,h1,h2⟩:=bI.get (i:=i) rs (by simpa using e)
  exact⟨w,by simpa using h1,h2⟩
theorem bI.set: ∀{l:List D} {vs:List V} {d:D} {v:V} (i:Nat),bI K A H l vs->Rep K A H d v->bI K A H (l.set i d) (vs.set i v)
 | [],_,_,_,_,h,_=>by rw[h.unnil];exact .nil
 | d'::l,vs,d,v,0,h,g=>by
  obtain⟨w,vr,rfl,r,rs⟩:=h.uncons;exact .cons g rs
 | d'::l,vs,d,v,i+1,h,g=>by
  obtain⟨w,vr,rfl,r,rs⟩:=h.uncons;exact .cons r (bI.set i rs g)
theorem bI.drop: ∀{l:List D} {vs:List V} (n:Nat),bI K A H l vs->bI K A H (l.drop n) (vs.drop n)
 | _,_,0,h=>h
 | [],_,n+1,h=>by rw[h.unnil];exact .nil
 | d::l,vs,n+1,h=>by
  obtain⟨v,vr,rfl,r,rs⟩:=h.uncons;exact bI.drop n rs
theorem bI.take: ∀{l:List D} {vs:List V} (n:Nat),bI K A H l vs->bI K A H (l.take n) (vs.take n)
 | _,_,0,h=>by simp only[List.take_zero];exact .nil
 | [],_,n+1,h=>by rw[h.unnil];exact .nil
 | d::l,vs,n+1,h=>by
  obtain⟨v,vr,rfl,r,rs⟩:=h.uncons;exact .cons r (bI.take n rs)
theorem bI.rep {l:List D}{vs:List V}(h:bI K A H l vs): ∀k:Nat,bI K A H (replicate k l).flatten (replicate k vs).flatten
 | 0=> .nil
 | k+1=>by
  rw[i5,i5,jO,jO];exact .append h (h.rep k)
theorem bI.reverse: ∀{l:List D} {vs:List V},bI K A H l vs->bI K A H l.reverse vs.reverse
 | [],_,h=>by rw[h.unnil];exact .nil
 | d::l,vs,h=>by
  obtain⟨v,vr,rfl,r,rs⟩:=h.uncons;rw[rO,rO];exact .append (bI.reverse rs) (.cons r .nil)
theorem j9.same (s:gC H H'):j9 A H A H':=λb o n e=>⟨n,s b o e⟩
theorem j9.sub (s:gC H H')(h: ∀a,A' a->A a):j9 A H A' H':=λb o n e=>⟨λq=>n (h b q),s b o e⟩
theorem j9.fresh {a:Addr}(s:gC H H')(n:H a=none):j9 A H (λb=>A b\/b=a) H':=λb o nb e=>
 ⟨λq=>q.elim nb λz=>(by subst z;rw[n]at e;cases e),s b o e⟩
theorem j9.upd {a:Addr}{o:HO}(h:A a):j9 A H A (upd H a o):=λb o' nb e=>⟨nb,by rw[dG λz=>nb (by subst z;exact h)];exact e⟩
end
inductive B where
 | pu (d:D)|ow (l:List D)|bo (l:List D)
noncomputable def B.d:B->D
 | .pu d=>d
 | .ow l=> .lst l
 | .bo l=> .lst l
abbrev Ev:=List (Option B)
def Own (ρ:Ev)(σ:L2.St):AS:=λa=> ∃(i:Nat) (l:List D),ρ[i]? =some (some<|.ow l)/\σ[i]? =some (some<|.ref a)
structure C0 where
 H0:Hp
 A0:AS
def Av (C:C0)(ρ:Ev)(σ:L2.St):AS:=λa=>C.A0 a\/Own ρ σ a
structure EOk (K:Frag)(C:C0)(ρ:Ev)(σ:L2.St)(H:Hp):Prop where
 len:ρ.length=σ.length
 pu: ∀(i:Nat) (d:D),ρ[i]? =some (some<|.pu d)-> ∃v,σ[i]? =some (some v)/\Rep K (Av C ρ σ) H d v
 ow: ∀(i:Nat) (l:List D),ρ[i]? =some (some<|.ow l)-> ∃a vs,σ[i]? =some (some<|.ref a)/\H a=some (.lst vs)/\C.H0 a=none/\bI K (Av C ρ σ) H l vs
 inj: ∀(i j:Nat) (l l':List D) (a:Addr),ρ[i]? =some (some<|.ow l)->ρ[j]? =some (some<|.ow l')->σ[i]? =some (some<|.ref a)->σ[j]? =some (some<|.ref a)->i=j
 bo: ∀(i:Nat) (l:List D),ρ[i]? =some (some<|.bo l)-> ∃a vs,σ[i]? =some (some<|.ref a)/\C.A0 a/\C.H0 a=some (.lst vs)/\bI K (Av C ρ σ) H l vs
 ext:gC C.H0 H
 a0: ∀a,C.A0 a->C.H0 a≠none
section
variable {K:Frag}{C:C0}{ρ ρ':Ev}{σ σ':L2.St}{H H':Hp}
theorem EOk.avSome (I:EOk K C ρ σ H){a:Addr}(h:Av C ρ σ a):H a≠none:=by
 rcases h with h| ⟨i,l,h1,h2⟩
 ·intro z;cases e:C.H0 a with
  | none=>exact I.a0 a h e
  | some o=>rw[I.ext a o e]at z;cases z
 ·obtain⟨b,vs,h3,h4,_⟩:=I.ow i l h1;rw[h2]at h3;cases h3;rw[h4];simp
theorem EOk.same (I:EOk K C ρ σ H)(s:gC H H'):EOk K C ρ σ H' where
 len:=I.len
 pu:=λi d h=>let ⟨v,h1,h2⟩:=I.pu i d h;⟨v,h1,h2.mono<|.same s⟩
 ow:=λi l h=>let ⟨a,vs,h1,h2,h3,h4⟩:=I.ow i l h;⟨a,vs,h1,s _ _ h2,h3,h4.mono<|.same s⟩
 inj:=I.inj
 bo:=λi l h=>let ⟨a,vs,h1,h2,h3,h4⟩:=I.bo i l h;⟨a,vs,h1,h2,h3,h4.mono<|.same s⟩
 ext:=I.ext.trans s
 a0:=I.a0
theorem get_set_ne {α:Type}{l:List α}{i j:Nat}{x:α}(h:i≠j):(l.set i x)[j]? =l[j]? :=by
 rw[wO];simp[h]
theorem bV {α:Type}{l:List α}{i:Nat}{x:α}(h:i<l.length):(l.set i x)[i]? =some x:=by
 rw[wO];simp[h]
theorem aN {α:Type}{l:List α}{i j:Nat}{x y:α}(h:(l.set i x)[j]? =some y):(i=j/\y=x/\i<l.length)\/(i≠j/\l[j]? =some y):=by
 by_cases e:i=j
 ·subst e;rw[wO]at h
  by_cases hl:i<l.length
  ·simp[hl]at h;exact .inl ⟨rfl,h.symm,hl⟩
  ·simp[hl]at h
 ·exact .inr ⟨e,by rw[get_set_ne e]at h;exact h⟩
def pA (K:Frag)(A:AS)(H H':Hp):B->V->Prop
 | .pu d,v=>Rep K A H' d v
 | .ow l,v=> ∃a vs,v= .ref a/\H a=none/\H' a=some (.lst vs)/\bI K (λb=>A b\/b=a) H' l vs
 | .bo _,_=>False
theorem pA.rep {A:AS}(hA: ∀a,A a->H a≠none): ∀{b:B} {v:V},pA K A H H' b v->Rep K A H' b.d v
 | .pu d,v,h=>h
 | .ow l,v,h=>by
  obtain⟨a,vs,e,n,h1,r⟩:=h;show Rep K A H' (.lst l) v;simp only[Rep];exact⟨a,vs,e,λz=>hA a z n,h1,r.mono λb o nb q=>⟨λz=>nb (.inl z),q⟩⟩
 | .bo l,v,h=>h.elim
theorem EOk.store (I:EOk K C ρ σ H){i:Nat}{b:B}{v:V}{H1:Hp}(s:gC H H1)(r:pA K (Av C ρ σ) H H1 b v)(hi:i<σ.length):EOk K C (ρ.set i<|some b) (σ.set i<|some v) H1:=by
 have I1:=I.same s;have hir:i<ρ.length:=by rw[I.len];exact hi
 cases b with
 | pu d=>
  have sub: ∀a,Av C (ρ.set i<|some<|.pu d) (σ.set i<|some v) a->Av C ρ σ a:=by
   rintro a (z| ⟨j,l,h1,h2⟩)
   ·exact .inl z
   ·rcases aN h1 with⟨rfl,h3,_⟩| ⟨ne,h3⟩
    ·cases h3
    ·rw[get_set_ne ne]at h2;exact .inr ⟨j,l,h3,h2⟩
  refine⟨by rw[bT,bT];exact I.len,?_,?_,?_,?_,I1.ext,I.a0⟩
  rotate_right
  ·intro j l h;rcases aN h with⟨rfl,h3,_⟩| ⟨ne,h3⟩
   ·cases h3
   ·obtain⟨a,vs,h4,h5,h6,h7⟩:=I1.bo j l h3;exact⟨a,vs,by rw[get_set_ne ne];exact h4,h5,h6,h7.mono<|.sub (.refl _) sub⟩
  ·intro j d' h;rcases aN h with⟨rfl,h3,_⟩| ⟨ne,h3⟩
   ·cases h3;exact⟨v,bV hi,Rep.mono (.sub (.refl _) sub) r⟩
   ·obtain⟨v',h4,h5⟩:=I1.pu j d' h3;exact⟨v',by rw[get_set_ne ne];exact h4,h5.mono<|.sub (.refl _) sub⟩
  ·intro j l h;rcases aN h with⟨rfl,h3,_⟩| ⟨ne,h3⟩
   ·cases h3
   ·obtain⟨a,vs,h4,h5,h6,h7⟩:=I1.ow j l h3;exact⟨a,vs,by rw[get_set_ne ne];exact h4,h5,h6,h7.mono<|.sub (.refl _) sub⟩
  ·intro j k l l' a h1 h2 h3 h4;rcases aN h1 with⟨rfl,z,_⟩| ⟨ne,z⟩
   ·cases z
   ·rcases aN h2 with⟨rfl,z',_⟩| ⟨ne',z'⟩
    ·cases z'
    ·rw[get_set_ne ne]at h3;rw[get_set_ne ne']at h4;exact I.inj j k l l' a z z' h3 h4
 | ow l0=>
  obtain⟨a0,vs0,rfl,n0,e0,r0⟩:=r;have sub: ∀a,Av C (ρ.set i<|some<|.ow l0) (σ.set i<|some<|.ref a0) a->Av C ρ σ a\/a=a0:=by
   rintro a (z| ⟨j,l,h1,h2⟩)
   ·exact .inl (.inl z)
   ·rcases aN h1 with⟨rfl,h3,_⟩| ⟨ne,h3⟩
    ·rw[bV hi]at h2;cases h2;exact .inr rfl
    ·rw[get_set_ne ne]at h2;exact .inl (.inr ⟨j,l,h3,h2⟩)
  have P:j9 (Av C ρ σ) H (Av C (ρ.set i<|some<|.ow l0)<|σ.set i<|some<|.ref a0) H1:=λb o nb e=>
   ⟨λq=>(sub b q).elim nb λz=>(by subst z;rw[n0]at e;cases e),s b o e⟩
  refine⟨by rw[bT,bT];exact I.len,?_,?_,?_,?_,I1.ext,I.a0⟩
  rotate_right
  ·intro j l h;rcases aN h with⟨rfl,h3,_⟩| ⟨ne,h3⟩
   ·cases h3
   ·obtain⟨a,vs,h4,h5,h6,h7⟩:=I.bo j l h3;exact⟨a,vs,by rw[get_set_ne ne];exact h4,h5,h6,h7.mono P⟩
  ·intro j d' h;rcases aN h with⟨rfl,h3,_⟩| ⟨ne,h3⟩
   ·cases h3
   ·obtain⟨v',h4,h5⟩:=I.pu j d' h3;exact⟨v',by rw[get_set_ne ne];exact h4,h5.mono P⟩
  ·intro j l h;rcases aN h with⟨rfl,h3,_⟩| ⟨ne,h3⟩
   ·cases h3;refine⟨a0,vs0,bV hi,e0,?_,r0.mono λb o nb q=>⟨λz=>nb (sub b z),q⟩⟩
    cases e:C.H0 a0 with
    | none=>rfl
    | some o=>rw[I.ext _ _ e]at n0;cases n0
   ·obtain⟨a,vs,h4,h5,h6,h7⟩:=I.ow j l h3;exact⟨a,vs,by rw[get_set_ne ne];exact h4,s _ _ h5,h6,h7.mono P⟩
  ·intro j k l l' a h1 h2 h3 h4;have old: ∀{j:Nat} {l:List D},ρ[j]? =some (some<|.ow l)->σ[j]? ≠some (some<|.ref a0):=λ{j l} h z=>by
    obtain⟨b,vs,h4,h5,_⟩:=I.ow j l h;rw[z]at h4;cases h4;rw[n0]at h5;cases h5
   rcases aN h1 with⟨rfl,z,_⟩| ⟨ne,z⟩
   ·rw[bV hi]at h3;cases h3;rcases aN h2 with⟨rfl,z',_⟩| ⟨ne',z'⟩
    ·rfl
    ·rw[get_set_ne ne']at h4;exact absurd h4 (old z')
   ·rw[get_set_ne ne]at h3;rcases aN h2 with⟨rfl,z',_⟩| ⟨ne',z'⟩
    ·rw[bV hi]at h4;cases h4;exact absurd h3 (old z)
    ·rw[get_set_ne ne']at h4;exact I.inj j k l l' a z z' h3 h4
 | bo l0=>exact r.elim
theorem EOk.freeze (I:EOk K C ρ σ H){i:Nat}{l:List D}(h:ρ[i]? =some (some<|.ow l)) :
  EOk K C (ρ.set i<|some<|.pu<|.lst l) σ H/\(∀a,Own (ρ.set i<|some<|.pu<|.lst l) σ a->Own ρ σ a)/\ ∃v,σ[i]? =some (some v)/\Rep K (Av C (ρ.set i<|some<|.pu<|.lst l) σ) H (.lst l) v:=by
 have sub: ∀a,Own (ρ.set i<|some<|.pu<|.lst l) σ a->Own ρ σ a:=by
  rintro a ⟨j,l',h1,h2⟩;rcases aN h1 with⟨rfl,h3,_⟩| ⟨ne,h3⟩
  ·cases h3
  ·exact⟨j,l',h3,h2⟩
 have subA: ∀a,Av C (ρ.set i<|some<|.pu<|.lst l) σ a->Av C ρ σ a:=λa z=>z.imp id (sub a)
 obtain⟨a,vs,h1,h2,h3,h4⟩:=I.ow i l h;have na: ¬Av C (ρ.set i<|some<|.pu<|.lst l) σ a:=by
  rintro(z| ⟨j,l',g1,g2⟩)
  ·exact I.a0 a z h3
  ·rcases aN g1 with⟨rfl,g3,_⟩| ⟨ne,g3⟩
   ·cases g3
   ·exact ne (I.inj i j l l' a h g3 h1 g2)
 have R:Rep K (Av C (ρ.set i<|some<|.pu<|.lst l) σ) H (.lst l) (.ref a):=by
  simp only[Rep];exact⟨a,vs,rfl,na,h2,h4.mono<|.sub (.refl _) subA⟩
 refine⟨⟨by rw[bT];exact I.len,?_,?_,?_,?_,I.ext,I.a0⟩,sub,.ref a,h1,R⟩
 rotate_right
 ·intro j l' g;rcases aN g with⟨rfl,g3,_⟩| ⟨ne,g3⟩
  ·cases g3
  ·obtain⟨a',vs',g4,g5,g6,g7⟩:=I.bo j l' g3;exact⟨a',vs',g4,g5,g6,g7.mono<|.sub (.refl _) subA⟩
 ·intro j d' g;rcases aN g with⟨rfl,g3,_⟩| ⟨ne,g3⟩
  ·cases g3;exact⟨_,h1,R⟩
  ·obtain⟨v',g4,g5⟩:=I.pu j d' g3;exact⟨v',g4,g5.mono<|.sub (.refl _) subA⟩
 ·intro j l' g;rcases aN g with⟨rfl,g3,_⟩| ⟨ne,g3⟩
  ·cases g3
  ·obtain⟨a',vs',g4,g5,g6,g7⟩:=I.ow j l' g3;exact⟨a',vs',g4,g5,g6,g7.mono<|.sub (.refl _) subA⟩
 ·intro j k l1 l2 a' g1 g2 g3 g4;rcases aN g1 with⟨rfl,z,_⟩| ⟨ne,z⟩
  ·cases z
  ·rcases aN g2 with⟨rfl,z',_⟩| ⟨ne',z'⟩
   ·cases z'
   ·exact I.inj j k l1 l2 a' z z' g3 g4
theorem EOk.write (I:EOk K C ρ σ H){i:Nat}{l l':List D}{a:Addr}{vs':List V}(h:ρ[i]? =some (some<|.ow l))(hs:σ[i]? =some (some<|.ref a))(r:bI K (Av C ρ σ) H l' vs') :
  EOk K C (ρ.set i<|some<|.ow l') σ (upd H a<|.lst vs'):=by
 have hi:i<ρ.length:=(fF.mp h).1;have sub: ∀b,Av C (ρ.set i<|some<|.ow l') σ b->Av C ρ σ b:=by
  rintro b (z| ⟨j,l2,h1,h2⟩)
  ·exact .inl z
  ·rcases aN h1 with⟨rfl,h3,_⟩| ⟨ne,h3⟩
   ·exact .inr ⟨i,l,h,h2⟩
   ·exact .inr ⟨j,l2,h3,h2⟩
 have own:Av C ρ σ a:= .inr ⟨i,l,h,hs⟩;have P:j9 (Av C ρ σ) H (Av C (ρ.set i<|some<|.ow l') σ) (upd H a<|.lst vs'):=λb o nb e=>⟨λz=>nb (sub b z),(j9.upd own b o nb e).2⟩
 obtain⟨a1,vs,h1,h2,h3,h4⟩:=I.ow i l h;rw[hs]at h1;cases h1;refine⟨by rw[bT];exact I.len,?_,?_,?_,?_,?_,I.a0⟩
 rotate_left 3
 ·intro j l2 g;rcases aN g with⟨rfl,g3,_⟩| ⟨ne,g3⟩
  ·cases g3
  ·obtain⟨a',vs',g4,g5,g6,g7⟩:=I.bo j l2 g3;exact⟨a',vs',g4,g5,g6,g7.mono P⟩
 rotate_left 1
 ·intro j d' g;rcases aN g with⟨rfl,g3,_⟩| ⟨ne,g3⟩
  ·cases g3
  ·obtain⟨v',g4,g5⟩:=I.pu j d' g3;exact⟨v',g4,g5.mono P⟩
 ·intro j l2 g;rcases aN g with⟨rfl,g3,_⟩| ⟨ne,g3⟩
  ·cases g3;exact⟨a,vs',hs,lZ,h3,r.mono P⟩
  ·obtain⟨a',vs2,g4,g5,g6,g7⟩:=I.ow j l2 g3;refine⟨a',vs2,g4,?_,g6,g7.mono P⟩;rw[dG λz=> ?_]
   ·exact g5
   ·subst z;exact ne (I.inj i j l l2 a' h g3 hs g4)
 ·intro j k l1 l2 a' g1 g2 g3 g4;have old: ∀{j:Nat} {l1:List D},(ρ.set i<|some<|.ow l')[j]? =some (some<|.ow l1)-> ∃l3,ρ[j]? =some (some<|.ow l3):=λ{j l1} g=>by
   rcases aN g with⟨rfl,z,_⟩| ⟨ne,z⟩
   ·exact⟨l,h⟩
   ·exact⟨l1,z⟩
  obtain⟨_,q1⟩:=old g1;obtain⟨_,q2⟩:=old g2;exact I.inj j k _ _ a' q1 q2 g3 g4
 ·intro b o e;rw[dG λz=> ?_]
  ·exact I.ext b o e
  ·subst z;rw[h3]at e;cases e
noncomputable def C0.raise (C:C0)(ρ:Ev)(σ:L2.St)(H:Hp)(D:(a:Addr)->Decidable (Own ρ σ a)):C0:=⟨λb=> @ite _ (Own ρ σ b) (D b) none (H b),C.A0⟩
open Classical in
theorem EOk.raise (I:EOk K C ρ σ H):EOk K (C.raise ρ σ H λ_=>inferInstance) ρ σ H/\gC C.H0 (C.raise ρ σ H λ_=>inferInstance).H0:=by
 have e1: ∀b,Own ρ σ b->(C.raise ρ σ H λ_=>inferInstance).H0 b=none:=λb h=>a8 h
 have e2: ∀b,¬Own ρ σ b->(C.raise ρ σ H λ_=>inferInstance).H0 b=H b:=λb h=>a7 h
 have no: ∀b o,C.H0 b=some o-> ¬Own ρ σ b:=λb o e ⟨i,l,h1,h2⟩=>by
  obtain⟨a,vs,h3,h4,h5,_⟩:=I.ow i l h1;rw[h2]at h3;cases h3;rw[h5]at e;cases e
 have s1:gC C.H0 (C.raise ρ σ H λ_=>inferInstance).H0:=λb o e=>by rw[e2 b<|no b o e];exact I.ext b o e
 refine⟨⟨I.len,I.pu,λi l h=> ?_,I.inj,λi l h=> ?_,λb o e=> ?_,λa h z=> ?_⟩,s1⟩
 ·obtain⟨a,vs,h3,h4,h5,h6⟩:=I.ow i l h;exact⟨a,vs,h3,h4,e1 a ⟨i,l,h,h3⟩,h6⟩
 ·obtain⟨a,vs,h3,h4,h5,h6⟩:=I.bo i l h;exact⟨a,vs,h3,h4,s1 _ _ h5,h6⟩
 ·by_cases q:Own ρ σ b
  ·rw[e1 b q]at e;cases e
  ·rw[e2 b q]at e;exact e
 ·cases e:C.H0 a with
  | none=>exact I.a0 a h e
  | some o=>rw[s1 a o e]at z;cases z
theorem EOk.lower {C C':C0}(I:EOk K C' ρ σ H)(s:gC C.H0 C'.H0)(e:C'.A0=C.A0)(ha: ∀a,C.A0 a->C.H0 a≠none):EOk K C ρ σ H:=by
 obtain⟨H0',A0'⟩:=C';obtain⟨H0,A0⟩:=C;have e':A0'=A0:=e;subst e';refine⟨I.len,I.pu,λi l h=> ?_,I.inj,λi l h=> ?_,s.trans I.ext,ha⟩
 ·obtain⟨a,vs,h3,h4,h5,h6⟩:=I.ow i l h;exact⟨a,vs,h3,h4,s.free h5,h6⟩
 ·obtain⟨a,vs,h3,h4,h5,h6⟩:=I.bo i l h;refine⟨a,vs,h3,h4,?_,h6⟩;cases e:H0 a with
  | none=>exact absurd e (ha a h4)
  | some o=>
   have:=s a o e;have h5':H0' a=some (.lst vs):=h5;have this':H0' a=some o:=this;rw[h5']at this';cases this';exact e
end
end M
end
section
namespace M
open PySem PySem.Spec PyProof.Rows L2
def Frz (ρ ρ':Ev):Prop:=ρ'.length=ρ.length/\ ∀i:Nat,ρ'[i]? =ρ[i]? \/ ∃l:List D,ρ[i]? =some (some<|.ow l)/\ρ'[i]? =some (some<|.pu<|.lst l)
theorem Frz.refl (ρ:Ev):Frz ρ ρ:=⟨rfl,λ_=> .inl rfl⟩
theorem Frz.trans {a b c:Ev}(h:Frz a b)(g:Frz b c):Frz a c:=by
 refine⟨g.1.trans h.1,λi=> ?_⟩
 rcases g.2 i with e| ⟨l,e1,e2⟩
 ·rcases h.2 i with e'| ⟨l,e1,e2⟩
  ·exact .inl (e.trans e')
  ·exact .inr ⟨l,e1,e.trans e2⟩
 ·rcases h.2 i with e'| ⟨l',e3,e4⟩
  ·exact .inr ⟨l,e'▸e1,e2⟩
  ·rw[e4]at e1;cases e1
theorem Frz.own {ρ ρ':Ev}{σ:L2.St}(f:Frz ρ ρ'){a:Addr}(h:Own ρ' σ a):Own ρ σ a:=by
 obtain⟨i,l,h1,h2⟩:=h;rcases f.2 i with e| ⟨l',_,e2⟩
 ·exact⟨i,l,e▸h1,h2⟩
 ·rw[e2]at h1;cases h1
theorem Frz.set {ρ:Ev}{i:Nat}{l:List D}(h:ρ[i]? =some (some<|.ow l)):Frz ρ (ρ.set i<|some<|.pu<|.lst l):=by
 refine⟨bT,λj=> ?_⟩
 by_cases e:i=j
 ·subst e;exact .inr ⟨l,h,bV (fF.mp h).1⟩
 ·exact .inl (get_set_ne e)
section
variable {K:Frag}{C:C0}{ρ ρ':Ev}{σ:L2.St}{H H':Hp}
theorem Frz.av (f:Frz ρ ρ'){a:Addr}(h:Av C ρ' σ a):Av C ρ σ a:=h.imp id f.own
theorem EOk.frz (I:EOk K C ρ σ H)(f:Frz ρ ρ'):EOk K C ρ' σ H:=by
 have ow': ∀{j:Nat} {l:List D},ρ'[j]? =some (some<|.ow l)->ρ[j]? =some (some<|.ow l):=λ{j l} h=>by
  rcases f.2 j with e| ⟨l',_,e2⟩
  ·exact e▸h
  ·rw[e2]at h;cases h
 refine⟨by rw[f.1];exact I.len,λi d h=> ?_,λi l h=> ?_,λi j l l' a h1 h2=>I.inj i j l l' a (ow' h1) (ow' h2),λi l h=> ?_,I.ext,I.a0⟩
 ·rcases f.2 i with e| ⟨l,e1,e2⟩
  ·obtain⟨v,h1,h2⟩:=I.pu i d (e▸h);exact⟨v,h1,h2.mono<|.sub (.refl _) λa=>f.av⟩
  ·rw[e2]at h;cases h;obtain⟨a,vs,h1,h2,h3,h4⟩:=I.ow i l e1;refine⟨.ref a,h1,?_⟩;simp only[Rep];refine⟨a,vs,rfl,?_,h2,h4.mono<|.sub (.refl _) λa=>f.av⟩
   rintro(z| ⟨j,l',g1,g2⟩)
   ·exact I.a0 a z h3
   ·have:=I.inj i j l l' a e1 (ow' g1) h1 g2;subst this;rw[e2]at g1;cases g1
 ·obtain⟨a,vs,h1,h2,h3,h4⟩:=I.ow i l (ow' h);exact⟨a,vs,h1,h2,h3,h4.mono<|.sub (.refl _) λa=>f.av⟩
 ·have h':ρ[i]? =some (some<|.bo l):=by
   rcases f.2 i with e| ⟨l',_,e2⟩
   ·exact e▸h
   ·rw[e2]at h;cases h
  obtain⟨a,vs,h1,h2,h3,h4⟩:=I.bo i l h';exact⟨a,vs,h1,h2,h3,h4.mono<|.sub (.refl _) λa=>f.av⟩
end
abbrev UE:=Ev->(B->Ev->Prop)->Prop
abbrev UV:=Ev->(D->Ev->Prop)->Prop
abbrev UA:=Ev->(List D->Ev->Prop)->Prop
abbrev UT:=Ev->(Bool->Ev->Prop)->Prop
def lE (K:Frag)(t:UE):TE:=λσ H Q=> ∃C ρ Q0,EOk K C ρ σ H/\t ρ Q0/\
 ∀b ρ' v H',Q0 b ρ'->Frz ρ ρ'->gC H H'->pA K (Av C ρ' σ) H H' b v->Q v H'
def lA (K:Frag)(t:UA):TA:=λσ H Q=> ∃C ρ Q0,EOk K C ρ σ H/\t ρ Q0/\
 ∀ds ρ' vs H',Q0 ds ρ'->Frz ρ ρ'->gC H H'->bI K (Av C ρ' σ) H' ds vs->Q vs H'
def lT (K:Frag)(t:UT):TT:=λσ H Q=> ∃C ρ Q0,EOk K C ρ σ H/\t ρ Q0/\
 ∀b ρ' H',Q0 b ρ'->Frz ρ ρ'->gC H H'->Q b H'
def aY7 (K:Frag)(A:AS)(H:Hp):D->V->Prop
 | .tup l,v=> ∃a vs,v= .ref a/\SqT K H a vs/\bI K A H l vs
 | .lst l,v=> ∃a vs,v= .ref a/\H a=some (.lst vs)/\bI K A H l vs
 | .rol l,v=> ∃a vs,v= .ref a/\SqL K H a vs/\bI K A H l vs
 | d,v=>Rep K A H d v
def lV (K:Frag)(t:UV):TE:=λσ H Q=> ∃C ρ Q0,EOk K C ρ σ H/\t ρ Q0/\
 ∀d ρ' v H',Q0 d ρ'->Frz ρ ρ'->gC H H'->aY7 K (Av C ρ' σ) H' d v->Q v H'
def PU (X:Cx)(e:Expr)(t:UE):Prop:=PE X e (lE X.K t)
def PUV (X:Cx)(e:Expr)(t:UV):Prop:=PE X e (lV X.K t)
def PUA (X:Cx)(es:List Expr)(t:UA):Prop:=PA X es (lA X.K t)
def PUT (X:Cx)(e:Expr)(t:UT):Prop:=PT X e (lT X.K t)
def PUW (X:Cx)(e:Expr)(t:UT):Prop:=PW X e (lT X.K t)
section
variable {K:Frag}{A:AS}{H:Hp}
theorem Rep.one: ∀{d:D} {v:V},Rep K A H d v->aY7 K A H d v
 | .non,_,h=>h
 | .bl _,_,h=>h
 | .int _,_,h=>h
 | .str _,_,h=>h
 | .ty _,_,h=>h
 | .tup l,v,h=>by
  simp only[Rep]at h;obtain⟨a,vs,e,c,r⟩:=h;exact⟨a,vs,e,c.imp bY id,r⟩
 | .lst l,v,h=>by
  simp only[Rep]at h;obtain⟨a,vs,e,n,c,r⟩:=h;exact⟨a,vs,e,c,r⟩
 | .rol l,v,h=>by
  simp only[Rep]at h;obtain⟨a,vs,e,c,r⟩:=h;exact⟨a,vs,e,c.imp bY id,r⟩
 | .obj _ _ _,_,h=>h
 | .adr _,_,h=>h
 | .xob _ _ _ _,_,h=>h
end
theorem hZ {X:Cx}{e:Expr}{t t':TE}(h:PE X e t)(i: ∀σ H Q,t' σ H Q->t σ H Q):PE X e t':=λpins s σ H Q I q=>h pins s σ H Q I (i σ H Q q)
theorem bZ6 {X:Cx}{es:List Expr}{t t':TA}(h:PA X es t)(i: ∀σ H Q,t' σ H Q->t σ H Q):PA X es t':=λpos pins s σ H Q I q=>h pos pins s σ H Q I (i σ H Q q)
theorem aG6 {X:Cx}{e:Expr}{t t':TT}(h:PT X e t)(i: ∀σ H Q,t' σ H Q->t σ H Q):PT X e t':=λpins s σ H Q I q=>h pins s σ H Q I (i σ H Q q)
theorem bZ7 {X:Cx}{e:Expr}{t t':TT}(h:PW X e t)(i: ∀σ H Q,t' σ H Q->t σ H Q):PW X e t':=λw pins s σ H Q I q=>h w pins s σ H Q I (i σ H Q q)
section
variable {X:Cx}{a b c e o:Expr}{es eH:List Expr}{pos:Pos}{ta tb tc:UE}
def uC (d:D):UE:=λρ Q=>Q (.pu d) ρ
theorem aD {i j pos}:PU X (.Constant (.int i) j pos) (uC<|.int i):=hZ pe_int λσ H Q ⟨C,ρ,Q0,I,h,k⟩=>k _ ρ _ H h (.refl _) (.refl _) (show Rep _ _ _ _ _ by simp only[Rep])
theorem y8 {b j pos}:PU X (.Constant (.bool b) j pos) (uC<|.bl b):=hZ pe_bl λσ H Q ⟨C,ρ,Q0,I,h,k⟩=>k _ ρ _ H h (.refl _) (.refl _) (show Rep _ _ _ _ _ by simp only[Rep])
theorem bG9 {j pos}:PU X (.Constant .none j pos) (uC .non):=hZ pe_non λσ H Q ⟨C,ρ,Q0,I,h,k⟩=>k _ ρ _ H h (.refl _) (.refl _) (show Rep _ _ _ _ _ by simp only[Rep])
def aR1 (ρ:Ev)(i:Nat)(Q:B->Ev->Prop):Prop:=match ρ[i]? with
 | some (some<|.pu d)=>Q (.pu d) ρ
 | some (some<|.ow l)=>Q (.pu<|.lst l) (ρ.set i<|some<|.pu<|.lst l)
 | _=>False
def aE (i:Nat):UE:=λρ Q=>aR1 ρ i Q
theorem bH0 (i:Nat){x:Str}{pos:Pos}(h:PE X (.Name x pos) (a26 i)):PU X (.Name x pos) (aE i):=hZ h λσ H Q ⟨C,ρ,Q0,I,h,k⟩=>by
 unfold aE aR1 at h;split at h
 ·rename_i d e
  obtain⟨v,h1,h2⟩:=I.pu i d e;exact⟨v,h1,k _ ρ v H h (.refl _) (.refl _) h2⟩
 ·rename_i l e
  obtain⟨_,_,v,h1,h2⟩:=I.freeze e;exact⟨v,h1,k _ _ v H h (.set e) (.refl _) h2⟩
 ·exact h.elim
def b48 (ρ:Ev)(i:Nat)(Q:D->Ev->Prop):Prop:=match ρ[i]? with
 | some (some<|.pu d)=>Q d ρ
 | some (some<|.ow l)=>Q (.lst l) ρ
 | some (some<|.bo l)=>Q (.lst l) ρ
 | _=>False
def aS (i:Nat):UV:=λρ Q=>b48 ρ i Q
theorem pv_var (i:Nat){x:Str}{pos:Pos}(h:PE X (.Name x pos) (a26 i)):PUV X (.Name x pos) (aS i):=hZ h λσ H Q ⟨C,ρ,Q0,I,h,k⟩=>by
 unfold aS b48 at h;split at h
 ·rename_i d e
  obtain⟨v,h1,h2⟩:=I.pu i d e;exact⟨v,h1,k _ ρ v H h (.refl _) (.refl _) h2.one⟩
 ·rename_i l e
  obtain⟨a,vs,h1,h2,h3,h4⟩:=I.ow i l e;exact⟨_,h1,k _ ρ _ H h (.refl _) (.refl _) ⟨a,vs,rfl,h2,h4⟩⟩
 ·rename_i l e
  obtain⟨a,vs,h1,h2,h3,h4⟩:=I.bo i l e;exact⟨_,h1,k _ ρ _ H h (.refl _) (.refl _) ⟨a,vs,rfl,I.ext _ _ h3,h4⟩⟩
 ·exact h.elim
def uV (t:UE):UV:=λρ Q=>t ρ λb ρ1=>Q b.d ρ1
theorem EOk.avF {K:Frag}{C:C0}{ρ ρ':Ev}{σ:L2.St}{H:Hp}(I:EOk K C ρ σ H)(f:Frz ρ ρ'){a:Addr}(h:Av C ρ' σ a):H a≠none:=I.avSome (f.av h)
theorem bH1 (h:PU X e ta):PUV X e (uV ta):=hZ h λσ H Q ⟨C,ρ,Q0,I,h,k⟩=>
 ⟨C,ρ,_,I,h,λb ρ' v H' q f s r=>k b.d ρ' v H' q f s (r.rep λa z=>I.avF f z).one⟩
theorem b49 {x:Str}{v:V}{d:D}{pos:Pos}(h:PE X (.Name x pos) (tC v))(r: ∀A H,Rep X.K A H d v):PU X (.Name x pos) (uC d):=hZ h λσ H Q ⟨C,ρ,Q0,I,h,k⟩=>k _ ρ _ H h (.refl _) (.refl _) (r _ _)
def OpU (X:Cx)(f:Value->Value->Sem Value)(g:D->D->(B->Prop)->Prop):Prop:=
 ∀(A:AS) (H:Hp) (d e:D) (v w:V) (Q0:B->Prop) (Q:VK),(∀a,A a->H a≠none)->Rep X.K A H d v->Rep X.K A H e w->g d e Q0->
  (∀b v' H',Q0 b->gC H H'->pA X.K A H H' b v'->Q v' H')-> ∃r,OpR X f r/\r v w H Q
def uOp (g:D->D->(B->Prop)->Prop)(ta tb:UE):UE:=λρ Q=>ta ρ λx ρ1=>tb ρ1 λy ρ2=>g x.d y.d λb=>Q b ρ2
theorem bH2 {f:Value->Value->Sem Value}:OpR X f (λx y H Q=> ∃r,OpR X f r/\r x y H Q):=λpins s σ H x y v u Q I rx ry ⟨r,hr,q⟩=>hr pins s σ H x y v u Q I rx ry q
theorem pA.from {K:Frag}{A:AS}{H0 H H':Hp}(s:gC H0 H): ∀{b:B} {v:V},pA K A H H' b v->pA K A H0 H' b v
 | .pu _,_,h=>h
 | .ow _,_,⟨a,vs,e,n,h1,r⟩=>⟨a,vs,e,s.free n,h1,r⟩
 | .bo _,_,h=>h.elim
theorem lOp {f:Value->Value->Sem Value}{g:D->D->(B->Prop)->Prop}(ho:OpU X f g)(σ:L2.St)(H:Hp)(Q:VK)(h:lE X.K (uOp g ta tb) σ H Q) :
  tOp (λx y H Q=> ∃r,OpR X f r/\r x y H Q) (lE X.K ta) (lE X.K tb) σ H Q:=by
 obtain⟨C,ρ,Q0,I,h,k⟩:=h;refine⟨C,ρ,_,I,h,λx ρ1 v H1 q1 f1 s1 r1=> ?_⟩
 have I1:=(I.frz f1).same s1;refine⟨C,ρ1,_,I1,q1,λy ρ2 w H2 q2 f2 s2 r2=> ?_⟩
 have I2:=(I1.frz f2).same s2;have hA: ∀a,Av C ρ2 σ a->H2 a≠none:=λa z=>I2.avSome z
 refine ho (Av C ρ2 σ) H2 x.d y.d v w _ Q hA ((r1.rep λa z=>I.avF f1 z).mono<|.sub s2 λa=>f2.av) (r2.rep λa z=>I1.avF f2 z) q2 λb v' H' q s r=> ?_
 exact k b ρ2 v' H' q (f1.trans f2) (s1.trans<|s2.trans s) (r.from<|s1.trans s2)
theorem aH {op:Operator}{g:D->D->(B->Prop)->Prop}(ho:OpU X (binaryOp op) g)(ha:PU X a ta)(hb:PU X b tb):PU X (.BinOp a op b pos) (uOp g ta tb):=
 hZ (pe_op bH2 ha hb) (lOp ho)
theorem pu_cmp {op:CmpOp}{g:D->D->(B->Prop)->Prop}(ho:OpU X (compareOp op) g)(ha:PU X a ta)(hb:PU X b tb)(hm:behindInMarks op b=false):PU X (.Compare a [op] [b] pos) (uOp g ta tb):=
 hZ (bS6 bH2 ha hb hm) (lOp ho)
def isB (Q:Bool->Ev->Prop):B->Ev->Prop:=λb ρ=>match b with
 | .pu (.bl k)=>Q k ρ
 | _=>False
def cS (t:UE):UT:=λρ Q=>t ρ (isB Q)
theorem bH3 {t:UE}(σ:L2.St)(H:Hp)(Q:Bool->Hp->Prop)(h:lT X.K (cS t) σ H Q):lE X.K t σ H λx H'=> ∃k,x= .bl k/\Q k H':=by
 obtain⟨C,ρ,Q0,I,h,k⟩:=h;refine⟨C,ρ,_,I,h,λb ρ' v H' q f s r=> ?_⟩
 unfold isB at q;split at q
 ·rename_i k'
  refine⟨k',?_,k k' ρ' H' q f s⟩
  have r':Rep X.K (Av C ρ' σ) H' (.bl k') v:=r
  simpa only[Rep]using r'
 ·exact q.elim
theorem aR2 (h:PU X e ta)(he: ∀whole,isTrue e X.env whole=(do let v<-whole;standAt e.pos;holding [v] (truthy v)):=by intro _;rfl):PUT X e (cS ta):=
 aG6 (pt_val h he) bH3
theorem a49 {op:CmpOp}{g:D->D->(B->Prop)->Prop}(ho:OpU X (compareOp op) g)(ha:PU X a ta)(hb:PU X b tb)(hm:behindInMarks op b=false):PUT X (.Compare a [op] [b] pos) (cS<|uOp g ta tb):=
 aG6 (bS7 bH2 ha hb hm) λσ H Q h=>lOp ho σ H _ (bH3 σ H Q h)
def aD9 (t u:UT):UT:=λρ Q=>t ρ λc ρ1=>if c=true then u ρ1 Q else Q false ρ1
def uOr (t u:UT):UT:=λρ Q=>t ρ λc ρ1=>if c=true then Q true ρ1 else u ρ1 Q
def uNot (t:UT):UT:=λρ Q=>t ρ λc ρ1=>Q (!c) ρ1
variable {tA tB:UT}
theorem oO (ha:PUT X a tA):PUW X (.BoolOp .And [a] pos) tA:=bR9 ha
theorem y9 (ha:PUT X a tA):PUW X (.BoolOp .Or [a] pos) tA:=pw_or1 ha
theorem pE (ha:PUT X a tA)(hb:PUW X (.BoolOp .And (b::eH) pos) tB):PUW X (.BoolOp .And (a::b::eH) pos) (aD9 tA tB):=
 bZ7 (pw_and ha hb) λσ H Q ⟨C,ρ,Q0,I,h,k⟩=>⟨C,ρ,_,I,h,λc ρ1 H1 q f s=>by
  cases c with
  | true=>
   rw[a8 rfl]at q⊢;exact⟨C,ρ1,Q0,(I.frz f).same s,q,λb ρ2 H2 q2 f2 s2=>k b ρ2 H2 q2 (f.trans f2) (s.trans s2)⟩
  | false=>
   rw[a7 aY]at q⊢;exact k _ _ _ q f s⟩
theorem xB (ha:PUT X a tA)(hb:PUW X (.BoolOp .Or (b::eH) pos) tB):PUW X (.BoolOp .Or (a::b::eH) pos) (uOr tA tB):=
 bZ7 (pw_or ha hb) λσ H Q ⟨C,ρ,Q0,I,h,k⟩=>⟨C,ρ,_,I,h,λc ρ1 H1 q f s=>by
  cases c with
  | true=>
   rw[a8 rfl]at q⊢;exact k _ _ _ q f s
  | false=>
   rw[a7 aY]at q⊢;exact⟨C,ρ1,Q0,(I.frz f).same s,q,λb ρ2 H2 q2 f2 s2=>k b ρ2 H2 q2 (f.trans f2) (s.trans s2)⟩⟩
theorem PUW.pt (h:PUW X e tA):PUT X e tA:=PW.pt h
theorem bT5 (ha:PUT X a tA):PUT X (.UnaryOp .Not a pos) (uNot tA):=
 aG6 (pt_not ha) λσ H Q ⟨C,ρ,Q0,I,h,k⟩=>⟨C,ρ,_,I,h,λc ρ1 H1 q f s=>k _ ρ1 H1 q f s⟩
def bH4 (t u:UE):UE:=λρ Q=>t ρ λx ρ1=>isB (λc ρ1=>if c=true then u ρ1 Q else Q (.pu<|.bl false) ρ1) x ρ1
def uOrV (t u:UE):UE:=λρ Q=>t ρ λx ρ1=>isB (λc ρ1=>if c=true then Q (.pu<|.bl true) ρ1 else u ρ1 Q) x ρ1
theorem b50 {Q:Bool->Ev->Prop}{b:B}{ρ:Ev}{K:Frag}{A:AS}{H H':Hp}{v:V}(h:isB Q b ρ)(r:pA K A H H' b v): ∃k,v= .bl k/\Q k ρ:=by
 unfold isB at h;split at h
 ·rename_i k'
  have r':Rep K A H' (.bl k') v:=r;exact⟨k',by simpa only[Rep]using r',h⟩
 ·exact h.elim
theorem jA {K:Frag}{A:AS}{H H':Hp}{k:Bool}:pA K A H H' (.pu<|.bl k) (.bl k):=by
 show Rep K A H' (.bl k) (.bl k)
 simp only[Rep]
theorem bH5 {op}(h:PU X a ta):PU X (.BoolOp op [a] pos) ta:=pe_one h
theorem pu_and (ha:PU X a ta)(hb:PU X (.BoolOp .And (b::eH) pos) tb):PU X (.BoolOp .And (a::b::eH) pos) (bH4 ta tb):=
 hZ (pe_and ha hb) λσ H Q ⟨C,ρ,Q0,I,h,k⟩=>⟨C,ρ,_,I,h,λx ρ1 v H1 q f s r=>by
  obtain⟨c,rfl,q⟩:=b50 q r;refine⟨c,rfl,?_⟩;cases c with
  | true=>
   rw[a8 rfl]at q⊢;exact⟨C,ρ1,Q0,(I.frz f).same s,q,λb ρ2 v H2 q2 f2 s2 r2=>k b ρ2 v H2 q2 (f.trans f2) (s.trans s2) (r2.from s)⟩
  | false=>
   rw[a7 aY]at q⊢;exact k _ _ _ _ q f s jA⟩
theorem pu_or (ha:PU X a ta)(hb:PU X (.BoolOp .Or (b::eH) pos) tb):PU X (.BoolOp .Or (a::b::eH) pos) (uOrV ta tb):=
 hZ (pe_or ha hb) λσ H Q ⟨C,ρ,Q0,I,h,k⟩=>⟨C,ρ,_,I,h,λx ρ1 v H1 q f s r=>by
  obtain⟨c,rfl,q⟩:=b50 q r;refine⟨c,rfl,?_⟩;cases c with
  | true=>
   rw[a8 rfl]at q⊢;exact k _ _ _ _ q f s jA
  | false=>
   rw[a7 aY]at q⊢;exact⟨C,ρ1,Q0,(I.frz f).same s,q,λb ρ2 v H2 q2 f2 s2 r2=>k b ρ2 v H2 q2 (f.trans f2) (s.trans s2) (r2.from s)⟩⟩
def uIf (t:UT)(ta tb:UE):UE:=λρ Q=>t ρ λc ρ1=>if c=true then ta ρ1 Q else tb ρ1 Q
theorem u8 (hc:PUT X c tA)(ha:PU X a ta)(hb:PU X b tb):PU X (.IfExp c a b pos) (uIf tA ta tb):=
 hZ (bE7 hc ha hb) λσ H Q ⟨C,ρ,Q0,I,h,k⟩=>⟨C,ρ,_,I,h,λc ρ1 H1 q f s=>by
  have I1:=(I.frz f).same s;cases c with
  | true=>
   dsimp only at q⊢;rw[a8 rfl]at q⊢;exact⟨C,ρ1,Q0,I1,q,λb ρ2 v H2 q2 f2 s2 r2=>k b ρ2 v H2 q2 (f.trans f2) (s.trans s2) (r2.from s)⟩
  | false=>
   dsimp only at q⊢;rw[a7 aY]at q⊢;exact⟨C,ρ1,Q0,I1,q,λb ρ2 v H2 q2 f2 s2 r2=>k b ρ2 v H2 q2 (f.trans f2) (s.trans s2) (r2.from s)⟩⟩
def aL:UA:=λρ Q=>Q [] ρ
def aA (t:UE)(u:UA):UA:=λρ Q=>t ρ λx ρ1=>u ρ1 λxs ρ2=>Q (x.d::xs) ρ2
theorem aB:PUA X [] aL:=bZ6 aY3 λσ H Q ⟨C,ρ,Q0,I,h,k⟩=>k [] ρ [] H h (.refl _) (.refl _) .nil
theorem aG {t:UA}(ha:PU X e ta)(hr:PUA X es t)(hs:starEach (e::es) X.env=(false,eval e X.env)::starEach es X.env:=by rfl):PUA X (e::es) (aA ta t):=
 bZ6 (aL4 ha hr hs) λσ H Q ⟨C,ρ,Q0,I,h,k⟩=>⟨C,ρ,_,I,h,λx ρ1 v H1 q1 f1 s1 r1=>by
  have I1:=(I.frz f1).same s1;refine⟨C,ρ1,_,I1,q1,λxs ρ2 vs H2 q2 f2 s2 r2=> ?_⟩
  exact k _ ρ2 _ H2 q2 (f1.trans f2) (s1.trans s2) (.cons ((r1.rep λa z=>I.avF f1 z).mono<|.sub s2 λa=>f2.av) r2)⟩
def gD (t:UA):UE:=λρ Q=>t ρ λl ρ1=>l.length<=sizeLine/\Q (.pu<|.tup l) ρ1
def dO (t:UA):UE:=λρ Q=>t ρ λl ρ1=>l.length<=sizeLine/\Q (.ow l) ρ1
theorem cZ {H:Hp}{p:Addr}(h:H p=none)(o:HO):gC H (upd H p o):=λb u q=>by rw[dG<|fX q h];exact q
theorem i3 {K:Frag}{A:AS}{H:Hp}{p:Addr}{l:List D}{vs:List V}(hA: ∀a,A a->H a≠none)(n:H p=none)(r:bI K A H l vs):Rep K A (upd H p<|.tup vs) (.tup l) (.ref p):=by
 simp only[Rep];exact⟨p,vs,rfl,.inl ⟨λz=>hA p z n,.inl lZ⟩,r.mono<|.same<|cZ n _⟩
theorem eM {K:Frag}{A:AS}{H H0:Hp}{p:Addr}{l:List D}{vs:List V}(s:gC H0 H)(n:H p=none)(r:bI K A H l vs):pA K A H0 (upd H p<|.lst vs) (.ow l) (.ref p):=
 ⟨p,vs,rfl,s.free n,lZ,r.mono<|.fresh (cZ n _) n⟩
theorem c7 {t:UA}{x1}(h:PUA X es t):PU X (.Tuple es x1 pos) (gD t):=
 hZ (pe_tup h) λσ H Q ⟨C,ρ,Q0,I,h,k⟩=>⟨C,ρ,_,I,h,λl ρ1 vs H1 q f s r=>by
  obtain⟨hz,q⟩:=q;refine⟨by rw[<-r.length];exact hz,λp n=> ?_⟩
  have I1:=(I.frz f).same s;exact k _ ρ1 _ _ q f (s.trans<|cZ n _) (i3 (λa z=>I1.avSome z) n r)⟩
theorem bH {t:UA}(h:PUA X es t):PU X (.List es pos) (dO t):=
 hZ (pe_lst h) λσ H Q ⟨C,ρ,Q0,I,h,k⟩=>⟨C,ρ,_,I,h,λl ρ1 vs H1 q f s r=>by
  obtain⟨hz,q⟩:=q;refine⟨by rw[<-r.length];exact hz,λp n=> ?_⟩
  exact k _ ρ1 _ _ q f (s.trans<|cZ n _) (eM s n r)⟩
abbrev Φ:=List D->(B->Prop)->Prop
def spP (K:Frag)(φ:Φ):Sp:=λvs H Q _=> ∃A ds Q0,(∀a,A a->H a≠none)/\bI K A H ds vs/\φ ds Q0/\ ∀b v H',Q0 b->gC H H'->pA K A H H' b v->Q v H'
def aZ (φ:Φ)(t:UA):UE:=λρ Q=>t ρ λds ρ1=>φ ds λb=>Q b ρ1
theorem lCall {φ:Φ}{t:UA}{E:XK}(σ:L2.St)(H:Hp)(Q:VK)(h:lE X.K (aZ φ t) σ H Q):bF9 (spP X.K φ) [] E (lA X.K t) σ H Q:=by
 obtain⟨C,ρ,Q0,I,h,k⟩:=h;refine⟨C,ρ,_,I,h,λds ρ1 vs H1 q f s r=> ?_⟩
 have I1:=(I.frz f).same s;show spP X.K φ (vs++[]) H1 Q E;rw[wU];exact⟨Av C ρ1 σ,ds,_,λa z=>I1.avSome z,r,q,λb v H' q' s' r'=>k b ρ1 v H' q' f (s.trans s') (r'.from s)⟩
theorem bT6 {CX:CXT}{k:Nat}{f:Addr}{fd:FuncData}{ps:List Str}{φ:Φ}{E:XK}{x:Str}{p:Pos}{t:UA}(F:xA X.prog X.w X.K X.mg X.base CX k f fd ps (spP X.K φ))(hr:jS k X.A)(hg:Gl X x)(hm:X.mg x=some (.ref f))
  (hk:keepIn X.K (.ref f)=true) (hb:Binds X.K fd ps []) (hx:a65 CX X E) (ha:PUA X (e::es) t) (hdb:(x==("__debug__":Str))=false:=by decide) (he:starEach (e::es) X.env=(false,eval e X.env)::starEach es X.env:=by rfl)
  (hpl:(backTo pos<|starEach es X.env).any (·.1)=false:=by rfl):PU X (.Call (.Name x p) (e::es) [] pos) (aZ φ t):=
 hZ (bS9 F hr hg hm hk hb .nil hx ha hdb he hpl) lCall
theorem bH6 {CX:CXT}{k:Nat}{f:Addr}{fd:FuncData}{ps:List Str}{φ:Φ}{E:XK}{x:Str}{p:Pos}(F:xA X.prog X.w X.K X.mg X.base CX k f fd ps (spP X.K φ))(hr:jS k X.A)(hg:Gl X x)(hm:X.mg x=some (.ref f))
  (hk:keepIn X.K (.ref f)=true) (hb:Binds X.K fd ps []) (hx:a65 CX X E) (hdb:(x==("__debug__":Str))=false:=by decide):PU X (.Call (.Name x p) [] [] pos) (aZ φ aL):=
 hZ (bG1 F hr hg hm hk hb .nil hx hdb) λσ H Q ⟨C,ρ,Q0,I,h,k⟩=>⟨Av C ρ σ,[],_,λa z=>I.avSome z,.nil,h,λb v H' q' s' r'=>k b ρ v H' q' (.refl _) s' r'⟩
def qO (X:Cx)(f:Value)(g:List D->(B->Prop)->Prop):Prop:=
 ∀(A:AS) (H:Hp) (ds:List D) (vs:List V) (Q0:B->Prop) (Q:VK),(∀a,A a->H a≠none)->bI X.K A H ds vs->g ds Q0->
  (∀b v' H',Q0 b->gC H H'->pA X.K A H H' b v'->Q v' H')-> ∃r,m9 X f r/\r vs H Q
theorem callAny {f:Value}:m9 X f (λxs H Q=> ∃r,m9 X f r/\r xs H Q):=λpins s σ H xs us Q I rx ⟨r,hr,q⟩=>hr pins s σ H xs us Q I rx q
theorem lCB {f:Value}{g:List D->(B->Prop)->Prop}{t:UA}(hc:qO X f g)(σ:L2.St)(H:Hp)(Q:VK)(h:lE X.K (aZ g t) σ H Q):tCB (λxs H Q=> ∃r,m9 X f r/\r xs H Q) (lA X.K t) σ H Q:=by
 obtain⟨C,ρ,Q0,I,h,k⟩:=h;refine⟨C,ρ,_,I,h,λds ρ1 vs H1 q f s r=> ?_⟩
 have I1:=(I.frz f).same s;exact hc (Av C ρ1 σ) H1 ds vs _ Q (λa z=>I1.avSome z) r q λb v H' q' s' r'=>k b ρ1 v H' q' f (s.trans s') (r'.from s)
theorem gX {id:String}{g:List D->(B->Prop)->Prop}{x:Str}{p:Pos}{t:UA}(hc:qO X (.builtin id) g)(hg:Gl X x)(hm:X.mg x=none)(hv:bootBuiltins x=some (.builtin id))(ha:PUA X (e::es) t)(hn:x≠"__name__":=by decide)(hdb:(x==("__debug__":Str))=false:=by decide)
  (he:starEach (e::es) X.env=(false,eval e X.env)::starEach es X.env:=by rfl) (hpl:(backTo pos<|starEach es X.env).any (·.1)=false:=by rfl):PU X (.Call (.Name x p) (e::es) [] pos) (aZ g t):=
 hZ (aQ8 callAny hg hm hv ha hn hdb he hpl) (lCB hc)
theorem eU {T:String}{g:List D->(B->Prop)->Prop}{x:Str}{p:Pos}{t:UA}(hc:qO X (.type T) g)(hg:Gl X x)(hm:X.mg x=none)(hv:bootBuiltins x=some (.type T))(ha:PUA X (e::es) t)(hn:x≠"__name__":=by decide)(hdb:(x==("__debug__":Str))=false:=by decide)
  (he:starEach (e::es) X.env=(false,eval e X.env)::starEach es X.env:=by rfl) (hpl:(backTo pos<|starEach es X.env).any (·.1)=false:=by rfl):PU X (.Call (.Name x p) (e::es) [] pos) (aZ g t):=
 hZ (bB0 callAny hg hm hv ha hn hdb he hpl) (lCB hc)
end
structure UD where
 nx:Ev->Prop
 rt:B->Prop
 bk:Ev->Prop:=λ_=>False
 ct:Ev->Prop:=λ_=>False
abbrev US:=UD->Ev->Prop
structure DOk (K:Frag)(C:C0)(D0:UD)(D:aX7):Prop where
 nx: ∀ρ σ H,D0.nx ρ->EOk K C ρ σ H->D.nx σ H
 rt: ∀b v H,D0.rt b->gC C.H0 H->pA K C.A0 C.H0 H b v->D.rt v H
 bk: ∀ρ σ H,D0.bk ρ->EOk K C ρ σ H->D.bk σ H
 ct: ∀ρ σ H,D0.ct ρ->EOk K C ρ σ H->D.ct σ H
def lS (K:Frag)(t:US):TS:=λD σ H=> ∃C ρ D0,EOk K C ρ σ H/\t D0 ρ/\DOk K C D0 D
def PUS (X:Cx)(st:Stmt)(t:US):Prop:=PS X st (lS X.K t)
def pB (X:Cx)(sts:List Stmt)(t:US):Prop:=PSs X sts (lS X.K t)
theorem qP {X:Cx}{st:Stmt}{t t':TS}(h:PS X st t)(i: ∀D σ H,t' D σ H->t D σ H):PS X st t':=λpins s σ H D I q=>h pins s σ H D I (i D σ H q)
theorem a69 {X:Cx}{st:List Stmt}{t t':TS}(h:PSs X st t)(i: ∀D σ H,t' D σ H->t D σ H):PSs X st t':=λpins s σ H D I q=>h pins s σ H D I (i D σ H q)
section
variable {X:Cx}{st:Stmt}{sts:List Stmt}{e:Expr}{pos:Pos}{t u:US}{te:UE}{tc:UT}{K:Frag}
def dP:US:=λD ρ=>D.nx ρ
def aX (t u:US):US:=λD ρ=>t {D with nx:=u D} ρ
theorem us_nil:pB X [] dP:=a69 b40 λD σ H ⟨C,ρ,D0,I,h,k⟩=>k.nx ρ σ H h I
theorem cH (h1:PUS X st t)(h2:pB X sts u):pB X (st::sts) (aX t u):=
 a69 (a63 h1 h2) λD σ H ⟨C,ρ,D0,I,h,k⟩=>⟨C,ρ,{D0 with nx:=u D0},I,h,⟨λρ' σ' H' q I'=>⟨C,ρ',D0,I',q,k⟩,k.rt,k.bk,k.ct⟩⟩
theorem bX (h1:PUS X st t):pB X [st] t:=b41 h1
def fA (t:UE):US:=λD ρ=>t ρ λb _=>D.rt b
theorem pA.back {A A':AS}{H0 H H':Hp}(s:gC H0 H)(h: ∀a,A' a->A a): ∀{b:B} {v:V},pA K A H H' b v->pA K A' H0 H' b v
 | .pu _,_,r=>Rep.mono (.sub (.refl _) h) r
 | .ow _,_,⟨a,vs,e,n,h1,r⟩=>⟨a,vs,e,s.free n,h1,r.mono λb o nb q=>⟨λz=>nb (z.imp (h b) id),q⟩⟩
 | .bo _,_,r=>r.elim
theorem us_ret (he:PU X e te):PUS X (.Return (some e) pos) (fA te):=
 qP (bE8 he) λD σ H ⟨C,ρ,D0,I,h,k⟩=>⟨C,ρ,_,I,h,λb ρ' v H' q f s r=>k.rt b v H' q (I.ext.trans s) (r.back I.ext λa z=> .inl z)⟩
def tO (i:Nat):US:=λD ρ=>match ρ[i]? with
 | some (some<|.pu d)=>D.rt (.pu d)
 | some (some<|.ow l)=>D.rt (.ow l)
 | _=>False
theorem pG (i:Nat){x:Str}{p:Pos}(h:PE X (.Name x p) (a26 i)):PUS X (.Return (some<|.Name x p) pos) (tO i):=
 qP (bE8 h) λD σ H ⟨C,ρ,D0,I,h,k⟩=>by
  unfold tO at h;split at h
  ·rename_i d e
   obtain⟨v,h1,h2⟩:=I.pu i d e;exact⟨v,h1,k.rt _ v H h I.ext<|Rep.mono (.sub (.refl _) λa z=> .inl z) h2⟩
  ·rename_i l e
   obtain⟨a,vs,h1,h2,h3,h4⟩:=I.ow i l e;refine⟨_,h1,k.rt _ _ H h I.ext ⟨a,vs,rfl,h3,h2,h4.mono λb o nb q=>⟨λz=>nb (z.elim .inl λz=> .inr ?_),q⟩⟩⟩
   subst z;exact⟨i,l,e,h1⟩
  ·exact h.elim
def gT (c:UT)(t u:US):US:=λD ρ=>c ρ λb ρ1=>if b=true then t D ρ1 else u D ρ1
theorem bZ8 {c:Expr}{a b:List Stmt}(hc:PUT X c tc)(ha:pB X a t)(hb:pB X b u):PUS X (.If c a b pos) (gT tc t u):=
 qP (bZ3 hc ha hb) λD σ H ⟨C,ρ,D0,I,h,k⟩=>⟨C,ρ,_,I,h,λc ρ1 H1 q f s=>by
  have I1:=(I.frz f).same s;cases c with
  | true=>
   dsimp only at q⊢;rw[a8 rfl]at q⊢;exact⟨C,ρ1,D0,I1,q,k⟩
  | false=>
   dsimp only at q⊢;rw[a7 aY]at q⊢;exact⟨C,ρ1,D0,I1,q,k⟩⟩
theorem bH7:PUS X st (λ_ _=>False):=qP bE9 λD σ H ⟨C,ρ,D0,I,h,k⟩=>h
abbrev UG:=B->Ev->(Ev->Prop)->Prop
def lG (K:Frag)(T:List Nat)(g:UG):TG:=λv σ H Q=> ∃C ρ b H00 Q0,EOk K C ρ σ H00/\gC H00 H/\pA K (Av C ρ σ) H00 H b v/\g b ρ Q0/\ ∀ρ' σ' H',Q0 ρ'->EOk K C ρ' σ' H'->(∀j:Nat,j ∉ T->σ'[j]? =σ[j]?)->Q σ' H'
def PUG (X:Cx)(e:Expr)(T:List Nat)(g:UG):Prop:=PG X e (lG X.K T g)
theorem bH8 {t t':TG}(h:PG X e t)(i: ∀v σ H Q,t' v σ H Q->t v σ H Q):PG X e t':=λpins s σ H v u Q I r q=>h pins s σ H v u Q I r (i v σ H Q q)
def dX (i:Nat):UG:=λb ρ Q=>i<ρ.length/\Q (ρ.set i<|some b)
theorem yA (i:Nat)(h:PG X e (u7 i)):PUG X e [i] (dX i):=bH8 h λv σ H Q z=>by
 obtain⟨C,ρ,b,H00,Q0,I,s,r,⟨hi,q⟩,k⟩:=z;exact k _ _ _ q (I.store s r (by rw[<-I.len];exact hi)) λj hj=>get_set_ne λz=>hj (by simp[z])
abbrev UGs:=List D->Ev->(Ev->Prop)->Prop
def lGs (K:Frag)(T:List Nat)(g:UGs):TGs:=λvs σ H Q=> ∃C ρ ds Q0,EOk K C ρ σ H/\bI K (Av C ρ σ) H ds vs/\g ds ρ Q0/\ ∀ρ' σ' H',Q0 ρ'->EOk K C ρ' σ' H'->(∀j:Nat,j ∉ T->σ'[j]? =σ[j]?)->Q σ' H'
def bH9 (X:Cx)(es:List Expr)(T:List Nat)(g:UGs):Prop:=PGs X es (lGs X.K T g)
def jY:UGs:=λds ρ Q=>ds=[]/\Q ρ
theorem Av.store_pu {C:C0}{ρ:Ev}{σ:L2.St}{i:Nat}{d:D}{v:V}{a:Addr}(h:Av C (ρ.set i<|some<|.pu d) (σ.set i<|some v) a):Av C ρ σ a:=by
 rcases h with z| ⟨j,l,h1,h2⟩
 ·exact .inl z
 ·rcases aN h1 with⟨rfl,h3,_⟩| ⟨ne,h3⟩
  ·cases h3
  ·rw[get_set_ne ne]at h2;exact .inr ⟨j,l,h3,h2⟩
theorem bI0 {es:List Expr}{t t':TGs}(h:PGs X es t)(i: ∀v σ H Q,t' v σ H Q->t v σ H Q):PGs X es t':=λpins s σ H v u Q I r q=>h pins s σ H v u Q I r (i v σ H Q q)
theorem lY:bH9 X [] [] jY:=bI0 bS1 λvs σ H Q z=>by
 obtain⟨C,ρ,ds,Q0,I,r,⟨e,q⟩,k⟩:=z;subst e;exact⟨r.unnil,k ρ σ H q I λ_ _=>rfl⟩
def cV (i:Nat)(u:UGs):UGs:=λds ρ Q=>match ds with
 | d::r=>i<ρ.length/\u r (ρ.set i<|some<|.pu d) Q
 | []=>False
theorem dU {es:List Expr}{u:UGs}{T:List Nat}(i:Nat)(h1:PG X e (u7 i))(h2:bH9 X es T u)
  (hs:(assignEach (e::es) X.env).map (·.2)=assign e X.env::(assignEach es X.env).map (·.2):=by rfl):bH9 X (e::es) (i::T) (cV i u):=
 bI0 (bF1 h1 h2 hs) λvs σ H Q z=>by
  obtain⟨C,ρ,ds,Q0,I,r,g,k⟩:=z;cases ds with
  | nil=>exact(show False from g).elim
  | cons d dr=>
   obtain⟨hi,g⟩:i<ρ.length/\u dr (ρ.set i<|some<|.pu d) Q0:=g;obtain⟨v,vr,rfl,rv,rr⟩:=r.uncons;have I1:EOk X.K C (ρ.set i<|some<|.pu d) (σ.set i<|some v) H:=I.store (b:= .pu d) (.refl _) rv (by rw[<-I.len];exact hi)
   exact⟨v,vr,rfl,C,_,dr,Q0,I1,rr.mono<|.sub (.refl _) λa z=>Av.store_pu z,g,λρ' σ' H' q I' hT=>k ρ' σ' H' q I' λj hj=>(hT j λz=>hj (b6 _ z)).trans (get_set_ne λz=>hj (by simp[z]))⟩
def pH (u:UGs):UG:=λb ρ Q=>match b.d with
 | .tup ds=>u ds ρ Q
 | _=>False
theorem u9 {es:List Expr}{u:UGs}{T:List Nat}{n k:Nat}(hc:X.calm=true)(h:bH9 X es T u)(hu: ∀ds ρ Q,u ds ρ Q->ds.length=n)
  (hn:(assignEach es X.env).length=n:=by rfl) (hst:(assignEach es X.env).findIdx? (·.1)=none:=by rfl):PUG X (.Tuple es k pos) T (pH u):=
 bH8 (pg_tup hc h hn hst) λv σ H Q z=>by
  obtain⟨C,ρ,b,H00,Q0,I,s,r,g,k⟩:=z;have R:=r.rep λa z=>I.avSome z
  unfold pH at g;split at g
  ·rename_i ds e
   rw[e]at R;simp only[Rep]at R;obtain⟨a,vs,rfl,c,rs⟩:=R;exact⟨a,vs,rfl,c.imp bY id,by rw[<-rs.length];exact hu _ _ _ g,C,ρ,ds,Q0,I.same s,rs,g,k⟩
  ·exact g.elim
def aY8 (t:UE)(g:UG):US:=λD ρ=>t ρ λb ρ1=>g b ρ1 D.nx
theorem a70 {tg:Expr}{g:UG}{T:List Nat}(he:PU X e te)(hg:PUG X tg T g)(hs:swapsWithSole [tg] e pos.line X.env=pure false:=by rfl)(hw:swappedStores [tg] e X.env=pure none:=by rfl)
  (h1:(assignEach [tg] X.env).map (·.2)=[assign tg X.env]:=by rfl):PUS X (.Assign [tg] e pos) (aY8 te g):=
 qP (aX9 he hg hs hw h1) λD σ H ⟨C,ρ,D0,I,h,k⟩=>⟨C,ρ,_,I,h,λb ρ1 v H1 q f s r=>⟨C,ρ1,b,H,D0.nx,I.frz f,s,r,q,λρ' σ' H' q I' _=>k.nx ρ' σ' H' q I'⟩⟩
def cP (i:Nat)(t:UE):US:=λD ρ=>t ρ λb ρ1=>D.nx (ρ1.set i<|some b)
theorem us_set {x:Str}{pos':Pos}(i:Nat)(hN:X.N.Nodup)(hi:X.N[i]? =some x)(hx:Loc X.env.scope x)(he:PU X e te)(hs:swapsWith e (some<|.Name x pos') pos.line X.env=pure false:=by rfl)(hf:X.fn x=true\/X.env.scope.names.lookup x=some .local:=by walk_at "z")
  (hl: ∀pins σ H s,Inv X pins σ H s->i<σ.length:=by intro pins σ H s I;rw[I.len];decide):PUS X (.Assign [.Name x pos'] e pos) (cP i te):=by
 intro pins s σ H D I q;refine ps_set hN hi hx he hs hf pins s σ H D I ?_;obtain⟨C,ρ,D0,J,h,k⟩:=q;exact⟨C,ρ,_,J,h,λb ρ1 v H1 q f s1 r=>k.nx _ _ _ q ((J.frz f).store s1 r<|hl pins σ H s I)⟩
def IpU (X:Cx)(op:Operator)(g:D->D->(B->Prop)->Prop):Prop:=
 ∀(A:AS) (H:Hp) (d e:D) (v w:V) (Q0:B->Prop) (Q:VK),(∀a,A a->H a≠none)->Rep X.K A H d v->Rep X.K A H e w->g d e Q0->
  (∀b v' H',Q0 b->gC H H'->pA X.K A H H' b v'->Q v' H')-> ∃r,PIp X op r/\r v w H Q
theorem ipAny {op:Operator}:PIp X op (λx y H Q=> ∃r,PIp X op r/\r x y H Q):=λpins s σ H x y v u Q I rx ry ⟨r,hr,q⟩=>hr pins s σ H x y v u Q I rx ry q
def bB3 (i:Nat)(g:D->D->(B->Prop)->Prop)(te:UE):US:=λD ρ=>aR1 ρ i λx ρ0=>te ρ0 λy ρ1=>g x.d y.d λb=>D.nx (ρ1.set i<|some b)
theorem us_aug {x:Str}{pos':Pos}{op:Operator}{g:D->D->(B->Prop)->Prop}(i:Nat)(hN:X.N.Nodup)(hi:X.N[i]? =some x)(hx:Loc X.env.scope x)(he:PU X e te)(ho:IpU X op g)(hf:X.fn x=true\/X.env.scope.names.lookup x=some .local:=by walk_at "z")
  (hl: ∀pins σ H s,Inv X pins σ H s->i<σ.length:=by intro pins σ H s I;rw[I.len];decide):PUS X (.AugAssign (.Name x pos') op e pos) (bB3 i g te):=by
 intro pins s σ H D I q;refine ps_aug hN hi hx he ipAny hf pins s σ H D I ?_;obtain⟨C,ρ,D0,J,h,k⟩:=q;have go: ∀(d:M.D) (ρ0:Ev) (v:V),Frz ρ ρ0->σ[i]? =some (some v)->Rep X.K (Av C ρ0 σ) H d v->(te ρ0 λy ρ1=>g d y.d λb=>D0.nx (ρ1.set i<|some b))->
   tAug i (lE X.K te) (λx y H Q=> ∃r,PIp X op r/\r x y H Q) D σ H:=λd ρ0 v f0 h1 r0 h=>by
  have J0:=J.frz f0;refine⟨v,h1,C,ρ0,_,J0,h,λy ρ1 w H1 q1 f1 s1 r1=> ?_⟩
  have J1:=(J0.frz f1).same s1;refine ho (Av C ρ1 σ) H1 d y.d v w _ _ (λa z=>J1.avSome z) (r0.mono<|.sub s1 λa=>f1.av) (r1.rep λa z=>J0.avF f1 z) q1 λb v' H' q s r=> ?_
  exact k.nx _ _ _ q (J1.store s r<|hl pins σ _ _ I)
 unfold bB3 aR1 at h;split at h
 ·rename_i d e
  obtain⟨v,h1,h2⟩:=J.pu i d e;exact go d ρ v (.refl _) h1 h2 h
 ·rename_i l e
  obtain⟨_,_,v,h1,h2⟩:=J.freeze e;exact go (.lst l) _ v (.set e) h1 h2 h
 ·exact h.elim
def aY9 (c:UT)(tb:US):US:=λD ρ=> ∃W:Nat->Ev->Prop,(∃m,W m ρ)/\ ∀m ρ,W m ρ->
 c ρ λb ρ1=>if b=true then tb {D with nx:=λρ'=> ∃m',m'<m/\W m' ρ',ct:=λρ'=> ∃m',m'<m/\W m' ρ',bk:=D.nx} ρ1 else D.nx ρ1
theorem aR3 {c:Expr}{body:List Stmt}{tb:US}(hp:PassesOwn (model X.prog X.w) X.A X.env X.xe)(hc:PUT X c tc)(hb:pB X body tb):PUS X (.While c body [] pos) (aY9 tc tb):=
 qP (bF4 hp hc hb) λD σ H ⟨C,ρ,D0,I,⟨W,⟨m0,w0⟩,turn⟩,k⟩=>by
  refine⟨λm σ H=> ∃ρ,EOk X.K C ρ σ H/\W m ρ,⟨m0,ρ,I,w0⟩,?_⟩
  rintro m σ H ⟨ρ,I,w⟩;refine⟨C,ρ,_,I,turn m ρ w,λb ρ1 H1 q f s=> ?_⟩
  have I1:=(I.frz f).same s;cases b with
  | true=>
   dsimp only at q⊢;rw[a8 rfl]at q⊢;refine⟨λσ' H'=> ∃m',m'<m/\ ∃ρ',EOk X.K C ρ' σ' H'/\W m' ρ',λσ' H' z=>z,C,ρ1,_,I1,q,⟨?_,k.rt,k.nx,?_⟩⟩
   ·rintro ρ' σ' H' ⟨m',hm,w'⟩ I';exact⟨m',hm,ρ',I',w'⟩
   ·rintro ρ' σ' H' ⟨m',hm,w'⟩ I';exact⟨m',hm,ρ',I',w'⟩
  | false=>
   dsimp only at q⊢;rw[a7 aY]at q⊢;exact k.nx _ _ _ q I1
end
abbrev UI:=Ev->(Nat->(Nat->D)->Ev->Prop)->Prop
structure aM0 (K:Frag)(A:AS)(H:Hp)(J:It)(n:Nat)(it:Nat->D):Prop where
 go: ∀A' H' i,j9 A H A' H'->i<n->J.go i H'
 yld: ∀A' H' i x H'',j9 A H A' H'->(∀a,A' a->H' a≠none)->i<n->J.yld i H' x H''->gC H' H''/\Rep K A' H'' (it i) x
 stop: ∀A' H',j9 A H A' H'->J.stop n H'
def lI (K:Frag)(t:UI):TI:=λσ H R=> ∃C ρ Q0,EOk K C ρ σ H/\t ρ Q0/\
 ∀n it ρ' J H',Q0 n it ρ'->Frz ρ ρ'->gC H H'->aM0 K (Av C ρ' σ) H' J n it->R J H'
def PUI (X:Cx)(tg iter:Expr)(t:UI):Prop:=PI X tg iter (lI X.K t)
def jZ (ui:UI)(g:UG)(tb:US):US:=λD ρ=>ui ρ λn it ρ1=> ∃Pv:Nat->Ev->Prop,Pv 0 ρ1/\
 (∀i ρ,i<n->Pv i ρ->g (.pu<|it i) ρ λρ2=>tb {D with nx:=Pv (i+1),ct:=Pv (i+1),bk:=D.nx} ρ2)/\ ∀ρ,Pv n ρ->D.nx ρ
noncomputable def C0.rz (C:C0) (ρ:Ev) (σ:L2.St) (H:Hp):C0:=C.raise ρ σ H λ_=>Classical.propDecidable _
section
variable {X:Cx}{e:Expr}{pos:Pos}{te:UE}{K:Frag}{C:C0}{ρ ρ':Ev}{σ σ':L2.St}{H H':Hp}
theorem EOk.rz (I:EOk K C ρ σ H):EOk K (C.rz ρ σ H) ρ σ H/\gC C.H0 (C.rz ρ σ H).H0:=I.raise
theorem b51 (I':EOk K (C.rz ρ σ H) ρ' σ' H'):j9 (Av C ρ σ) H (Av (C.rz ρ σ H) ρ' σ') H':=λb o nb e=>by
 have e0:(C.rz ρ σ H).H0 b=some o:=by
  show @ite _ (Own ρ σ b) (Classical.propDecidable _) none (H b)=some o
  rw[a7 λz=>nb (.inr z)]
  exact e
 refine⟨?_,I'.ext b o e0⟩
 rintro(z| ⟨i,l,h1,h2⟩)
 ·exact nb (.inl z)
 ·obtain⟨a,vs,h3,h4,h5,_⟩:=I'.ow i l h1;rw[h2]at h3;cases h3;rw[e0]at h5;cases h5
theorem aZ0 {tg iter:Expr}{body:List Stmt}{ui:UI}{g:UG}{T:List Nat}{tb:US}(hp:PassesOwn (model X.prog X.w) X.A X.env X.xe)(hc:X.calm=true)(hi:PUI X tg iter ui)(hg:PUG X tg T g)(hb:pB X body tb)
  (hs: ∀x,foldedSetIterable iter X.env x=pure x:=by intro _;rfl):PUS X (.For tg iter body [] pos) (jZ ui g tb):=
 qP (ps_for hp hc hi hg hb hs) λD σ H ⟨C,ρ,D0,I,h,k⟩=>⟨C,ρ,_,I,h,λn it ρ1 J H1 q f s ok=>by
  obtain⟨Pv,p0,turn,fin⟩:=q;have I1:=(I.frz f).same s;obtain⟨Ir,sub⟩:=I1.rz;refine⟨λi m σ' H'=>m=n-i/\i<=n/\ ∃ρ',EOk X.K (C.rz ρ1 σ H1) ρ' σ' H'/\Pv i ρ',⟨n,rfl,cO _,ρ1,Ir,p0⟩,?_⟩
  rintro i m σ' H' ⟨rfl,hi,ρ',I',p'⟩;have P:=b51 I';have lo: ∀ρ2 σ2 H2,EOk X.K (C.rz ρ1 σ H1) ρ2 σ2 H2->EOk X.K C ρ2 σ2 H2:=λρ2 σ2 H2 J2=>J2.lower sub rfl I.a0
  by_cases hlt:i<n
  ·refine .inr ⟨ok.go _ _ i P hlt,λσ2 H2=> ∃ρ2,EOk X.K (C.rz ρ1 σ H1) ρ2 σ2 H2/\Pv (i+1) ρ2,λσ2 H2 z=>⟨n-(i+1),aa,rfl,hlt,z⟩,λx H2 y=> ?_⟩
   obtain⟨s2,r2⟩:=ok.yld _ _ i x H2 P (λa z=>I'.avSome z) hlt y
   refine⟨C.rz ρ1 σ H1,ρ',.pu<|it i,H',_,I',s2,r2,turn i ρ' hlt p',λρ2 σ2 H3 q I3 _=>⟨C.rz ρ1 σ H1,ρ2,_,I3,q,⟨?_,?_,?_,?_⟩⟩⟩
   ·exact λρ3 σ3 H4 q I4=>⟨ρ3,I4,q⟩
   ·exact λb v H4 q s4 r4=>k.rt b v H4 q (sub.trans s4) (r4.from sub)
   ·exact λρ3 σ3 H4 q I4=>k.nx ρ3 σ3 H4 q (lo _ _ _ I4)
   ·exact λρ3 σ3 H4 q I4=>⟨ρ3,I4,q⟩
  ·have e:i=n:=aa
   subst e;exact .inl ⟨ok.stop _ _ P,k.nx _ _ _ (fin ρ' p')<|lo _ _ _ I'⟩⟩
noncomputable def oP:D->Option (List D)
 | .tup l=>some l
 | .lst l=>some l
 | .rol l=>some l
 | _=>none
def oQ (t:UE):UI:=λρ Q=>t ρ λb ρ1=>match oP b.d with
 | some l=>Q l.length (λi=>l.getD i .non) ρ1
 | none=>False
theorem pi_any {l:Expr}{tl:TE}{tg:Expr}(hl:PE X l tl):PI X tg l (λσ H R=>tl σ H λx H1=> ∃a,x= .ref a/\((∃xs,SqL X.K H1 a xs/\R (Itl X.K a) H1)\/ ∃xs,SqT X.K H1 a xs/\R (Itt X.K a) H1)):=by
 intro pins s σ H R I h;refine thn (hl pins s σ H _ I h) λv s1 ⟨x,H1,I1,r1,q1⟩=> ?_
 obtain⟨a,e,q⟩:=q1;subst e;cases r1;rcases q with⟨xs,hq,q⟩| ⟨xs,hq,q⟩
 ·obtain⟨its,rv,p,hz⟩:=I1.list hq;refine o9 p.isList ?_;refine⟨s1.heap.objs.size,[s1.heap.objs.size],_,_,H1,rfl,I1.kept (t':=s1.toks) λb o e=>aO _ e,bA3 a _,⟨_,bK _ rfl,rfl,rfl⟩,λb hb=> ?_,q⟩
  have e:b=s1.heap.objs.size:=by simpa using hb
  subst e;exact I1.fpOk (aC _) (I1.hok.fresh<|aC _)
 ·obtain⟨its,rv,p,hz⟩:=I1.tuple hq;refine wpAny_pyIter_tuple (show s1.heap.IsTuple a its.toArray from p) ?_
  refine⟨s1.heap.objs.size,[s1.heap.objs.size],_,_,H1,rfl,I1.kept (t':=s1.toks) λb o e=>aO _ e,aY0 a _,⟨_,bK _ rfl,rfl,rfl⟩,λb hb=> ?_,q⟩
  have e:b=s1.heap.objs.size:=by simpa using hb
  subst e;exact I1.fpOk (aC _) (I1.hok.fresh<|aC _)
theorem yB {tg iter:Expr}{t t':TI}(h:PI X tg iter t)(i: ∀σ H R,t' σ H R->t σ H R):PI X tg iter t':=λpins s σ H R I q=>h pins s σ H R I (i σ H R q)
theorem aG7 {A:AS}{a:Addr}{vs:List V}{l:List D}(c:(¬A a/\Rd H a (.lst vs))\/KL K a vs)(r:bI K A H l vs):aM0 K A H (Itl K a) l.length (λi=>l.getD i .non):=by
 have sq: ∀A' H',j9 A H A' H'->SqL K H' a vs:=λA' H' P=>by
  rcases c with⟨n,c⟩|c
  ·exact .inl (Rd.pres P n c).2
  ·exact .inr c
 have get: ∀i,i<l.length-> ∃x,vs[i]? =some x/\Rep K A H (l.getD i .non) x:=λi hi=>r.get (by rw[aQ,bJ hi];rfl)
 refine⟨λA' H' i P hi=> ?_,λA' H' i x H'' P hA hi y=> ?_,λA' H' P=>⟨vs,sq _ _ P,by rw[r.length];exact aC _⟩⟩
 ·obtain⟨x,e,_⟩:=get i hi;exact⟨vs,x,sq _ _ P,e⟩
 ·obtain⟨x',e,r'⟩:=get i hi;obtain⟨rfl,y⟩:=y;have:=y vs (sq _ _ P);rw[e]at this;cases this;exact⟨.refl _,r'.mono P⟩
theorem bI1 {A:AS}{a:Addr}{vs:List V}{l:List D}(c:(¬A a/\Rd H a (.tup vs))\/KT K a vs)(r:bI K A H l vs):aM0 K A H (Itt K a) l.length (λi=>l.getD i .non):=by
 have sq: ∀A' H',j9 A H A' H'->SqT K H' a vs:=λA' H' P=>by
  rcases c with⟨n,c⟩|c
  ·exact .inl (Rd.pres P n c).2
  ·exact .inr c
 have get: ∀i,i<l.length-> ∃x,vs[i]? =some x/\Rep K A H (l.getD i .non) x:=λi hi=>r.get (by rw[aQ,bJ hi];rfl)
 refine⟨λA' H' i P hi=> ?_,λA' H' i x H'' P hA hi y=> ?_,λA' H' P=>⟨vs,sq _ _ P,by rw[r.length];exact aC _⟩⟩
 ·obtain⟨x,e,_⟩:=get i hi;exact⟨vs,x,sq _ _ P,e⟩
 ·obtain⟨x',e,r'⟩:=get i hi;obtain⟨rfl,y⟩:=y;have:=y vs (sq _ _ P);rw[e]at this;cases this;exact⟨.refl _,r'.mono P⟩
theorem oR {tg:Expr}(h:PU X e te):PUI X tg e (oQ te):=yB (pi_any h) λσ H R ⟨C,ρ,Q0,I,h,k⟩=>⟨C,ρ,_,I,h,λb ρ1 v H1 q f s r=>by
 have rr:=r.rep λa z=>I.avF f z
 generalize b.d=d at q rr;cases d with
 | tup l=>
  simp only[Rep]at rr;obtain⟨a,vs,rfl,c,rs⟩:=rr;exact⟨a,rfl,.inr ⟨vs,c.imp bY id,k _ _ ρ1 _ H1 q f s<|bI1 c rs⟩⟩
 | lst l=>
  simp only[Rep]at rr;obtain⟨a,vs,rfl,n,c,rs⟩:=rr;exact⟨a,rfl,.inl ⟨vs,.inl<|.inl c,k _ _ ρ1 _ H1 q f s<|aG7 (.inl ⟨n,.inl c⟩) rs⟩⟩
 | rol l=>
  simp only[Rep]at rr;obtain⟨a,vs,rfl,c,rs⟩:=rr;exact⟨a,rfl,.inl ⟨vs,c.imp bY id,k _ _ ρ1 _ H1 q f s<|aG7 c rs⟩⟩
 | _=>exact(show False from q).elim⟩
theorem a71 {A:AS}{lo:Int}{n:Nat}:aM0 K A H (Itr lo n) n (λi=> .int (lo+i)):=
 ⟨λ_ _ _ _ h=>h,λ_ _ i x H'' _ _ _ ⟨e,y⟩=>by subst e;subst y;exact⟨.refl _,by simp only[Rep]⟩,λ_ _ _=>aC n⟩
def kJ (ta:UA):UI:=λρ Q=>ta ρ λds ρ1=>match ds with
 | [.int j]=>(-(2^62)<=j/\j<2^62)/\Q j.toNat (λi=> .int (0+i)) ρ1
 | _=>False
def aG8 (ta:UA):UI:=λρ Q=>ta ρ λds ρ1=>match ds with
 | [.int i,.int j]=>(-(2^62)<=i/\i<2^62/\ -(2^62)<=j/\j<2^62)/\Q (j-i).toNat (λk=> .int (i+k)) ρ1
 | _=>False
theorem bF {A:AS}{i:Int}{v:V}(h:Rep K A H (.int i) v):v= .int i:=by simpa only[Rep]using h
theorem fE {tg a:Expr}{ta:UA}{p:Pos}(hg:Gl X "range")(hm:X.mg "range"=none)(ha:PUA X [a] ta)(hs:starEach [a] X.env=[(false,eval a X.env)]:=by rfl):PUI X tg (.Call (.Name "range" p) [a] [] pos) (kJ ta):=
 yB (bA4 hg hm ha hs) λσ H R ⟨C,ρ,Q0,I,h,k⟩=>⟨C,ρ,_,I,h,λds ρ1 vs H1 q f s r=>by
  split at q
  ·rename_i j
   obtain⟨v,vr,rfl,rv,rr⟩:=r.uncons;have:=rr.unnil;subst this;have:=bF rv;subst this;obtain⟨⟨h1,h2⟩,q⟩:=q;exact⟨j,rfl,h1,h2,k _ _ ρ1 _ H1 q f s a71⟩
  ·exact q.elim⟩
theorem vC {tg a b:Expr}{ta:UA}{p:Pos}(hg:Gl X "range")(hm:X.mg "range"=none)(ha:PUA X [a,b] ta)(hs:starEach [a,b] X.env=[(false,eval a X.env),(false,eval b X.env)]:=by rfl)(hs2:starEach [b] X.env=[(false,eval b X.env)]:=by rfl) :
  PUI X tg (.Call (.Name "range" p) [a,b] [] pos) (aG8 ta):=
 yB (bA5 hg hm ha hs hs2) λσ H R ⟨C,ρ,Q0,I,h,k⟩=>⟨C,ρ,_,I,h,λds ρ1 vs H1 q f s r=>by
  split at q
  ·rename_i i j
   obtain⟨v,vr,rfl,rv,rr⟩:=r.uncons;obtain⟨w,wr,rfl,rw',rr'⟩:=rr.uncons;have:=rr'.unnil;subst this;have:=bF rv;subst this;have:=bF rw';subst this;obtain⟨hb,q⟩:=q;exact⟨i,j,rfl,hb,k _ _ ρ1 _ H1 q f s a71⟩
  ·exact q.elim⟩
end
section
variable {X:Cx}{a b e o:Expr}{es:List Expr}{pos:Pos}{ta tb te ti:UE}{K:Frag}{C:C0}{ρ ρ':Ev}{σ σ':L2.St}{H H':Hp}{A:AS}
theorem Frz.ow {i:Nat}{l:List D}(f:Frz ρ ρ')(h:ρ'[i]? =some (some<|.ow l)):ρ[i]? =some (some<|.ow l):=by
 rcases f.2 i with q| ⟨l',_,q⟩
 ·exact q▸h
 ·rw[q]at h;cases h
def kK (ρ:Ev)(i:Nat)(Q:List D->Prop):Prop:=match ρ[i]? with
 | some (some<|.ow l)=>Q l
 | _=>False
theorem j2 {i:Nat}{Q:List D->Prop}(h:kK ρ i Q): ∃l,ρ[i]? =some (some<|.ow l)/\Q l:=by
 unfold kK at h;split at h
 ·rename_i l e
  exact⟨l,e,h⟩
 ·exact h.elim
def zR (i:Nat)(t:UE):US:=λD ρ=>kK ρ i λ_=>t ρ λb ρ1=>kK ρ1 i λl=>l.length<sizeLine/\D.nx (ρ1.set i<|some<|.ow<|l++[b.d])
theorem j3 {x:Str}{p apos cpos:Pos}(i:Nat)(hx:PE X (.Name x p) (a26 i))(he:PU X e te)
  (hbase:attributeBase (.Name x p) "append" X.env (eval (.Name x p) X.env)=eval (.Name x p) X.env:=by rfl)
  (hfew:((backTo cpos<|starEach [e] X.env).all (λx=> !x.1)&&(backToKw cpos<|keywordEach [] X.env).all (λx=>x.1.isSome)
   &&decide ([e].length+([]:List Keyword).length+(if([]:List Keyword).isEmpty then 0 else 1)<30))=true:=by rfl)
  (hline:(apos.endLine==cpos.line)=true:=by rfl) (hs:starEach [e] X.env=(false,eval e X.env)::starEach [] X.env:=by rfl) (hplain:(backTo cpos<|starEach [] X.env).any (·.1)=false:=by rfl)
  (hw:swapsWith (.Call (.Attribute (.Name x p) "append" apos) [e] [] cpos) none pos.line X.env=pure false:=by rfl) :
  PUS X (.Expr (.Call (.Attribute (.Name x p) "append" apos) [e] [] cpos) pos) (zR i te):=
 qP (bS0 (pe_bm PySem.F.plainAttrs_list PySem.F.slot_list_append PySem.F.type_list_append aG4 hx (aL4 he aY3 hs) hbase hfew hline hs hplain) hw) λD σ H ⟨C,ρ,D0,I,h,k⟩=>by
  obtain⟨l,hl,h⟩:=j2 h;obtain⟨a,vs,h1,h2,h3,h4⟩:=I.ow i l hl;refine⟨.ref a,h1,.inl ⟨rfl,vs,SqL.of h2⟩,C,ρ,_,I,h,λb ρ1 v H1 q f s r=> ?_⟩
  obtain⟨l',hl',hz,q⟩:=j2 q;have e:=f.ow hl';rw[hl]at e;cases e;have I1:=(I.frz f).same s;obtain⟨a',vs',g1,g2,g3,g4⟩:=I1.ow i l hl';rw[h1]at g1;cases g1;refine⟨a,vs',v,rfl,rfl,g2,by rw[<-g4.length];exact hz,k.nx _ _ _ q ?_⟩
  exact I1.write hl' h1 (g4.append<|.cons (r.rep λa z=>I.avF f z) .nil)
def aG9 (i:Nat)(t ti:UE):US:=λD ρ=>t ρ λb ρ1=>kK ρ1 i λ_=>ti ρ1 λj ρ2=>kK ρ2 i λl=>match j.d with
 | .int k=>(match ixN l.length k with
  | some n=>D.nx (ρ2.set i<|some<|.ow<|l.set n b.d)
  | none=>False)
 | _=>False
theorem sR {x:Str}{p tpos:Pos}{ix:Expr}(i:Nat)(hx:PE X (.Name x p) (a26 i))(he:PU X e te)(hi:PU X ix ti)
  (ha: ∀v,assign (.Subscript (.Name x p) ix tpos) X.env v=(do
   let ov<-holding [v] (eval (.Name x p) X.env)
   let iv<-holding [v,ov] (eval ix X.env)
   standAt tpos
   holding [v,ov,iv] (setItem ov iv v)
   release [v,ov,iv] []):=by intro _;rfl)
  (hs:swapsWithSole [.Subscript (.Name x p) ix tpos] e pos.line X.env=pure false:=by rfl) (hw:swappedStores [.Subscript (.Name x p) ix tpos] e X.env=pure none:=by rfl)
  (h1:(assignEach [.Subscript (.Name x p) ix tpos] X.env).map (·.2)=[assign (.Subscript (.Name x p) ix tpos) X.env]:=by rfl):PUS X (.Assign [.Subscript (.Name x p) ix tpos] e pos) (aG9 i te ti):=
 qP (aX9 he (bF2 hx hi a67 ha) hs hw h1) λD σ H ⟨C,ρ,D0,I,h,k⟩=>⟨C,ρ,_,I,h,λb ρ1 v H1 q f s r=>by
  obtain⟨l,hl,q⟩:=j2 q;have I1:=(I.frz f).same s;obtain⟨a,vs,h1,h2,h3,h4⟩:=I1.ow i l hl;refine⟨.ref a,h1,C,ρ1,_,I1,q,λj ρ2 w H2 q2 f2 s2 r2=> ?_⟩
  obtain⟨l',hl',q2⟩:=j2 q2;have e:=f2.ow hl';rw[hl]at e;cases e;have I2:=(I1.frz f2).same s2;obtain⟨a',vs',g1,g2,g3,g4⟩:=I2.ow i l hl';rw[h1]at g1;cases g1;have rj:=r2.rep λa z=>I1.avF f2 z
  generalize j.d=dj at q2 rj;split at q2
  ·rename_i kk
   have:=bF rj;subst this;split at q2
   ·rename_i n hn
    refine⟨a,vs',kk,n,rfl,rfl,g2,by rw[<-g4.length];exact hn,k.nx _ _ _ q2 ?_⟩
    exact I2.write hl' h1 (g4.set n<|(r.rep λa z=>I.avF f z).mono<|.sub s2 λa=>f2.av)
   ·exact q2.elim
  ·exact q2.elim⟩
def gIx (d i:D)(Q:D->Prop):Prop:=match oP d,i with
 | some l,.int k=>(match atI l k with
  | some x=>Q x
  | none=>False)
 | _,_=>False
def uIx (t:UV)(ti:UE):UE:=λρ Q=>t ρ λd ρ1=>ti ρ1 λi ρ2=>gIx d i.d λx=>Q (.pu x) ρ2
theorem bI.atI {l:List D}{vs:List V}{k:Int}{x:D}(r:bI K A H l vs)(h:atI l k=some x): ∃v,L2.atI vs k=some v/\Rep K A H x v:=by
 unfold L2.atI at h⊢;cases e:ixN l.length k with
 | none=>rw[e]at h;cases h
 | some j=>
  rw[e]at h;rw[<-r.length,e];exact r.get h
theorem aY7.mono {A':AS}(s:gC H H')(h: ∀a,A' a->A a): ∀{d:D} {v:V},aY7 K A H d v->aY7 K A' H' d v
 | .non,_,r=>Rep.mono (.sub s h) r
 | .bl _,_,r=>Rep.mono (.sub s h) r
 | .int _,_,r=>Rep.mono (.sub s h) r
 | .str _,_,r=>Rep.mono (.sub s h) r
 | .ty _,_,r=>Rep.mono (.sub s h) r
 | .tup _,_,⟨a,vs,e,c,r⟩=>⟨a,vs,e,c.imp (λc=>c.imp (s _ _) λ⟨o,z⟩=>⟨o,s _ _ z⟩) id,r.mono<|.sub s h⟩
 | .lst _,_,⟨a,vs,e,c,r⟩=>⟨a,vs,e,s _ _ c,r.mono<|.sub s h⟩
 | .rol _,_,⟨a,vs,e,c,r⟩=>⟨a,vs,e,s.seq c,r.mono<|.sub s h⟩
 | .obj _ _ _,_,r=>Rep.mono (.sub s h) r
 | .adr _,_,r=>Rep.mono (.sub s h) r
 | .xob _ _ _ _,_,r=>Rep.mono (.sub s h) r
theorem aY7.seq {d:D}{v:V}{l:List D}(r:aY7 K A H d v)(h:oP d=some l): ∃a vs,v= .ref a/\(SqL K H a vs\/SqT K H a vs)/\bI K A H l vs:=by
 cases d with
 | tup l'=>cases h;obtain⟨a,vs,e,c,r⟩:=r;exact⟨a,vs,e,.inr c,r⟩
 | lst l'=>cases h;obtain⟨a,vs,e,c,r⟩:=r;exact⟨a,vs,e,.inl<|SqL.of c,r⟩
 | rol l'=>cases h;obtain⟨a,vs,e,c,r⟩:=r;exact⟨a,vs,e,.inl c,r⟩
 | _=>cases h
theorem bT7 {d i:D}{Q:D->Prop}(h:gIx d i Q): ∃l k x,oP d=some l/\i= .int k/\atI l k=some x/\Q x:=by
 unfold gIx at h;split at h
 ·rename_i l k e
  split at h
  ·rename_i x ex
   exact⟨l,k,x,e,rfl,ex,h⟩
  ·exact h.elim
 ·exact h.elim
theorem pu_ix {t:UV}(ha:PUV X a t)(hb:PU X b ti)(hs:a48 b):PU X (.Subscript a b pos) (uIx t ti):=
 hZ (bZ5 ix_seq ha hb hs) λσ H Q ⟨C,ρ,Q0,I,h,k⟩=>⟨C,ρ,_,I,h,λd ρ1 v H1 q f s r=>by
  have I1:=(I.frz f).same s;refine⟨C,ρ1,_,I1,q,λi ρ2 w H2 q2 f2 s2 r2=> ?_⟩
  obtain⟨l,kk,x,e1,e2,e3,q2⟩:=bT7 q2;have ri:=r2.rep λa z=>I1.avF f2 z
  rw[e2]at ri;have:=bF ri;subst this;obtain⟨a,vs,rfl,c,rs⟩:=(r.mono (A':=Av C ρ2 σ) s2 λa=>f2.av).seq e1
  obtain⟨u,e4,r4⟩:=rs.atI e3;have fin:=k (.pu x) ρ2 u H2 q2 (f.trans f2) (s.trans s2) r4;rcases c with c|c
  ·exact .inl ⟨a,vs,kk,u,rfl,rfl,c,e4,fin⟩
  ·exact .inr (.inl ⟨a,vs,kk,u,rfl,rfl,c,e4,fin⟩)⟩
abbrev UO:=Ev->(Option Int->Ev->Prop)->Prop
def lO (K:Frag)(t:UO):TO:=λσ H Q=> ∃C ρ Q0,EOk K C ρ σ H/\t ρ Q0/\ ∀i ρ' H',Q0 i ρ'->Frz ρ ρ'->gC H H'->Q i H'
def PUO (X:Cx)(e:Option Expr)(t:UO):Prop:=PO X e (lO X.K t)
theorem bZ9 {e:Option Expr}{t t':TO}(h:PO X e t)(i: ∀σ H Q,t' σ H Q->t σ H Q):PO X e t':=λpins s σ H Q I q=>h pins s σ H Q I (i σ H Q q)
def eI:UO:=λρ Q=>Q none ρ
def iU (t:UE):UO:=λρ Q=>t ρ λb ρ1=>match b.d with
 | .int i=>Q (some i) ρ1
 | _=>False
theorem dH:PUO X none eI:=bZ9 bT1 λσ H Q ⟨C,ρ,Q0,I,h,k⟩=>k _ _ _ h (.refl _) (.refl _)
theorem dI (h:PU X e te):PUO X (some e) (iU te):=bZ9 (b44 h) λσ H Q ⟨C,ρ,Q0,I,h,k⟩=>⟨C,ρ,_,I,h,λb ρ1 v H1 q f s r=>by
 have r':=r.rep λa z=>I.avF f z
 generalize b.d=d at q r';split at q
 ·exact⟨_,bF r',k _ _ _ q f s⟩
 ·exact q.elim⟩
noncomputable def cutD (l:List D)(lo hi:Option Int):List D:=(l.drop<|HT.sIx l.length 0 lo).take (HT.sIx l.length l.length hi-HT.sIx l.length 0 lo)
theorem bI.cut {l:List D}{vs:List V}(r:bI K A H l vs)(lo hi:Option Int):bI K A H (cutD l lo hi) (aR0 vs lo hi):=by
 unfold cutD aR0;rw[r.length];exact(r.drop _).take _
def gSl (d:D)(lo hi:Option Int)(Q:B->Prop):Prop:=match d with
 | .tup l=> ¬(HT.sIx l.length 0 lo=0/\HT.sIx l.length l.length hi=l.length)/\Q (.pu<|.tup<|cutD l lo hi)
 | .lst l=>Q (.ow<|cutD l lo hi)
 | .rol l=>Q (.ow<|cutD l lo hi)
 | _=>False
def uSl (t:UV)(tl th:UO):UE:=λρ Q=>t ρ λd ρ1=>tl ρ1 λlo ρ2=>th ρ2 λhi ρ3=>gSl d lo hi λb=>Q b ρ3
theorem fY {t:UV}{tl th:UO}{lo hi:Option Expr}{p2:Pos}(he:PUV X e t)(hl:PUO X lo tl)(hu:PUO X hi th):PU X (.Subscript e (.Slice lo hi none p2) pos) (uSl t tl th):=
 hZ (aQ9 (b47.or bG3) he hl hu) λσ H Q ⟨C,ρ,Q0,I,h,k⟩=>⟨C,ρ,_,I,h,λd ρ1 v H1 q f s r=>by
  have I1:=(I.frz f).same s;refine⟨C,ρ1,_,I1,q,λl2 ρ2 H2 q2 f2 s2=> ?_⟩
  have I2:=(I1.frz f2).same s2;refine⟨C,ρ2,_,I2,q2,λh3 ρ3 H3 q3 f3 s3=> ?_⟩
  have I3:=(I2.frz f3).same s3;have s13:=s2.trans s3;have sAll:=s.trans s13;have fAll:=f.trans (f2.trans f3);have r':=r.mono (A':=Av C ρ3 σ) s13 λa z=>f2.av (f3.av z)
  cases d with
  | tup l=>
   obtain⟨hw,q3⟩:=q3;obtain⟨a,vs,rfl,c,rs⟩:=r';exact .inr ⟨a,vs,rfl,c,by rw[<-rs.length];exact hw,λp n=>k _ ρ3 _ _ q3 fAll (sAll.trans<|cZ n _) (i3 (λa z=>I3.avSome z) n<|rs.cut l2 h3)⟩
  | lst l=>
   obtain⟨a,vs,rfl,c,rs⟩:=r';exact .inl ⟨a,vs,rfl,SqL.of c,λp n=>k _ ρ3 _ _ q3 fAll (sAll.trans<|cZ n _) (eM sAll n<|rs.cut l2 h3)⟩
  | rol l=>
   obtain⟨a,vs,rfl,c,rs⟩:=r';exact .inl ⟨a,vs,rfl,c,λp n=>k _ ρ3 _ _ q3 fAll (sAll.trans<|cZ n _) (eM sAll n<|rs.cut l2 h3)⟩
  | _=>exact(show False from q3).elim⟩
def Sm (i:Int):Prop:=i.natAbs<2^9000
theorem Sm.log {i:Int}(h:Sm i):i.natAbs.log2<9000:=by
 by_cases z:i.natAbs=0
 ·rw[z];decide
 ·exact(Nat.log2_lt z).mpr h
def dJ (d e:D)(Q:B->Prop):Prop:=match d,e with
 | .int i,.int j=>Q (.pu<|.int<|i+j)
 | .lst l,.lst m=>l.length+m.length<=sizeLine/\Q (.ow<|l++m)
 | .tup l,.tup m=>l.length+m.length<=sizeLine/\Q (.pu<|.tup<|l++m)
 | _,_=>False
theorem bI2:OpR X (binaryOp .Add) (λx y H Q=> ∃a b ys,x= .ref a/\y= .ref b/\SqT X.K H a []/\SqT X.K H b ys/\Q (.ref b) H):=by
 intro pins s σ H x y v u Q I rx ry h;obtain⟨a,b,ys,rfl,rfl,ha,hb,q⟩:=h;cases rx;cases ry;obtain⟨its,r1,p1,_⟩:=I.tuple ha;obtain⟨its2,r2,p2,_⟩:=I.tuple hb;have e:its=[]:=by
  have:=r1.length;exact rD.mp this.symm
 subst e;obtain⟨⟨cls,dd,data,sl⟩,ho,hc,n,hd⟩:=id p1;obtain⟨⟨cls2,dd2,data2,sl2⟩,ho2,hc2,n2,hd2⟩:=id p2;simp only at hc hd hc2 hd2;subst hc hd hc2 hd2;exact concat_meets ⟨_,ho,rfl⟩ ⟨_,ho2,rfl⟩ wQ seq_tuple_add wG wC (wA _ _) (tuple_addW0 a b _ its2.toArray n n2 dd dd2 sl sl2 rfl) ⟨ho,ho2,⟨.ref b,H,I,rfl,q⟩⟩
theorem xC {i:Int}:pA K A H H' (.pu<|.int i) (.int i):=by
 show Rep K A H' (.int i) (.int i)
 simp only[Rep]
theorem bE:OpU X (binaryOp .Add) dJ:=by
 intro A H d e v w Q0 Q hA r1 r2 g k;unfold dJ at g;split at g
 ·rename_i i j
  exact⟨_,op_add,i,j,bF r1,bF r2,k _ _ H g (.refl _) xC⟩
 ·rename_i l m
  simp only[Rep]at r1 r2;obtain⟨a,vs,rfl,n1,c1,rs1⟩:=r1;obtain⟨b,ws,rfl,n2,c2,rs2⟩:=r2;exact⟨_,op_cat,a,b,vs,ws,rfl,rfl,c1,c2,by rw[<-rs1.length,<-rs2.length];exact g.1,λp n=>k _ _ _ g.2 (cZ n _) (eM (.refl _) n<|rs1.append rs2)⟩
 ·rename_i l m
  simp only[Rep]at r1 r2;obtain⟨a,vs,rfl,c1,rs1⟩:=r1;obtain⟨b,ws,rfl,c2,rs2⟩:=r2;obtain⟨hz,g⟩:=g
  by_cases hn:l=[]
  ·subst hn;have e1:vs=[]:=rs1.unnil;subst e1;refine⟨_,bI2,a,b,ws,rfl,rfl,c1.imp bY id,c2.imp bY id,k _ _ H g (.refl _) ?_⟩;show Rep X.K A H (.tup m) (.ref b);simp only[Rep];exact⟨b,ws,rfl,c2,rs2⟩
  refine⟨_,bT2,a,b,vs,ws,rfl,rfl,c1.imp bY id,c2.imp bY id,λz=>hn ?_,by rw[<-rs1.length,<-rs2.length];exact hz,λz=> ?_,λz p n=> ?_⟩
  ·have:=rs1.length;rw[z]at this;exact rD.mp this
  ·have e2:=rs2.length;rw[z]at e2;have e3:m=[]:=rD.mp e2;subst e3;rw[wU]at g;refine k _ _ H g (.refl _) ?_;show Rep X.K A H (.tup l) (.ref a);simp only[Rep];exact⟨a,vs,rfl,c1,rs1⟩
  ·exact k _ _ _ g (cZ n _) (i3 hA n<|rs1.append rs2)
 ·exact g.elim
def gI2 (f:Int->Int->(B->Prop)->Prop)(d e:D)(Q:B->Prop):Prop:=match d,e with
 | .int i,.int j=>f i j Q
 | _,_=>False
theorem nO {f:Int->Int->(B->Prop)->Prop}{d e:D}{Q:B->Prop}(h:gI2 f d e Q): ∃i j,d= .int i/\e= .int j/\f i j Q:=by
 unfold gI2 at h;split at h
 ·exact⟨_,_,rfl,rfl,h⟩
 ·exact h.elim
def gSub:D->D->(B->Prop)->Prop:=gI2 λi j Q=>Q (.pu<|.int<|i-j)
theorem iC:OpU X (binaryOp .Sub) gSub:=by
 intro A H d e v w Q0 Q hA r1 r2 g k;obtain⟨i,j,rfl,rfl,g⟩:=nO g;exact⟨_,op_sub,i,j,bF r1,bF r2,k _ _ H g (.refl _) xC⟩
theorem b52 {i:Int}(h:Sm i):Builtin.Int.intBits i<=2^20:=aV (PyProof.Rows.intBits_le h) ac
def iV (d e:D)(Q:B->Prop):Prop:=match d,e with
 | .int i,.int j=>(aY2 i j\/(Sm i/\Sm j))/\Q (.pu<|.int<|i*j)
 | .lst l,.int k=>(-(2^63)<=k/\k<2^63/\l.length*k.toNat<=sizeLine)/\Q (.ow (replicate k.toNat l).flatten)
 | _,_=>False
theorem bT8:OpR X (binaryOp .Mult) (rI (λi j=>aY2 i j\/(Sm i/\Sm j)) λi j=> .int (i*j)):=opI λ_ _ _ _ _ _ _ hc q=>mul_int q (hc.elim aY2.ok λh=> .of_bits (b52 h.1) (b52 h.2))
theorem dM:OpU X (binaryOp .Mult) iV:=by
 intro A H d e v w Q0 Q hA r1 r2 g k;unfold iV at g;split at g
 ·rename_i i j
  exact⟨_,bT8,i,j,bF r1,bF r2,g.1,k _ _ H g.2 (.refl _) xC⟩
 ·rename_i l kk
  have:=bF r2;subst this;simp only[Rep]at r1;obtain⟨a,vs,rfl,n1,c1,rs1⟩:=r1;obtain⟨⟨h1,h2,h3⟩,g⟩:=g;exact⟨_,op_rep,a,kk,vs,rfl,rfl,c1,h1,h2,by rw[<-rs1.length];exact h3,λp n=>k _ _ _ g (cZ n _) (eM (.refl _) n<|rs1.rep _)⟩
 ·exact g.elim
def bI3:D->D->(B->Prop)->Prop:=gI2 λi j Q=>(j≠0/\Sm j)/\Q (.pu<|.int<|i.fdiv j)
def gI:D->D->(B->Prop)->Prop:=gI2 λi j Q=>j≠0/\Q (.pu<|.int<|i.fmod j)
theorem bT9:OpR X (binaryOp .FloorDiv) (rI (λ_ j=>j≠0/\Sm j) λi j=> .int (i.fdiv j)):=opI λ_ _ _ _ _ _ _ hc q=>floordiv_int hc.1 q (.inl<|PyProof.noPylong_of_log2 hc.2.log)
theorem bI4:OpU X (binaryOp .FloorDiv) bI3:=by
 intro A H d e v w Q0 Q hA r1 r2 g k;obtain⟨i,j,rfl,rfl,g⟩:=nO g;exact⟨_,bT9,i,j,bF r1,bF r2,g.1,k _ _ H g.2 (.refl _) xC⟩
theorem cJ:OpU X (binaryOp .Mod) gI:=by
 intro A H d e v w Q0 Q hA r1 r2 g k;obtain⟨i,j,rfl,rfl,g⟩:=nO g;exact⟨_,bS5,i,j,bF r1,bF r2,g.1,k _ _ H g.2 (.refl _) xC⟩
def bB4:D->D->(B->Prop)->Prop:=gI2 λi j Q=>bS4 i j/\Q (.pu<|.int<|i^j.toNat)
theorem aM1:OpU X (binaryOp .Pow) bB4:=by
 intro A H d e v w Q0 Q hA r1 r2 g k;obtain⟨i,j,rfl,rfl,g⟩:=nO g;exact⟨_,op_pow,i,j,bF r1,bF r2,g.1,k _ _ H g.2 (.refl _) xC⟩
def mC (p:Int->Int->Bool):D->D->(B->Prop)->Prop:=gI2 λi j Q=>Q (.pu<|.bl<|p i j)
theorem aM2 {op:CmpOp}{p:Int->Int->Bool}(ho:OpR X (compareOp op) (rI0 λi j=> .bl (p i j))):OpU X (compareOp op) (mC p):=by
 intro A H d e v w Q0 Q hA r1 r2 g k;obtain⟨i,j,rfl,rfl,g⟩:=nO g;exact⟨_,ho,i,j,bF r1,bF r2,k _ _ H g (.refl _) jA⟩
theorem b53:OpU X (compareOp .Lt) (mC λi j=>decide (i<j)):=aM2 op_lt
theorem ou_le:OpU X (compareOp .LtE) (mC λi j=>decide (i<=j)):=aM2 op_le
theorem qQ:OpU X (compareOp .Gt) (mC λi j=>decide (j<i)):=aM2 op_gt
theorem ou_ge:OpU X (compareOp .GtE) (mC λi j=>decide (j<=i)):=aM2 op_ge
def iW (neg:Bool)(d e:D)(Q:B->Prop):Prop:=match d,e with
 | .int i,.int j=>Q (.pu<|.bl<|neg ^^ decide (i=j))
 | .bl i,.bl j=>Q (.pu<|.bl<|neg ^^ decide (i=j))
 | .str i,.str j=>Q (.pu<|.bl<|neg ^^ decide (i=j))
 | _,_=>False
theorem sS {b:Bool}{v:V}(h:Rep K A H (.bl b) v):v= .bl b:=by simpa only[Rep]using h
theorem yC {b:Str}{v:V}(h:Rep K A H (.str b) v):v= .str b:=by simpa only[Rep]using h
theorem iD:OpU X (compareOp .Eq) (iW false):=by
 intro A H d e v w Q0 Q hA r1 r2 g k;unfold iW at g;split at g
 ·rw[bF r1,bF r2];exact⟨_,bF5,rfl,k _ _ H g (.refl _) (by rw[a45,gP,kP];exact jA)⟩
 ·rw[sS r1,sS r2];exact⟨_,bF5,rfl,k _ _ H g (.refl _) (by rw[aL3,gP,kP];exact jA)⟩
 ·rw[yC r1,yC r2];exact⟨_,bF5,rfl,k _ _ H g (.refl _) (by rw[a46,gP,kP];exact jA)⟩
 ·exact g.elim
theorem b54:OpU X (compareOp .NotEq) (iW true):=by
 intro A H d e v w Q0 Q hA r1 r2 g k;unfold iW at g;split at g
 ·rw[bF r1,bF r2];exact⟨_,bF6,rfl,k _ _ H g (.refl _) (by rw[a45,iA,kP];exact jA)⟩
 ·rw[sS r1,sS r2];exact⟨_,bF6,rfl,k _ _ H g (.refl _) (by rw[aL3,iA,kP];exact jA)⟩
 ·rw[yC r1,yC r2];exact⟨_,bF6,rfl,k _ _ H g (.refl _) (by rw[a46,iA,kP];exact jA)⟩
 ·exact g.elim
end
section
variable {X:Cx}{a b e o:Expr}{es:List Expr}{pos:Pos}{ta tb te ti:UE}{K:Frag}{C:C0}{ρ ρ':Ev}{σ σ':L2.St}{H H':Hp}{A:AS}
def a28 (t:UE):UE:=λρ Q=>t ρ λb ρ1=>match b.d with
 | .int i=>Q (.pu<|.int<|-i) ρ1
 | _=>False
theorem pV (h:PU X a ta):PU X (.UnaryOp .USub a pos) (a28 ta):=
 hZ (pe_un un_neg h) λσ H Q ⟨C,ρ,Q0,I,h,k⟩=>⟨C,ρ,_,I,h,λb ρ1 v H1 q f s r=>by
  have r':=r.rep λa z=>I.avF f z
  generalize b.d=d at q r';split at q
  ·exact⟨_,bF r',k _ _ _ _ q f s xC⟩
  ·exact q.elim⟩
theorem iu_add:IpU X .Add (gI2 λi j Q=>Q (.pu<|.int<|i+j)):=by
 intro A H d e v w Q0 Q hA r1 r2 g k;obtain⟨i,j,rfl,rfl,g⟩:=nO g;exact⟨_,ip_add,i,j,bF r1,bF r2,k _ _ H g (.refl _) xC⟩
theorem iu_sub:IpU X .Sub (gI2 λi j Q=>Q (.pu<|.int<|i-j)):=by
 intro A H d e v w Q0 Q hA r1 r2 g k;obtain⟨i,j,rfl,rfl,g⟩:=nO g;exact⟨_,bF3,i,j,bF r1,bF r2,k _ _ H g (.refl _) xC⟩
def g1 (f:D->(B->Prop)->Prop)(ds:List D)(Q:B->Prop):Prop:=match ds with
 | [d]=>f d Q
 | _=>False
def g2 (f:D->D->(B->Prop)->Prop)(ds:List D)(Q:B->Prop):Prop:=match ds with
 | [d,e]=>f d e Q
 | _=>False
theorem uA {f:D->(B->Prop)->Prop}{ds:List D}{Q:B->Prop}{vs:List V}(h:g1 f ds Q)(r:bI K A H ds vs): ∃d v,ds=[d]/\vs=[v]/\Rep K A H d v/\f d Q:=by
 unfold g1 at h;split at h
 ·obtain⟨v,vr,rfl,rv,rr⟩:=r.uncons;have:=rr.unnil;subst this;exact⟨_,v,rfl,rfl,rv,h⟩
 ·exact h.elim
theorem bI5 {f:D->D->(B->Prop)->Prop}{ds:List D}{Q:B->Prop}{vs:List V}(h:g2 f ds Q)(r:bI K A H ds vs): ∃d e v w,ds=[d,e]/\vs=[v,w]/\Rep K A H d v/\Rep K A H e w/\f d e Q:=by
 unfold g2 at h;split at h
 ·obtain⟨v,vr,rfl,rv,rr⟩:=r.uncons;obtain⟨w,wr,rfl,rw',rr'⟩:=rr.uncons;have:=rr'.unnil;subst this;exact⟨_,_,v,w,rfl,rfl,rv,rw',h⟩
 ·exact h.elim
def bU0 (f:Int->(B->Prop)->Prop)(d:D)(Q:B->Prop):Prop:=match d with
 | .int i=>f i Q
 | _=>False
theorem bI6 {f:Int->(B->Prop)->Prop}{d:D}{Q:B->Prop}(h:bU0 f d Q): ∃i,d= .int i/\f i Q:=by
 unfold bU0 at h;split at h
 ·exact⟨_,rfl,h⟩
 ·exact h.elim
def bU1:List D->(B->Prop)->Prop:=g1 (bU0 λi Q=>Q (.pu<|.int<|if i<0 then -i else i))
theorem bI7:qO X (.builtin "abs") bU1:=by
 intro A H ds vs Q0 Q hA r g k;obtain⟨d,v,rfl,rfl,rv,g⟩:=uA g r;obtain⟨i,rfl,g⟩:=bI6 g;exact⟨_,bF8,i,by rw[bF rv],k _ _ H g (.refl _) xC⟩
def bI8:List D->(B->Prop)->Prop:=g2 (gI2 λi j Q=>Q (.pu<|.int<|if j>i then j else i))
theorem aZ1 (hc:X.calm=true):qO X (.builtin "max") bI8:=by
 intro A H ds vs Q0 Q hA r g k;obtain⟨d,e,v,w,rfl,rfl,rv,rw',g⟩:=bI5 g r;obtain⟨i,j,rfl,rfl,g⟩:=nO g;exact⟨_,bA7 hc,i,j,by rw[bF rv,bF rw'],k _ _ H g (.refl _) xC⟩
def gMin:List D->(B->Prop)->Prop:=g2 (gI2 λi j Q=>Q (.pu<|.int<|if j<i then j else i))
theorem cu_min (hc:X.calm=true):qO X (.builtin "min") gMin:=by
 intro A H ds vs Q0 Q hA r g k;obtain⟨d,e,v,w,rfl,rfl,rv,rw',g⟩:=bI5 g r;obtain⟨i,j,rfl,rfl,g⟩:=nO g;exact⟨_,bA8 hc,i,j,by rw[bF rv,bF rw'],k _ _ H g (.refl _) xC⟩
def aZ2:List D->(B->Prop)->Prop:=g1 λd Q=>match d with
 | .int i=>Q (.pu<|.int i)
 | .bl k=>Q (.pu<|.int<|if k then 1 else 0)
 | _=>False
theorem cu_int:qO X (.type "int") aZ2:=by
 intro A H ds vs Q0 Q hA r g k;obtain⟨d,v,rfl,rfl,rv,g⟩:=uA g r;cases d with
 | int i=>exact⟨_,aF9,.inl ⟨i,by rw[bF rv],k _ _ H g (.refl _) xC⟩⟩
 | bl c=>exact⟨_,aF9,.inr ⟨c,by rw[sS rv],k _ _ H g (.refl _) xC⟩⟩
 | _=>exact(show False from g).elim
noncomputable def iX:List D->(B->Prop)->Prop:=g1 λd Q=>match oP d with
 | some l=>Q (.pu<|.tup l)
 | none=>False
theorem k7:qO X (.type "tuple") iX:=by
 intro A H ds vs Q0 Q hA r g k;obtain⟨d,v,rfl,rfl,rv,g⟩:=uA g r;cases d with
 | tup l=>
  have rv':=rv;simp only[Rep]at rv;obtain⟨a,vs,rfl,c,rs⟩:=rv;exact⟨_,pU,a,vs,rfl,.inr ⟨c.imp bY id,k _ _ H g (.refl _) rv'⟩⟩
 | lst l=>
  simp only[Rep]at rv;obtain⟨a,vs,rfl,n,c,rs⟩:=rv;exact⟨_,pU,a,vs,rfl,.inl ⟨SqL.of c,λp n=>k _ _ _ g (cZ n _) (i3 hA n rs)⟩⟩
 | rol l=>
  simp only[Rep]at rv;obtain⟨a,vs,rfl,c,rs⟩:=rv;exact⟨_,pU,a,vs,rfl,.inl ⟨c.imp bY id,λp n=>k _ _ _ g (cZ n _) (i3 hA n rs)⟩⟩
 | _=>exact(show False from g).elim
noncomputable def sT:List D->(B->Prop)->Prop:=g1 λd Q=>match oP d with
 | some l=>Q (.ow l)
 | none=>False
theorem yD:qO X (.type "list") sT:=by
 intro A H ds vs Q0 Q hA r g k;obtain⟨d,v,rfl,rfl,rv,g⟩:=uA g r;cases e:oP d with
 | none=>simp only[e]at g
 | some l=>
  simp only[e]at g;obtain⟨a,vs,rfl,c,rs⟩:=rv.one.seq e;exact⟨_,aL9,a,vs,rfl,c,λp n=>k _ _ _ g (cZ n _) (eM (.refl _) n rs)⟩
def kI (t:UV):UE:=λρ Q=>t ρ λd ρ1=>match oP d with
 | some l=>Q (.pu<|.int l.length) ρ1
 | none=>False
theorem fN {t:UV}{p:Pos}(ha:PUV X e t)(hg:Gl X "len")(hm:X.mg "len"=none)(hs:starEach [e] X.env=(false,eval e X.env)::starEach [] X.env:=by rfl)
  (hpl:(backTo pos<|starEach [] X.env).any (·.1)=false:=by rfl):PU X (.Call (.Name "len" p) [e] [] pos) (kI t):=
 hZ (aQ8 aL8 hg hm PySem.boot_len (aL4 ha aY3 hs) ac ac hs hpl) λσ H Q ⟨C,ρ,Q0,I,h,k⟩=>⟨C,ρ,_,I,h,λd ρ1 v H1 q f s r=>by
  cases e:oP d with
  | none=>simp only[e]at q
  | some l=>
   simp only[e]at q;obtain⟨a,vs,rfl,c,rs⟩:=r.seq e;exact⟨a,vs,rfl,c,k _ _ _ _ q f s (by rw[rs.length];exact xC)⟩⟩
noncomputable def init (N:List Str)(ds:List D):Ev:=ds.map (λd=>some (.pu d))++replicate (N.length-ds.length) none
theorem uB {N:List Str}{ds:List D}{i:Nat}{z:B}(h:(init N ds)[i]? =some (some z)): ∃d,z= .pu d/\ds[i]? =some d:=by
 unfold init at h
 by_cases hi:i<ds.length
 ·rw[rB<|by simpa using hi,dD]at h
  cases e:ds[i]? with
  | none=>rw[e]at h;cases h
  | some d=>rw[e]at h;cases h;exact⟨d,rfl,rfl⟩
 ·rw[nY<|by simpa using hi,List.getElem?_replicate]at h
  split at h<;>cases h
theorem b55 {N:List Str}{ds:List D}{vs:List V}(hA: ∀a,A a->H a≠none)(r:bI K A H ds vs):EOk K ⟨H,A⟩ (init N ds) (L2.start N vs) H:=by
 have own: ∀a,¬Own (init N ds) (L2.start N vs) a:=λa ⟨i,l,h1,_⟩=>by
  obtain⟨d,e,_⟩:=uB h1;cases e
 refine⟨?_,λi d h=> ?_,λi l h=> ?_,λi j l l' a h=> ?_,λi l h=> ?_,.refl _,hA⟩
 ·unfold init L2.start;simp[r.length]
 ·obtain⟨d',e,e2⟩:=uB h;cases e;obtain⟨v,h1,h2⟩:=r.get e2;refine⟨v,?_,h2.mono<|.sub (.refl _) λa z=>z.elim id λz=>absurd z (own a)⟩
  unfold L2.start;have hv:i<vs.length:=(fF.mp h1).1;rw[rB<|by simpa using hv,dD,h1]
  rfl
 ·obtain⟨d',e,_⟩:=uB h;cases e
 ·obtain⟨d',e,_⟩:=uB h;cases e
 ·obtain⟨d',e,_⟩:=uB h;cases e
theorem b56 {P:Program}{w:World}{K:Frag}{mg:Str->Option Value}{base:Heap}{x qual:Str}{st:Stmt}{f:Addr}{fd:FuncData}{N ps:List Str}{k:Nat}{φ:Φ}(F:Fun K x qual st f fd)(S:bW N ps (aJ st))
  (len: ∀ds Q,φ ds Q->ds.length=ps.length)
  (body: ∀(cdv:Value) (A:Around) (outer:List Env) (s:Shared) (H:Hp) (E:XK),jS k (A.deeper<|envOfC qual (aJ st) s.heap.objs.size f cdv)->
   ∃t,pB (zQ CX0 P w K mg base N qual (aJ st) f cdv A outer s H E).nox (gW st) t/\ ∀ds Q,φ ds Q->t {nx:=λ_=>Q (.pu .non),rt:=Q} (init N ds)) :
  xA P w K mg base CX0 (k+1) f fd ps (spP K φ):=by
 refine F.ok S (λvs H Q E h=> ?_) (λcdv A outer s H vs Q E hr h=> ?_)
 ·obtain⟨A,ds,Q0,_,r,h,_⟩:=h;rw[<-r.length];exact len ds Q0 h
 ·obtain⟨A',ds,Q0,hA,r,h,q⟩:=h;obtain⟨t,ht,hq⟩:=body cdv A outer s H E hr;refine⟨_,ht,⟨H,A'⟩,init N ds,_,b55 hA r,hq ds Q0 h,⟨λρ σ H' z I=> ?_,λb v H' z s r=>q b v H' z s r,λ_ _ _ z=>z.elim,λ_ _ _ z=>z.elim⟩⟩
  exact q _ _ H' z I.ext (show Rep _ _ _ _ _ by simp only[Rep])
end
structure Fn (P:Program)(w:World)(K:Frag)(mg:Str->Option Value)(base:Heap)(x:Str)(ps:List Str)(k:Nat)(φ:Φ):Prop where
 ex: ∃f fd,xA P w K mg base CX0 k f fd ps (spP K φ)/\Binds K fd ps []/\keepIn K (.ref f)=true/\mg x=some (.ref f)
section
variable {X:Cx}{e:Expr}{es:List Expr}{pos:Pos}
theorem pu_fn {k k':Nat}{ps:List Str}{φ:Φ}{x:Str}{p:Pos}{t:UA}(F:Fn X.prog X.w X.K X.mg X.base x ps k φ)(hr:jS k' X.A)(hk:k<=k')(hg:Gl X x)(ha:PUA X (e::es) t)(hdb:(x==("__debug__":Str))=false:=by decide)
  (he:starEach (e::es) X.env=(false,eval e X.env)::starEach es X.env:=by rfl) (hpl:(backTo pos<|starEach es X.env).any (·.1)=false:=by rfl):PU X (.Call (.Name x p) (e::es) [] pos) (aZ φ t):=by
 obtain⟨f,fd,G,b,kp,m⟩:=F.ex;exact bT6 (E:=E0) G (hr.mono hk) hg m kp b (λ_ _ _ _ _ _ _ h=>h.elim) ha hdb he hpl
theorem bI9 {k k':Nat}{ps:List Str}{φ:Φ}{x:Str}{p:Pos}(F:Fn X.prog X.w X.K X.mg X.base x ps k φ)(hr:jS k' X.A)(hk:k<=k')(hg:Gl X x)(hdb:(x==("__debug__":Str))=false:=by decide):PU X (.Call (.Name x p) [] [] pos) (aZ φ aL):=by
 obtain⟨f,fd,G,b,kp,m⟩:=F.ex;exact bH6 (E:=E0) G (hr.mono hk) hg m kp b (λ_ _ _ _ _ _ _ h=>h.elim) hdb
theorem il {n i:Nat}(hn:X.N.length=n)(h:i<n): ∀pins σ H s,Inv X pins σ H s->i<σ.length:=λ_ _ _ _ I=>by rw[I.len,hn];exact h
end
def aH0:Φ:=λds Q=> ∃ns:List Int,ds=[.rol<|ns.map .int]/\ns.length<=63/\Q (.pu<|.bl true)
theorem aH1 {K:Frag}{A:AS}{H:Hp}: ∀ns:List Int,bI K A H (ns.map .int) (ns.map V.int)
 | []=> .nil
 | n::ns=> .cons (by simp only[Rep]) (aH1 ns)
theorem law_sp {K:Frag}{H:Hp}{a:Addr}{ns:List Int}(hl:ns.length<=63)(hS:SqL K H a (ns.map V.int)):spP K aH0 [.ref a] H (λv _=>v= .bl true) (λ_ _ _=>False):=by
 refine⟨λ_=>False,[.rol<|ns.map .int],λb=>b= .pu (.bl true),λ_ z=>z.elim,.cons ?_ .nil,⟨ns,rfl,hl,rfl⟩,λb v H' q s r=> ?_⟩
 ·simp only[Rep];exact⟨a,_,rfl,hS.imp (λz=>⟨λz=>z,z⟩) id,aH1 ns⟩
 ·subst q;have r':Rep K (λ_=>False) H' (.bl true) v:=r
  exact sS r'
theorem walkM {l:PySem.W.OpenLaw}{k:Nat}{x:Str}{q:Program}{loose:List Str}{XP:(Str->Option Value)->Heap->Prop}{YP:World->Heap->Prop}{d:DefRec}{K:Params->Frag}(hn:l.most=some 63)(hdf:d.params.defaults=[])(hr:jS k callerA)
  (hY: ∀(w:World) (h:Heap),YP w h->(K w.params).In h)
  (F: ∀(w:World) (mg:Str->Option Value) (fa:Addr) (h:Heap),(K w.params).In h->h.Ns mainGlobals mg->mg d.name=some (.ref fa)->
   ∃fd:FuncData,(∀(s:Shared) (u:Value),BindsTo s fd ⟨[u],[]⟩ [(x,u)])/\ ∀base:Heap,(K w.params).In base->base.Ns mainGlobals mg->xA l.prog w (K w.params) mg base CX0 k fa fd [x] (spP (K w.params) aH0)) :
  PySem.W.WalkO q loose XP YP l.row.toRowW d [] (λf vs=>PySem.call f vs):=
 L2.walk_of (n:=63) (k:=k) (x:=x) (CX:=λ_=>CX0) (sp:=λw=>spP (K w.params) aH0) hn ac hdf hr hY F (λ_ _ a ns hl _ hS=>law_sp hl hS) λ_ _ _ _ _ z=>z
end M
end
section
namespace L2
open PySem PySem.Spec PyProof.Rows
noncomputable def bM (X:Cx)(N:List Str)(scope:Scope)(cl:List (Str×Addr))(C:Addr)(s:Shared)(H:Hp)(fp:List Addr)(pins:List (Addr×Obj)):Cx where
 prog:=X.prog
 w:=X.w
 K:=X.K
 mg:=X.mg
 base:=X.base
 A:=X.A
 N:=N
 s₀:=s
 H₀:=H
 env:=compEnvC scope cl C X.env
 outer:=X.stack
 stack:=X.stack
 ex:=fp
 fn:=λx=>scope.names.lookup x==some .cell
 calm:=X.calm
 pn:=X.pn++pins
 xe:=λ_ _=>False
theorem sU {env:Env}: ∀(names:List (Str×NameKind)),(∀y∈names,y.2= .free-> ∃c,env.cells.lookup y.1=some c)-> ∀cs:List (Str×Addr),(∀x c,cs.lookup x=some c->env.cells.lookup x=some c)->
  ∃cl,(forIn names cs fun(x:Str×NameKind) r=>(do if(x.2==NameKind.free)=true then do let c<-cellOf env x.1;pure (ForInStep.yield ((x.1,c)::r))else pure (ForInStep.yield r)):Sem (List<|Str×Addr))=pure cl/\
   (∀x c,cl.lookup x=some c->env.cells.lookup x=some c)/\(∀x c,cs.lookup x=some c-> ∃c',cl.lookup x=some c')/\ ∀y∈names,y.2= .free-> ∃c,cl.lookup y.1=some c
 | [],_,cs,hcs=>⟨cs,rfl,hcs,λx c h=>⟨c,h⟩,λy hy=>by simp at hy⟩
 | (n,k)::r,h,cs,hcs=>by
  have hr: ∀y∈r,y.2= .free-> ∃c,env.cells.lookup y.1=some c:=λy hy=>h y (b6 _ hy)
  by_cases hk:k= .free
  ·subst hk;obtain⟨c,hc⟩:=h (n,.free) aP rfl;have e1:cellOf env n=pure c:=by unfold cellOf;rw[hc]
   have hcs': ∀x c',List.lookup x ((n,c)::cs)=some c'->env.cells.lookup x=some c':=λx c' q=>by
    rw[cU]at q;split at q
    ·rename_i e
     have:x=n:=by simpa using e
     subst this;cases q;exact hc
    ·exact hcs x c' q
   obtain⟨cl,h1,h2,h3,h4⟩:=sU r hr ((n,c)::cs) hcs';have hn: ∃c',cl.lookup n=some c':=h3 n c (by rw[cU];simp)
   refine⟨cl,?_,h2,λx c' q=> ?_,λy hy hf=> ?_⟩
   ·rw[rY];show(do let c<-cellOf env n;pure (ForInStep.yield ((n,c)::cs))) >>= _=_;rw[e1];exact h1
   ·by_cases z:x=n
    ·subst z;exact hn
    ·refine h3 x c' ?_
     rw[cU];have:(x==n)=false:=by simpa using z
     rw[this];exact q
   ·rcases aR.mp hy with rfl|hy
    ·exact hn
    ·exact h4 y hy hf
  ·obtain⟨cl,h1,h2,h3,h4⟩:=sU r hr cs hcs;refine⟨cl,?_,h2,h3,λy hy hf=> ?_⟩
   ·rw[rY];have:(k==NameKind.free)=false:=by simpa using hk
    show(if(k==NameKind.free)=true then _ else _) >>= _=_
    rw[this];exact h1
   ·rcases aR.mp hy with rfl|hy
    ·exact absurd hf hk
    ·exact h4 y hy hf
structure cW (env:Env)(XN N:List Str)(cap:List (Option Nat))(scope:Scope):Prop where
 kind:scope.kind= .function
 owns: ∀y∈scope.names,y.2= .cell->scope.names.lookup y.1=some .cell
 freeK: ∀y∈scope.names,y.2= .free->scope.names.lookup y.1=some .free
 names: ∀y∈scope.names,y.2= .local->scope.names.lookup y.1=some .local
 frees: ∀y∈scope.names,y.2= .free->env.kindOf y.1=some .cell\/env.kindOf y.1=some .free
 caps: ∀(i j:Nat) (x:Str),N[i]? =some x->cap[i]? =some (some j)->XN[j]? =some x/\(x,NameKind.free)∈scope.names/\scope.names.lookup x=some .free
 len:cap.length=N.length
noncomputable def mD (σ:L2.St)(cap:List (Option Nat))(last:Nat)(D:Addr):L2.St:=(cap.map λc=>c.bind λj=>(σ[j]?).join).set last (some<|.ref D)
theorem uD {env:Env}{x:Str}{k:NameKind}: ∀{names:List (Str×NameKind)},names.lookup x=some k->
  (names.map fun(n,k)=>if(k==NameKind.free&&env.scope.kind== .function&&env.kindOf n==some .cell)then(n,NameKind.cell)else(n,k)).lookup x=
   some (if(k==NameKind.free&&env.scope.kind== .function&&env.kindOf x==some .cell)then NameKind.cell else k)
 | [],h=>by simp at h
 | (n,k')::r,h=>by
  rw[cD];rw[cU]at h;dsimp only
  by_cases e:(x==n)=true
  ·have e':x=n:=by simpa using e
   subst e';rw[e]at h;cases h;split<;>simp
  ·have e2:(x==n)=false:=by simpa using e
   rw[e2]at h;have ih:=uD (env:=env) h;split
   ·rw[cU,e2];exact ih
   ·rw[cU,e2];exact ih
theorem k8 {env:Env}{x:Str}{k:NameKind}: ∀{names:List (Str×NameKind)},(names.map fun(n,k)=>if(k==NameKind.free&&env.scope.kind== .function&&env.kindOf n==some .cell)then(n,NameKind.cell)else(n,k)).lookup x=some k->
  ∃k',names.lookup x=some k'/\(x,k')∈names/\(k=k'\/k'= .free)
 | [],h=>by simp at h
 | (n,k')::r,h=>by
  rw[cD]at h;dsimp only at h
  by_cases e:(x==n)=true
  ·have e':x=n:=by simpa using e
   subst e';refine⟨k',by rw[cU,e],aP,?_⟩
   split at h
   ·rename_i c
    right
    simp only[c8,oK]at c;exact c.1.1
   ·rw[cU,e]at h;cases h;exact .inl rfl
  ·have e2:(x==n)=false:=by simpa using e
   have h':(r.map fun(n,k)=>if(k==NameKind.free&&env.scope.kind== .function&&env.kindOf n==some .cell)then(n,NameKind.cell)else(n,k)).lookup x=some k:=by
    split at h
    ·rw[cU,e2]at h;exact h
    ·rw[cU,e2]at h;exact h
   obtain⟨k2,h1,h2,h3⟩:=k8 h';exact⟨k2,by rw[cU,e2];exact h1,b6 _ h2,h3⟩
theorem zS {x:Str}{c:Addr}: ∀(names:List (Str×NameKind)) (h:Heap) (acc:List (Str×Addr)),(cellsFrom h.objs.size names acc).lookup x=some c->
  acc.lookup x=some c\/(h.objs.size<=c/\(x,NameKind.cell)∈names/\(pushCells h names).IsCell c none)
 | [],_,_,e=> .inl e
 | (y,k)::r,h,acc,e=>by
  unfold cellsFrom at e;unfold pushCells
  by_cases hk:(k==NameKind.cell)=true
  ·rw[a8 hk]at e⊢;have hk':k= .cell:=by simpa using hk
   have sz:(h.push {cls:= .type "cell",data:= .cell none}).objs.size=h.objs.size+1:=iS ..;rw[<-sz]at e;rcases zS r _ _ e with q| ⟨q1,q2,q3⟩
   ·rw[cU]at q;split at q
    ·rename_i e1
     have:x=y:=by simpa using e1
     subst this;cases q;exact .inr ⟨aC _,by rw[hk'];exact aP,⟨_,wW _ _ _ _<|bK _ rfl,rfl⟩⟩
    ·exact .inl q
   ·exact .inr ⟨ad,b6 _ q2,q3⟩
  ·rw[a7 hk]at e⊢;rcases zS r h acc e with q| ⟨q1,q2,q3⟩
   ·exact .inl q
   ·exact .inr ⟨q1,b6 _ q2,q3⟩
theorem zT: ∀(names:List (Str×NameKind)) (n:Nat) (acc:List (Str×Addr)),(∀x c,acc.lookup x=some c->c<n)->(∀x y c,acc.lookup x=some c->acc.lookup y=some c->x=y)->
  ∀x y c,(cellsFrom n names acc).lookup x=some c->(cellsFrom n names acc).lookup y=some c->x=y
 | [],_,_,_,hi=>hi
 | (z,k)::r,n,acc,hl,hi=>by
  unfold cellsFrom
  by_cases hk:(k==NameKind.cell)=true
  ·rw[a8 hk];refine zT r (n+1) _ (λx c e=> ?_) (λx y c e1 e2=> ?_)
   ·rw[cU]at e;split at e
    ·cases e;exact Nat.lt_succ_self n
    ·exact fT (hl x c e)
   ·rw[cU]at e1 e2;split at e1
    ·rename_i q1
     cases e1;split at e2
     ·rename_i q2
      exact(by simpa using q1:x=z).trans (by simpa using q2:y=z).symm
     ·exact absurd (hl y _ e2) (dQ _)
    ·split at e2
     ·cases e2;exact absurd (hl x _ e1) (dQ _)
     ·exact hi x y c e1 e2
  ·rw[a7 hk];exact zT r n acc hl hi
theorem nU {x:Str}{c:Addr}: ∀(names:List (Str×NameKind)) (n:Nat) (acc:List (Str×Addr)),((x,NameKind.cell)∈names\/ ∀c,acc.lookup x=some c->n<=c)->(cellsFrom n names acc).lookup x=some c->n<=c
 | [],_,_,h,e=>by
  rcases h with h|h
  ·simp at h
  ·exact h c e
 | (z,k)::r,n,acc,h,e=>by
  unfold cellsFrom at e
  by_cases hk:(k==NameKind.cell)=true
  ·rw[a8 hk]at e;have hk':k= .cell:=by simpa using hk
   rcases h with h|h
   ·rcases aR.mp h with h|h
    ·cases h;have:n<=c:=by
      by_cases q: ∃c',(cellsFrom (n+1) r ((x,n)::acc)).lookup x=some c'/\(x,NameKind.cell)∈r
      ·obtain⟨c',e',m⟩:=q;have:=nU (c:=c) r (n+1) _ (.inl m) e
       lia
      ·have nm:(x,NameKind.cell) ∉ r:=λm=>q ⟨c,e,m⟩
       have:=cells_keep r (n+1) ((x,n)::acc) nm;rw[this,cU]at e;simp at e;exact Nat.le_of_eq e
     exact this
    ·have:=nU (c:=c) r (n+1) _ (.inl h) e
     lia
   ·by_cases q:(x,NameKind.cell)∈r
    ·have:=nU (c:=c) r (n+1) _ (.inl q) e
     lia
    ·have:=cells_keep r (n+1) ((z,n)::acc) q;rw[this,cU]at e;split at e
     ·cases e;exact aC _
     ·exact h c e
  ·rw[a7 hk]at e;refine nU (c:=c) r n acc (h.imp (λm=> ?_) id) e
   rcases aR.mp m with m|m
   ·cases m;exact absurd ac hk
   ·exact m
where
 cells_keep {x:Str}: ∀(names:List (Str×NameKind)) (n:Nat) (acc:List (Str×Addr)),(x,NameKind.cell) ∉ names->(cellsFrom n names acc).lookup x=acc.lookup x
 | [],_,_,_=>rfl
 | (z,k)::r,n,acc,h=>by
  unfold cellsFrom
  by_cases hk:(k==NameKind.cell)=true
  ·rw[a8 hk];have hk':k= .cell:=by simpa using hk
   rw[cells_keep r (n+1) _ λm=>h (b6 _ m),cU]
   split
   ·rename_i e
    have:x=z:=by simpa using e
    subst this;exact absurd (by rw[hk'];exact aP) h
   ·rfl
  ·rw[a7 hk];exact cells_keep r n acc λm=>h (b6 _ m)
theorem cells_keep {x:Str}(names:List (Str×NameKind))(n:Nat)(acc:List (Str×Addr))(h:(x,NameKind.cell) ∉ names):(cellsFrom n names acc).lookup x=acc.lookup x:=nU.cells_keep names n acc h
theorem aM3 {M:Model}{A:Around}{E:Value->Shared->Prop}{s:Shared}{scope:Scope}{globals:Addr}{cl:List (Str×Addr)}{qual:Str}{env0:Env}{Q:Env->Shared->Prop}
  (hQ:Q {scope:=scope,locals:=s.heap.objs.size,globals:=globals,cells:=cellsFrom (s.heap.objs.size+1) scope.names cl,qual:=qual,func:=none,code:=env0.code,frame:=env0.frame,builtins:=env0.builtins} {s with heap:=pushCells (s.heap.push {cls:= .type "dict",data:= .dict #[]}) scope.names}) :
  wpAny M A (newFunctionEnv scope globals cl [] qual none .none<|some env0) Q E s:=by
 simp only[newFunctionEnv,Option.isSome_some,eT];refine a9 (wpAny_alloc ?_);refine a9 (wpAny_layCells _ (λname kind cells=>by cases hkc:kind==NameKind.cell<;>simp[hkc]) _ _ _ _ ?_)
 rw[show({s with heap:=s.heap.push {cls:= .type "dict",data:= .dict #[]}}:Shared).heap.objs.size=s.heap.objs.size+1 from iS ..]
 rw[forIn_nil];exact a9 (aF<|aF hQ)
section
variable {X:Cx}{pins:List (Addr×Obj)}{σ:L2.St}{H:Hp}{s:Shared}{N:List Str}{cap:List (Option Nat)}{scope:Scope}
theorem aR4 {fp:List Addr}{last:Nat}{D:Addr}{cl0 cl:List (Str×Addr)}{h1:Heap}{m0:Str->Option Value}{tk:Nat}(S:cW X.env X.N N cap scope)(I:Inv X pins σ H s)(hf: ∀b∈fp,zO X pins H b)(hfs: ∀b∈fp,b<s.heap.objs.size)
  (hcl: ∀x c,cl0.lookup x=some c->X.env.cells.lookup x=some c) (hcl2: ∀y∈scope.names,y.2= .free-> ∃c,cl0.lookup y.1=some c) (hN: ∀x,N[last]? =some x->scope.names.lookup x=none)
  (hns:h1.Ns s.heap.objs.size m0) (hk: ∀b o,s.heap.get? b=some o->h1.get? b=some o)
  (c1: ∀x c,cl.lookup x=some c->cl0.lookup x=some c\/(s.heap.objs.size<c/\h1.IsCell c none)) (c2: ∀x y c,cl.lookup x=some c->cl.lookup y=some c->x=y)
  (c3: ∀x,(x,NameKind.free)∈scope.names->cl.lookup x=cl0.lookup x) (c4: ∀x,scope.names.lookup x=some .cell-> ∃c,cl.lookup x=some c) (c5: ∀x c,scope.names.lookup x=some .cell->cl.lookup x=some c->s.heap.objs.size<=c) :
  Inv (bM X N scope cl s.heap.objs.size s H fp pins) [] (mD σ cap last D) H {s with heap:=h1,toks:=tk}:=by
 have sz:X.base.objs.size<=s.heap.objs.size:=aV I.ok.bsz I.sz;have kindF: ∀x,(bM X N scope cl s.heap.objs.size s H fp pins).env.kindOf x=some .cell\/(bM X N scope cl s.heap.objs.size s H fp pins).env.kindOf x=some .free->(x,NameKind.free)∈scope.names\/scope.names.lookup x=some .cell:=λx h=>by
  have: ∃k,(k= .cell\/k= .free)/\(relabel scope X.env).names.lookup x=some k:=by
   rcases h with h|h
   ·exact⟨_,.inl rfl,h⟩
   ·exact⟨_,.inr rfl,h⟩
  obtain⟨k,hk,h⟩:=this;obtain⟨k',h1,h2,h3⟩:=k8 h;rcases h3 with rfl|rfl
  ·rcases hk with rfl|rfl
   ·exact .inr (S.owns _ h2 rfl)
   ·exact .inl h2
  ·exact .inl h2
 have cne: ∀x c,cl.lookup x=some c-> ∀b∈fp,c≠b:=λx c h b hb=>by
  rcases c1 x c h with q| ⟨q,_⟩
  ·exact(hf b hb).2.2.2.2.1 x c (hcl x c q)
  ·exact λz=>by subst z;exact absurd (Nat.lt_trans q<|hfs c hb) (dQ _)
 refine⟨⟨I.ok.mod,S.kind,I.ok.glob,I.ok.blt,aC _,c2,λx h=> ?_,λx c h e=> ?_,I.ok.hd,I.ok.frames,.inl rfl,λb hb=> ?_,I.bs,sz,λb o e hb=> ?_,λb hb=> ?_,I.stack,I.stkFree⟩,
  rfl,I.bare,Un.kept hk,⟨m0,hns,λi x v e1 e2 e3=> ?_⟩,λx c h=> ?_,I.hok.fresh<|aC _,λx c h=> ?_,λp hp=> ?_,I.hok.kept hk,?_⟩
 ·rcases kindF x h with q|q
  ·obtain⟨c,e⟩:=hcl2 _ q rfl;exact⟨c,(c3 x q).trans e⟩
  ·exact c4 x q
 ·exact c5 x c (by simpa using(show(scope.names.lookup x==some NameKind.cell)=true from h)) e
 ·exact⟨aW<|hfs b hb,λx c h=>cne x c h b hb⟩
 ·rcases(hf b hb).2.2.2.1 with z|z
  ·exact I.ok.noex b o e z
  ·have:=aM e;exact absurd (bO this<|aV I.ok.bsz z) (dQ _)
 ·intro z;rcases aR.mp (I.stkSub b z)with z|z
  ·exact(hf b hb).2.1 z
  ·exact(hf b hb).2.2.1 z
 ·have e1':N[i]? =some x:=e1;unfold mD at e2
  by_cases hl:last=i
  ·subst hl;have z:=hN x e1';rcases e3 with e3|e3|e3
   ·obtain⟨k',h1,_⟩:=k8 (show(relabel scope X.env).names.lookup x=_ from e3)
    rw[z]at h1;cases h1
   ·obtain⟨k',h1,_⟩:=k8 (show(relabel scope X.env).names.lookup x=_ from e3)
    rw[z]at h1;cases h1
   ·obtain⟨k',h1,_⟩:=k8 (show(relabel scope X.env).names.lookup x=_ from e3)
    rw[z]at h1;cases h1
  ·rw[M.get_set_ne hl,dD]at e2;cases e4:cap[i]? with
   | none=>rw[e4]at e2;cases e2
   | some c=>
    rw[e4]at e2;cases c with
    | none=>cases e2
    | some j=>
     have e2':(σ[j]?).join=some v:=by simpa using e2
     have e5:σ[j]? =some (some v):=by
      cases q:σ[j]? with
      | none=>rw[q]at e2';cases e2'
      | some w=>rw[q]at e2';cases w with
       | none=>cases e2'
       | some w'=>cases e2';rfl
     obtain⟨a1,a2,a3⟩:=S.caps i j x e1' e4;have kx:=S.frees _ a2 rfl;obtain⟨m,hn,hl'⟩:=I.loc;have vis:Vis X.env.scope x:=by
      rcases kx with kx|kx
      ·exact .inr (.inl kx)
      ·exact .inr (.inr kx)
     obtain⟨u,r,l⟩:=hl' j x v a1 e5 vis;refine⟨u,r,.inr ⟨?_,?_⟩⟩
     ·have q:=uD (env:=X.env) a3;show(relabel scope X.env).names.lookup x=_\/(relabel scope X.env).names.lookup x=_;unfold relabel;dsimp only;rw[q];split
      ·exact .inl rfl
      ·exact .inr rfl
     ·rcases l with⟨l,_⟩| ⟨_,c,hc,hcell⟩
      ·rcases kx with kx|kx<;>·rw[kx]at l;cases l
      ·obtain⟨c',hc'⟩:=hcl2 _ a2 rfl;have:=hcl x c' hc';rw[hc]at this;cases this;obtain⟨o,ho,hd⟩:=hcell;exact⟨c,(c3 x a2).trans hc',o,hk _ _ ho,hd⟩
 ·rcases c1 x c h with q| ⟨_,q⟩
  ·obtain⟨v,o,ho,hd⟩:=I.cell x c (hcl x c q);exact⟨v,o,hk _ _ ho,hd⟩
  ·exact⟨_,q⟩
 ·rcases c1 x c h with q| ⟨q,_⟩
  ·exact I.freeC x c (hcl x c q)
  ·exact I.hok.fresh (sF q)
 ·have hp':p∈X.pn++pins:=by
   have:p∈(X.pn++pins)++[]:=hp
   simpa using this
  obtain⟨a1,a2,a3,a4,a5⟩:=I.pin p hp';refine⟨hk _ _ a1,a2,aW<|aM a1,λz=> ?_,a5⟩
  rcases aR.mp (I.stkSub p.1 z)with z|z
  ·exact a3 z
  ·exact a4 z
 ·unfold mD;rw[bT,aI];exact S.len
theorem aH2 {fp:List Addr}{cl:List (Str×Addr)}{C:Addr}{σ':L2.St}{H':Hp}{s':Shared}{h2:Heap}{pins':List (Addr×Obj)}(I:Inv X pins σ H s)(hf: ∀b∈fp,zO X pins H b)(hC:s.heap.objs.size<=C)
  (I':Inv (bM X N scope cl C s H fp pins) pins' σ' H' s') (hs:SameBut C s'.heap h2):Inv X pins σ H' {s' with heap:=h2}:=by
 have nC: ∀b o,s.heap.get? b=some o->b≠C:=λb o e z=>by
  subst z;exact absurd (bO (aM e) hC) (dQ _)
 have get: ∀b,b≠C->h2.get? b=s'.heap.get? b:=λb hb=>hs.2 b hb
 have U:=I'.base;have u:Un (frs X.stack) fp H H' s.heap h2:=by
  refine⟨λb o e n h1 hx=> ?_,λb o e n h1 hx=> ?_,U.free,λb o e hx=> ?_,U.tups,U.frzs,U.tbls⟩
  ·rw[get b<|nC b o e];exact U.keep b o e n h1 hx
  ·rw[get b<|nC b o e];exact U.slot b o e n h1 hx
  ·rw[get b<|nC b o e];exact U.there b o e hx
 have fC:H' C=none:=I'.free;have hok:HOk X.prog X.w H' h2:=λa o e=>by
  have na:a≠C:=λz=>by subst z;rw[fC]at e;cases e
  refine(I'.hok a o e).stay (λb u hb q=> ?_) (λ_ q=>q) λ_ _ q=>q
  have nb:b≠C:=by
   rcases hb with rfl|hb
   ·exact na
   ·exact λz=>by subst z;rw[fC]at hb;cases hb
  rw[get b nb];exact q
 obtain⟨hh,gg,dd,tt,oo⟩:=s';have eo:oo=s.os:=I'.os;subst eo;have fin:=I.call (h':=h2) (g':=gg) (d':=dd) (t':=tt) (ch:=fp) u hok I'.bare λb hb=>⟨(hf b hb).2.2.2.1,(hf b hb).2.1,(hf b hb).2.2.2.2.1,(hf b hb).2.2.2.2.2⟩
 exact fin
end
def xD (e:Expr)(d:Nat)(target:Expr)(p0:Pos)(ifs:List Expr)(em:Sem Unit)(it acc:Value)(env:Env):Sem Fin:=do
 standAt p0
 match<-pyNext it with
 | none=>pure (.done .next)
 | some v=>
  letOwnedTupleGo target it v
  assign target env v
  let mut ok:=true
  for c in ifs do
   if ok then ok<-isTrue c env (eval c env)
  if ok then em
  again (.compLoop e d it acc env)
theorem uE {prog:Program}{w:World}{A:Around}{R:Result->Shared->Prop}{s:Shared}{elt target:Expr}{gens:List Comprehension}{ifs:List Expr}{scope:Scope}{pos p0:Pos}{d:Nat}{it acc:Value}{env:Env}{em:Sem Unit}(I:Nat->Shared->Prop)
  (hturn:compTurn (.ListComp elt gens scope pos) d it acc env=xD (.ListComp elt gens scope pos) d target p0 ifs em it acc env)
  (turn: ∀n s,I n s->wpAny (model prog w) A (pyNext it) (λr s₁=>match r with
   | none=>R (.ok .next) s₁
   | some v=>wpAny (model prog w) A (letOwnedTupleGo target it v) (λ_ s₂=>wpAny (model prog w) A (assign target env v) (λ_ s₂=>
     wpAny (model prog w) A (forIn ifs true λc r=>if r=true then do let ok<-isTrue c env (eval c env);pure (ForInStep.yield ok)else pure (ForInStep.yield r)) (λok s₃=>
      if ok=true then wpAny (model prog w) A em (λ_ s₅=> ∃m,m<n/\I m s₅) (notedBy (model prog w) A env λe s'=>R (.error e) s') s₃
      else ∃m,m<n/\I m s₃) (notedBy (model prog w) A env λe s'=>R (.error e) s') s₂) (notedBy (model prog w) A env λe s'=>R (.error e) s') s₂) (notedBy (model prog w) A env λe s'=>R (.error e) s') s₁) (notedBy (model prog w) A env λe s'=>R (.error e) s') s)
  (n:Nat) (h:I n s):codeAny (model prog w) A (.compLoop (.ListComp elt gens scope pos) d it acc env) R s:=by
 refine codeAny_loop rfl I (λn s hI=> ?_) n h
 show wpAny _ A ((compTurn (.ListComp elt gens scope pos) d it acc env).onRaise (λx=>do noteFrame x env;theTreesLotGoes x)) _ _ s
 refine wpAny_noted ?_
 rw[hturn];unfold xD;refine a9 (sB<|a9<|bR (turn n s hI) (λr s₁ h₁=> ?_) λ_ _ h'=>h')
 cases r with
 | none=>exact aF h₁
 | some v=>
  refine a9 (bR h₁ (λ_ s₂ h₂=>a9 (bR h₂ (λ_ s₂ h₂=>a9 (bR h₂ (λok s₃ h₃=> ?_) λ_ _ h'=>h')) λ_ _ h'=>h')) λ_ _ h'=>h')
  cases ok with
  | false=>exact aF ⟨rfl,h₃⟩
  | true=>exact a9 (bR h₃ (λ_ s₅ h₅=>aF ⟨rfl,h₅⟩) λ_ _ h'=>h')
def PTs (X:Cx)(ifs:List Expr)(t:TT):Prop:=
 ∀(pins:List (Addr×Obj)) (s:Shared) (σ:L2.St) (H:Hp) (Q:Bool->Hp->Prop),Inv X pins σ H s->t σ H Q->
  wpAny (model X.prog X.w) X.A (forIn ifs true λc r=>if r=true then do let ok<-isTrue c X.env (eval c X.env);pure (ForInStep.yield ok)else pure (ForInStep.yield r)) (TP X pins σ Q) X.xe s
theorem bU2 {X:Cx}:PTs X [] (λ_ H Q=>Q true H):=λpins s σ H Q I h=>wpAny_tests_nil ⟨H,I,h⟩
theorem bU3 {X:Cx}{c:Expr}{t:TT}(h:PT X c t):PTs X [c] t:=λpins s σ H Q I q=>wpAny_tests_one (h pins s σ H Q I q)
def a72 (cap:List (Option Nat))(last:Nat)(wi:TI)(g:TG)(tt:TT)(tem:Addr->L2.St->Hp->(L2.St->Hp->Prop)->Prop):TE:=λσ H Q=>wi σ H λJ H1=> ∀D,H1 D=none-> ∃W:Nat->Nat->L2.St->Hp->Prop,(∃m,W 0 m (mD σ cap last D)<|upd H1 D<|.lst [])/\ ∀i m σ' H',W i m σ' H'->
 (J.stop i H'/\Q (.ref D) H')\/(J.go i H'/\ ∃Nx:L2.St->Hp->Prop,(∀σ2 H2,Nx σ2 H2-> ∃m',m'<m/\W (i+1) m' σ2 H2)/\ ∀x H2,J.yld i H' x H2->g x σ' H2 λσ3 H3=>tt σ3 H3 λc H4=>
  if c=true then tem D σ3 H4 Nx else Nx σ3 H4)
def tPut (te:TE)(D:Addr)(σ:L2.St)(H:Hp)(Nx:L2.St->Hp->Prop):Prop:=te σ H λy H5=> ∃ys,H5 D=some (.lst ys)/\ys.length<sizeLine/\Nx σ (upd H5 D<|.lst<|ys++[y])
def putOf (elt:Expr)(acc:Value)(env:Env):Sem Unit:=do let _<-call (.builtin "list.append") [acc,<-eval elt env]
def PEm (X:Cx)(em:Value->Env->Sem Unit)(tem:Addr->L2.St->Hp->(L2.St->Hp->Prop)->Prop):Prop:= ∀(D:Addr) (pins:List (Addr×Obj)) (s:Shared) (σ:L2.St) (H:Hp) (Nx:L2.St->Hp->Prop),Inv X pins σ H s->tem D σ H Nx->wpAny (model X.prog X.w) X.A (em (.ref D) X.env) (λ_ s'=> ∃σ' H',Inv X pins σ' H' s'/\Nx σ' H') X.xe s
theorem aM4 {X:Cx}{elt:Expr}{te:TE}(he:PE X elt te):PEm X (putOf elt) (tPut te):=by
 intro D pins s σ H Nx I h;refine a9 (bR (he pins s σ H _ I h) (λv s1 h1=> ?_) λ_ _ z=>z)
 obtain⟨y,H1,I1,r1,ys,e1,z1,q1⟩:=h1;refine a9 (bR (aG4 (X:=X) _ s1 σ H1 (.ref D) [y] (.ref D) [v] (λv H=>v= .non/\Nx σ H) I1 rfl (.cons r1 .nil) ⟨_,ys,y,rfl,rfl,e1,z1,rfl,q1⟩) (λ_ s2 h2=> ?_) λ_ _ z=>z)
 obtain⟨_,H2,I2,_,_,q2⟩:=h2;exact aF ⟨σ,H2,I2,q2⟩
theorem aH3 {X:Cx}{RR:Value->Addr->Result->Shared->Prop}{elt iter tg:Expr}{ifs:List Expr}{eH:List Comprehension}{scope:Scope}{pos:Pos}{N:List Str}{cap:List (Option Nat)}{last:Nat}{wi:TI}{g:TG}{tt:TT}{em:Value->Env->Sem Unit}{tem:Addr->L2.St->Hp->(L2.St->Hp->Prop)->Prop}(hem: ∀it acc env,compTurn (.ListComp elt (⟨tg,iter,ifs,0⟩::eH) scope pos) 0 it acc env=xD (.ListComp elt (⟨tg,iter,ifs,0⟩::eH) scope pos) 0 tg iter.pos ifs (em acc env) it acc env)(hc:X.calm=true)(hi:PI X tg iter wi)(S:cW X.env X.N N cap scope)
  (hN: ∀x,N[last]? =some x->scope.names.lookup x=none)
  (hg: ∀cl C s H fp pins,PG (bM X N scope cl C s H fp pins) tg g) (ht: ∀cl C s H fp pins,PTs (bM X N scope cl C s H fp pins) ifs tt) (he: ∀cl C s H fp pins,PEm (bM X N scope cl C s H fp pins) em tem)
  {pins:List (Addr×Obj)} {s:Shared} {σ:L2.St} {H:Hp} {Q:VK} {cl:List (Str×Addr)} (I:Inv X pins σ H s) (h:a72 cap last wi g tt tem σ H Q) (hcl: ∀x c,cl.lookup x=some c->X.env.cells.lookup x=some c) (hcl2: ∀y∈scope.names,y.2= .free-> ∃c,cl.lookup y.1=some c)
  (fin: ∀(D:Addr) (fp:List Addr) (H3:Hp) (s3:Shared) (σ':L2.St) (H':Hp) (s':Shared),Inv X pins σ H3 s3->(∀b∈fp,zO X pins H3 b)->Inv (bM X N scope (cellsFrom (s3.heap.objs.size+1) scope.names cl) s3.heap.objs.size s3 H3 fp pins) [] σ' H' s'->Q (.ref D) H'->RR (.ref D) s3.heap.objs.size (.ok .next) s') :
  wpAny (model X.prog X.w) X.A (eval iter X.env) (λx s₁=>wpAny (model X.prog X.w) X.A (pyIter x) (λit s₂=>wpAny (model X.prog X.w) X.A (newList []) (λacc s₃=>
   wpAny (model X.prog X.w) X.A (newFunctionEnv scope X.env.globals cl [] X.env.qual none .none<|some X.env) (λcenv s₄=>
    codeAny (model X.prog X.w) X.A (.compStart (.ListComp elt (⟨tg,iter,ifs,0⟩::eH) scope pos) 0 it acc {cenv with scope:=relabel scope X.env}) (RR acc cenv.locals) s₄) X.xe s₃) X.xe s₂) X.xe s₁) X.xe s:=by
 refine thn (hi pins s σ H _ I h) λxv s1 h1=>thn h1 λit s2 h2=> ?_
 obtain⟨ita,fp,tn,J,H2,rfl,I2,T,st2,f2,q⟩:=h2;refine i8 ?_ (by show 0<=sizeLine;decide)
 have fD:H2 s2.heap.objs.size=none:=I2.hok.fresh (aC _);obtain⟨W,⟨m0,w0⟩,turn⟩:=q s2.heap.objs.size fD;have I3:Inv X pins σ (upd H2 s2.heap.objs.size<|.lst []) {s2 with heap:=s2.heap.push {cls:= .type "list",data:= .seq ([]:List Value).toArray}}:=I2.lnew (t':=s2.toks) .nil (cO _);have fpne: ∀b∈fp,b≠s2.heap.objs.size:=λb hb=>by
  obtain⟨o,ho,_⟩:=T.obj 0 _ st2 b hb;exact aW (aM ho)
 have f3: ∀b∈fp,zO X pins (upd H2 s2.heap.objs.size<|.lst []) b:=λb hb=>⟨by rw[dG<|fpne b hb];exact(f2 b hb).1,(f2 b hb).2⟩
 have k23: ∀b o,s2.heap.get? b=some o->(s2.heap.push {cls:= .type "list",data:= .seq ([]:List Value).toArray}).get? b=some o:=λb o e=>aO _ e
 have st3:tn 0 (s2.heap.push {cls:= .type "list",data:= .seq ([]:List Value).toArray}):=T.keep 0 _ _ st2 λb hb o e=>k23 b o e
 have fps: ∀b∈fp,b< (s2.heap.push {cls:= .type "list",data:= .seq ([]:List Value).toArray}).objs.size:=λb hb=>by
  obtain⟨o,ho,_⟩:=T.obj 0 _ st3 b hb;exact aM ho
 generalize hS3:({s2 with heap:=s2.heap.push {cls:= .type "list",data:= .seq ([]:List Value).toArray}}:Shared)=s3 at I3;have hh3:s3.heap=s2.heap.push {cls:= .type "list",data:= .seq ([]:List Value).toArray}:=by rw[<-hS3]
 rw[<-hh3]at st3 fps;refine aM3 ?_;have sz3:(s3.heap.push {cls:= .type "dict",data:= .dict #[]}).objs.size=s3.heap.objs.size+1:=iS ..;have hns₁:(pushCells (s3.heap.push {cls:= .type "dict",data:= .dict #[]}) scope.names).Ns s3.heap.objs.size (λ_=>none):=(Heap.Ns.new s3.heap<|.type "dict").keeps (wW _ _)
 have k34: ∀b o,s3.heap.get? b=some o->(pushCells (s3.heap.push {cls:= .type "dict",data:= .dict #[]}) scope.names).get? b=some o:=λb o e=>wW _ _ _ _ (aO _ e)
 have I4:=aR4 (tk:=s3.toks) (last:=last) (D:=s2.heap.objs.size) (cl:=cellsFrom (s3.heap.objs.size+1) scope.names cl) S I3 f3 fps hcl hcl2 hN hns₁ k34
  (λx c e=>by
   rw[<-sz3]at e;rcases zS _ _ _ e with q| ⟨q1,_,q3⟩
   ·exact .inl q
   ·exact .inr ⟨ad,q3⟩)
  (zT _ _ _ (λx c e=>by
   obtain⟨v,q⟩:=I3.cell x c (hcl x c e);exact fT q.lt) λx y c e1 e2=>I3.ok.inj x y c (hcl x c e1) (hcl y c e2))
  (λx m=>cells_keep _ _ _ λm'=>by
   have h1:=S.owns _ m' rfl;have h2:=S.freeK _ m rfl;rw[h1]at h2;cases h2)
  (λx e=>w8.mp (wF _ _ _<|.inl e))
  (λx c e1 e2=>by
   have:=nU scope.names (s3.heap.objs.size+1) cl (.inl<|kQ e1) e2
   lia)
 have st4:tn 0 (pushCells (s3.heap.push {cls:= .type "dict",data:= .dict #[]}) scope.names):=T.keep 0 _ _ st3 λb hb o e=>k34 b o e
 generalize hcl':cellsFrom (s3.heap.objs.size+1) scope.names cl=cl' at I4;have loop:codeAny (model X.prog X.w) X.A (.compLoop (.ListComp elt (⟨tg,iter,ifs,0⟩::eH) scope pos) 0 (.ref ita) (.ref s2.heap.objs.size)<|compEnvC scope cl' s3.heap.objs.size X.env)
   (RR (.ref s2.heap.objs.size) s3.heap.objs.size) {s3 with heap:=pushCells (s3.heap.push {cls:= .type "dict",data:= .dict #[]}) scope.names,toks:=s3.toks}:=by
  have stat: ∀{H':Hp},(∀b∈fp,H' b=none)-> ∀b∈fp,zO (bM X N scope cl' s3.heap.objs.size s3 (upd H2 s2.heap.objs.size<|.lst []) fp pins) [] H' b:=λ{H'} hn b hb=>by
   refine⟨hn b hb,aW<|fps b hb,λz=> ?_,.inl hb,λx c e=>(I4.ok.exf b hb).2 x c e,λp hp=> ?_⟩
   ·rcases aR.mp (I3.stkSub b z)with z|z
    ·exact(f3 b hb).2.1 z
    ·exact(f3 b hb).2.2.1 z
   ·have:p∈(X.pn++pins)++[]:=hp;exact(f3 b hb).2.2.2.2.2 p (by simpa using this)
  have hcb:(bM X N scope cl' s3.heap.objs.size s3 (upd H2 s2.heap.objs.size<|.lst []) fp pins).calm=true:=hc;refine uE (λn s'=> ∃i σ' H',Inv (bM X N scope cl' s3.heap.objs.size s3 (upd H2 s2.heap.objs.size<|.lst []) fp pins) [] σ' H' s'/\tn i s'.heap/\(∀b∈fp,H' b=none)/\W i n σ' H') (hem _ _ _) ?_ m0 ⟨0,_,_,I4,st4,λb hb=>(f3 b hb).1,w0⟩
  rintro n s5 ⟨i,σ5,H5,I5,st5,fr5,w5⟩;rcases turn i n σ5 H5 w5 with⟨stop,qn⟩| ⟨go,Nx,hNx,step⟩
  ·refine bR (T.done (bM X N scope cl' s3.heap.objs.size s3 (upd H2 s2.heap.objs.size<|.lst []) fp pins) rfl rfl rfl hcb i [] s5 σ5 H5 (λ_ _=>False) I5 (stat fr5) st5 stop) (λr s6 hr=> ?_) (λ_ _ z=>z.elim)
   obtain⟨rfl,I6⟩:=hr;exact fin _ fp _ s3 σ5 H5 s6 I3 f3 (hcl'▸I6) qn
  ·refine bR (T.item (bM X N scope cl' s3.heap.objs.size s3 (upd H2 s2.heap.objs.size<|.lst []) fp pins) rfl rfl rfl hcb i [] s5 σ5 H5 (λ_ _=>False) I5 (stat fr5) st5 go) (λr s6 hr=> ?_) (λ_ _ z=>z.elim)
   obtain⟨u,rfl,h6⟩:=hr;refine bR h6 (λ_ s7 h7=> ?_) (λ_ _ z=>z.elim)
   obtain⟨x,H7,I7,r7,y7,st7,fr7⟩:=h7;have I7':=I7.pinned (stat fr7) (T.obj _ _ st7);refine bR (hg _ _ _ _ _ _ _ s7 σ5 H7 x u _ I7' r7<|step x H7 y7) (λ_ s8 h8=> ?_) (λ_ _ z=>False.elim z)
   obtain⟨σ8,H8,I8,q8⟩:=h8;have again: ∀{σ9:L2.St} {H9:Hp} {s9:Shared},Inv (bM X N scope cl' s3.heap.objs.size s3 (upd H2 s2.heap.objs.size<|.lst []) fp pins) ([]++a64 fp s7.heap) σ9 H9 s9->Nx σ9 H9-> ∃m,m<n/\ ∃i σ' H',Inv (bM X N scope cl' s3.heap.objs.size s3 (upd H2 s2.heap.objs.size<|.lst []) fp pins) [] σ' H' s9/\tn i s9.heap/\(∀b∈fp,H' b=none)/\W i m σ' H':=λ{σ9 H9 s9} I9 n9=>by
    obtain⟨m',hm,w9⟩:=hNx σ9 H9 n9;refine⟨m',hm,i+1,σ9,H9,I9.unpinned,T.keep _ _ _ st7 λb hb o e=>(I9.pin (b,o)<|cL _<|cL _<|sQ hb e).1,λb hb=> ?_,w9⟩
    obtain⟨o,e,d⟩:=T.obj _ _ st7 b hb;exact(I9.pin (b,o)<|cL _<|cL _<|sQ hb e).2.1
   refine bR (ht _ _ _ _ _ _ _ s8 σ8 H8 _ I8 q8) (λc s9 h9=> ?_) (λ_ _ z=>False.elim z)
   obtain⟨H9,I9,q9⟩:=h9;cases c with
   | false=>exact again I9 q9
   | true=>
    rw[a8 rfl]at q9⊢;refine bR (he _ _ _ _ _ _ _ _ s9 σ8 H9 _ I9 q9) (λ_ s10 h10=> ?_) (λ_ _ z=>False.elim z)
    obtain⟨σ10,H10,I10,q10⟩:=h10;exact again I10 q10
 exact codeAny_compStart_list loop (T.self _ 0 _ _ _ st4 loop)
theorem vN {X:Cx}{N:List Str}{cap:List (Option Nat)}{scope:Scope}{pins:List (Addr×Obj)}{s:Shared}{σ:L2.St}{H:Hp}(S:cW X.env X.N N cap scope)(I:Inv X pins σ H s) :
  ∃cl,closureFor scope X.env=pure cl/\(∀x c,cl.lookup x=some c->X.env.cells.lookup x=some c)/\ ∀y∈scope.names,y.2= .free-> ∃c,cl.lookup y.1=some c:=by
 obtain⟨cl,h1,h2,_,h4⟩:=sU (env:=X.env) scope.names (λy hy hf=>I.ok.has y.1 (S.frees y hy hf)) [] (λx c q=>by simp at q)
 refine⟨cl,?_,h2,h4⟩
 have e:closureFor scope X.env=(forIn scope.names [] fun(x:Str×NameKind) r=>(do if(x.2==NameKind.free)=true then do let c<-cellOf X.env x.1;pure (ForInStep.yield ((x.1,c)::r))else pure (ForInStep.yield r)):Sem (List<|Str×Addr)) >>= λr=>pure r:=by
  rfl
 rw[e,h1];rfl
theorem bU4 {X:Cx}{elt iter tg:Expr}{ifs:List Expr}{eH:List Comprehension}{scope:Scope}{pos:Pos}{N:List Str}{cap:List (Option Nat)}{last:Nat}{wi:TI}{g:TG}{tt:TT}{em:Value->Env->Sem Unit}{tem:Addr->L2.St->Hp->(L2.St->Hp->Prop)->Prop}(hem: ∀it acc env,compTurn (.ListComp elt (⟨tg,iter,ifs,0⟩::eH) scope pos) 0 it acc env=xD (.ListComp elt (⟨tg,iter,ifs,0⟩::eH) scope pos) 0 tg iter.pos ifs (em acc env) it acc env)(hc:X.calm=true)(hi:PI X tg iter wi)(S:cW X.env X.N N cap scope)
  (hN: ∀x,N[last]? =some x->scope.names.lookup x=none)
  (hg: ∀cl C s H fp pins,PG (bM X N scope cl C s H fp pins) tg g) (ht: ∀cl C s H fp pins,PTs (bM X N scope cl C s H fp pins) ifs tt) (he: ∀cl C s H fp pins,PEm (bM X N scope cl C s H fp pins) em tem)
  (hs: ∀x,foldedSetIterable iter X.env x=pure x:=by intro _;rfl):PE X (.ListComp elt (⟨tg,iter,ifs,0⟩::eH) scope pos) (a72 cap last wi g tt tem):=by
 intro pins s σ H Q I h;rw[eval_ListComp];obtain⟨cl,hcl0,hcl,hcl2⟩:=vN S I;refine wpAny_comprehension_free (use:=none) rfl hs hcl0 S.kind S.names ?_;refine aH3 (RR:=λacc C=>compPost (model X.prog X.w) X.A X.xe none (EP X pins σ Q) acc C) hem hc hi S hN hg ht he I h hcl hcl2 λD fp H3 s3 σ' H' s' I3 f3 I' q=> ?_
 obtain⟨m6,hn6,_⟩:=I'.loc;exact⟨m6,hn6,λh' hs'=>⟨.ref D,H',aH2 I3 f3 (aC _) I' hs',rfl,q⟩⟩
theorem a73 {X:Cx}{elt iter tg:Expr}{ifs:List Expr}{eH:List Comprehension}{scope:Scope}{pos spos py:Pos}{y:Str}{i:Nat}{N:List Str}{cap:List (Option Nat)}{last:Nat}{wi:TI}{g:TG}{tt:TT}{em:Value->Env->Sem Unit}{tem:Addr->L2.St->Hp->(L2.St->Hp->Prop)->Prop}(hem: ∀it acc env,compTurn (.ListComp elt (⟨tg,iter,ifs,0⟩::eH) scope pos) 0 it acc env=xD (.ListComp elt (⟨tg,iter,ifs,0⟩::eH) scope pos) 0 tg iter.pos ifs (em acc env) it acc env)(hc:X.calm=true)(hi:PI X tg iter wi)(S:cW X.env X.N N cap scope)
  (hN: ∀x,N[last]? =some x->scope.names.lookup x=none)
  (hg: ∀cl C s H fp pins,PG (bM X N scope cl C s H fp pins) tg g) (ht: ∀cl C s H fp pins,PTs (bM X N scope cl C s H fp pins) ifs tt) (he: ∀cl C s H fp pins,PEm (bM X N scope cl C s H fp pins) em tem)
  (hy:PG X (.Name y py) (u7 i)) (hsw:swapsWith (.ListComp elt (⟨tg,iter,ifs,0⟩::eH) scope pos) (some<|.Name y py) spos.line X.env=pure true:=by rfl)
  (hs: ∀x,foldedSetIterable iter X.env x=pure x:=by intro _;rfl):PS X (.Assign [.Name y py] (.ListComp elt (⟨tg,iter,ifs,0⟩::eH) scope pos) spos) (tAsg (a72 cap last wi g tt tem)<|u7 i):=by
 intro pins s σ H D I h;rw[exec_Assign_Name_used _ _ _ _ hsw];refine a9 (sB<|a9 ?_);obtain⟨cl,hcl0,hcl,hcl2⟩:=vN S I;show wpAny _ X.A (do let _<-comprehension (.ListComp elt (⟨tg,iter,ifs,0⟩::eH) scope pos) scope X.env _ (newList []) false (eval iter X.env) (some<|assign (.Name y py) X.env)) _ _ s
 refine a9 (bR (wpAny_comprehension_free (use:=some (assign (.Name y py) X.env)) (Q:=λ_ s'=>SP X pins D .next s') rfl hs hcl0 S.kind S.names ?_) (λ_ s' hq=>aF (aF hq)) λ_ _ e=>e)
 refine aH3 (RR:=λacc C=>compPost (model X.prog X.w) X.A X.xe (some<|assign (.Name y py) X.env) (λ_ s'=>SP X pins D .next s') acc C) hem hc hi S hN hg ht he I (show a72 cap last wi g tt tem σ H (λx H1=>u7 i x σ H1 D.nx)from h) hcl hcl2 λD' fp H3 s3 σ' H' s' I3 f3 I' q=> ?_
 obtain⟨m6,hn6,_⟩:=I'.loc;obtain⟨o6,es6,ep6,ho6,rest6⟩:=id hn6;have J:Inv X pins σ H' s':=aH2 (h2:=s'.heap) I3 f3 (aC _) I' (.refl ..);have fC:H' s3.heap.objs.size=none:=I'.free;have neL:s3.heap.objs.size≠X.env.locals:=l7 I3.lt;have neF:s3.heap.objs.size ∉ X.fs:=I3.nofs (aC _);have neC: ∀x c,X.env.cells.lookup x=some c->c≠s3.heap.objs.size:=λx c e z=>by
  obtain⟨v,qq⟩:=I3.cell x c e;exact absurd (bO qq.lt (by rw[z];exact aC _)) (dQ _)
 have neP: ∀p∈X.pn++pins,p.1≠s3.heap.objs.size:=λp hp z=>by
  have:=aM (I3.pin p hp).1;rw[z]at this;exact dQ _ this
 have nd: ∀v,o6.data≠ .cell v:=λv z=>by
  have:o6.data= .dict es6 ep6:=rest6.1;rw[this]at z;cases z
 have J':Inv X (pins++[(s3.heap.objs.size,o6)]) σ H' s':=J.pins_of λp hp=>(cB.mp hp).elim (λz=>J.pin p (cL _ z)) λz=>by
  have e:p=(s3.heap.objs.size,o6):=by simpa using z
  subst e;exact⟨ho6,fC,neL,neF,nd⟩
 show wpAny _ X.A (assign (.Name y py) X.env<|.ref D') _ _ _
 refine thn (hy _ s' σ H' (.ref D') (.ref D') D.nx J' rfl q) λ_ s7 ⟨σ7,H7,I7,q7⟩=> ?_
 obtain⟨e7,n7,_⟩:=I7.pin (s3.heap.objs.size,o6) (cL _<|cL _ ae)
 refine⟨m6,⟨o6,es6,ep6,e7,rest6⟩,λh' hs'=> ?_⟩
 have I8:=I7.unpinned;exact⟨σ7,H7,I8.turned (t':=s7.toks) (λb o hb e=>(hs'.2 b hb).trans e) n7 neL (.inr<|aV I3.sz<|aC _) neC neP,q7⟩
end L2
namespace M
open PySem PySem.Spec PyProof.Rows L2
noncomputable def bU5:B->B
 | .pu d=> .pu d
 | .ow l=> .bo l
 | .bo l=> .bo l
noncomputable def iI (ρ:Ev)(cap:List (Option Nat))(last:Nat):Ev:=(cap.map λc=>c.bind λj=>((ρ[j]?).join).map bU5).set last (some<|.ow [])
noncomputable def bJ0 (ρ:Ev)(j:Nat):Ev:=match ρ[j]? with
 | some (some<|.ow l)=>ρ.set j (some<|.pu<|.lst l)
 | _=>ρ
noncomputable def pW:Ev->List Nat->Ev
 | ρ,[]=>ρ
 | ρ,j::js=>pW (bJ0 ρ j) js
theorem bJ1 (ρ:Ev)(j:Nat):Frz ρ (bJ0 ρ j):=by
 unfold bJ0;split
 ·rename_i l e
  exact .set e
 ·exact .refl _
theorem aR5: ∀(js:List Nat) (ρ:Ev),Frz ρ (pW ρ js)
 | [],ρ=> .refl _
 | j::js,ρ=>(bJ1 ρ j).trans (aR5 js _)
def iJ (js:List Nat)(cap:List (Option Nat))(last:Nat)(ui:UI)(g:UG)(tt:UT)(te:UE):UE:=λρ Q=>ui ρ λn it ρ1=> ∃Pv:Nat->Ev->Prop,Pv 0 (iI (pW ρ1 js) cap last)/\
 (∀i ρ',i<n->Pv i ρ'->g (.pu<|it i) ρ' λρ2=>tt ρ2 λc ρ3=>if c=true then te ρ3 λb ρ4=>kK ρ4 last λl=>l.length<sizeLine/\Pv (i+1) (ρ4.set last<|some<|.ow<|l++[b.d])else Pv (i+1) ρ3)/\
 ∀ρ',Pv n ρ'->kK ρ' last λl=>Q (.ow l) (pW ρ1 js)
def aZ3 (js:List Nat)(cap:List (Option Nat))(last:Nat)(ui:UI)(g:UG)(tt:UT)(uem:(Ev->Prop)->Ev->Prop):UE:=λρ Q=>ui ρ λn it ρ1=> ∃Pv:Nat->Ev->Prop,Pv 0 (iI (pW ρ1 js) cap last)/\
 (∀i ρ',i<n->Pv i ρ'->g (.pu<|it i) ρ' λρ2=>tt ρ2 λc ρ3=>if c=true then uem (Pv<|i+1) ρ3 else Pv (i+1) ρ3)/\
 ∀ρ',Pv n ρ'->kK ρ' last λl=>Q (.ow l) (pW ρ1 js)
def uPut (last:Nat)(te:UE)(Nx:Ev->Prop)(ρ:Ev):Prop:=te ρ λb ρ4=>kK ρ4 last λl=>l.length<sizeLine/\Nx (ρ4.set last<|some<|.ow<|l++[b.d])
def bU6 (K:Frag)(last:Nat)(uem:(Ev->Prop)->Ev->Prop)(tem:Addr->L2.St->Hp->(L2.St->Hp->Prop)->Prop):Prop:= ∀(C:C0) (ρ:Ev) (σ:L2.St) (H:Hp) (Dn:Addr) (Nx:Ev->Prop) (NX:L2.St->Hp->Prop),EOk K C ρ σ H->σ[last]? =some (some<|.ref Dn)->uem Nx ρ->(∀ρ2 σ2 H2,EOk K C ρ2 σ2 H2->σ2[last]? =some (some<|.ref Dn)->Nx ρ2->NX σ2 H2)->tem Dn σ H NX
section
variable {X:Cx}{K:Frag}{C:C0}{ρ ρ':Ev}{σ σ':L2.St}{H H':Hp}
theorem bJ2 {cap:List (Option Nat)}{last:Nat}{Dn:Addr}(I:EOk K C ρ σ H)(hl:last<cap.length)(n:H Dn=none) :
  EOk K ⟨H,Av C ρ σ⟩ (iI ρ cap last) (mD σ cap last Dn) (upd H Dn<|.lst []):=by
 have pu: ∀(i:Nat) (z:B),last≠i->(iI ρ cap last)[i]? =some (some z)-> ∃(j:Nat) (z':B),cap[i]? =some (some j)/\z=bU5 z'/\ρ[j]? =some (some z'):=λi z ne h=>by
  unfold iI at h;rw[get_set_ne ne,dD]at h;cases e4:cap[i]? with
  | none=>rw[e4]at h;cases h
  | some c=>
   rw[e4]at h;cases c with
   | none=>cases h
   | some j=>
    have h':((ρ[j]?).join).map bU5=some z:=by simpa using h
    cases q:ρ[j]? with
    | none=>rw[q]at h';cases h'
    | some w=>
     rw[q]at h';cases w with
     | none=>cases h'
     | some w'=>cases h';exact⟨j,w',rfl,rfl,q⟩
 have sgm: ∀(i j:Nat) (v:V),last≠i->cap[i]? =some (some j)->σ[j]? =some (some v)->(mD σ cap last Dn)[i]? =some (some v):=λi j v e e1 h1=>by
  unfold mD;rw[get_set_ne e,dD,e1];show some ((σ[j]?).join)=_;rw[h1];rfl
 have atl:(iI ρ cap last)[last]? =some (some<|.ow []):=by
  unfold iI;exact bV (by rw[aI];exact hl)
 have sal:(mD σ cap last Dn)[last]? =some (some<|.ref Dn):=by
  unfold mD;exact bV (by rw[aI];exact hl)
 have noOw: ∀(i:Nat) (l:List D),last≠i->(iI ρ cap last)[i]? ≠some (some<|.ow l):=λi l e h=>by
  obtain⟨j,z',_,z,_⟩:=pu i _ e h;cases z'<;>cases z
 have own: ∀a,Own (iI ρ cap last) (mD σ cap last Dn) a->a=Dn:=λa ⟨i,l,h1,h2⟩=>by
  by_cases e:last=i
  ·subst e;rw[sal]at h2;cases h2;rfl
  ·exact absurd h1 (noOw i l e)
 have P:j9 (Av C ρ σ) H (Av ⟨H,Av C ρ σ⟩ (iI ρ cap last)<|mD σ cap last Dn) (upd H Dn<|.lst []):=λb o nb e=>by
  have ne:b≠Dn:=λz=>by subst z;rw[n]at e;cases e
  refine⟨?_,by rw[dG ne];exact e⟩
  rintro(z|z)
  ·exact nb z
  ·exact ne (own b z)
 refine⟨by unfold iI mD;rw[bT,bT,aI,aI],λi d h=> ?_,λi l h=> ?_,λi j l l' a h1 h2 h3 h4=> ?_,λi l h=> ?_,cZ n _,λa z=>I.avSome z⟩
 ·by_cases e:last=i
  ·subst e;rw[atl]at h;cases h
  ·obtain⟨j,z',e1,z,e2⟩:=pu i _ e h;cases z' with
   | pu d'=>
    cases z;obtain⟨v,h1,h2⟩:=I.pu j d e2;exact⟨v,sgm i j v e e1 h1,h2.mono P⟩
   | ow l=>cases z
   | bo l=>cases z
 ·by_cases e:last=i
  ·subst e;rw[atl]at h;cases h;exact⟨Dn,[],sal,lZ,n,.nil⟩
  ·exact absurd h (noOw i l e)
 ·have e1:last=i:=w6 λe=>absurd h1 (noOw i l e)
  have e2:last=j:=w6 λe=>absurd h2 (noOw j l' e)
  exact e1.symm.trans e2
 ·by_cases e:last=i
  ·subst e;rw[atl]at h;cases h
  ·obtain⟨j,z',e1,z,e2⟩:=pu i _ e h;cases z' with
   | pu d'=>cases z
   | ow l'=>
    cases z;obtain⟨a,vs,h1,h2,h3,h4⟩:=I.ow j l e2;exact⟨a,vs,sgm i j _ e e1 h1,.inr ⟨j,l,e2,h1⟩,h2,h4.mono P⟩
   | bo l'=>
    cases z;obtain⟨a,vs,h1,h2,h3,h4⟩:=I.bo j l e2;exact⟨a,vs,sgm i j _ e e1 h1,.inl h2,I.ext _ _ h3,h4.mono P⟩
theorem bJ3 {last:Nat}{te:UE}:bU6 K last (uPut last te) (tPut<|lE K te):=λC ρ σ H Dn Nx NX J l3 q nx=>⟨C,ρ,_,J,q,λb ρ5 v H5 q5 f5 s5 r5=>by
 have J5:=(J.frz f5).same s5;obtain⟨l,hl5,hz,q5⟩:=j2 q5;obtain⟨a,vs,g1,g2,g3,g4⟩:=J5.ow last l hl5;rw[l3]at g1;cases g1;exact⟨vs,g2,by rw[<-g4.length];exact hz,nx _ _ _ (J5.write hl5 l3<|g4.append<|.cons (r5.rep λa z=>J.avF f5 z) .nil) l3 q5⟩⟩
theorem c00 {js:List Nat}{cap:List (Option Nat)}{last:Nat}{ui:UI}{g:UG}{T:List Nat}{tt:UT}{uem:(Ev->Prop)->Ev->Prop}{tem:Addr->L2.St->Hp->(L2.St->Hp->Prop)->Prop}(em:bU6 K last uem tem)(hl:last<cap.length)(hT:last ∉ T)(σ:L2.St)(H:Hp)(Q:VK)(h:lE K (aZ3 js cap last ui g tt uem) σ H Q) :
  a72 cap last (lI K ui) (lG K T g) (lT K tt) tem σ H Q:=by
 obtain⟨C,ρ,Q0,I,h,k⟩:=h;refine⟨C,ρ,_,I,h,λn it ρ1 J H1 q f s ok Dn nD=> ?_⟩
 obtain⟨Pv,p0,turn,fin⟩:=q;have fz:=aR5 js ρ1;have I1:EOk K C (pW ρ1 js) σ H1:=((I.frz f).same s).frz fz;generalize pW ρ1 js=ρ2 at fz I1 p0 fin;have P12: ∀{A':AS} {H':Hp},j9 (Av C ρ2 σ) H1 A' H'->j9 (Av C ρ1 σ) H1 A' H':=λp b o nb e=>p b o (λz=>nb (fz.av z)) e
 have I2:=bJ2 I1 hl nD;have own0: ∀{ρ':Ev} {σ':L2.St} {H':Hp},EOk K ⟨H1,Av C ρ2 σ⟩ ρ' σ' H'->j9 (Av C ρ2 σ) H1 (Av ⟨H1,Av C ρ2 σ⟩ ρ' σ') H':=λ{ρ' σ' H'} J' b o nb e=>by
  refine⟨?_,J'.ext b o e⟩
  rintro(z| ⟨i,l,h1,h2⟩)
  ·exact nb z
  ·obtain⟨a,vs,h3,h4,h5,_⟩:=J'.ow i l h1;rw[h2]at h3;cases h3;have e':(⟨H1,Av C ρ2 σ⟩:C0).H0 b=some o:=e;rw[h5]at e';cases e'
 have sal:(mD σ cap last Dn)[last]? =some (some<|.ref Dn):=by
  unfold mD;exact bV (by rw[aI];exact hl)
 refine⟨λi m σ' H'=>m=n-i/\i<=n/\σ'[last]? =some (some<|.ref Dn)/\ ∃ρ',EOk K ⟨H1,Av C ρ2 σ⟩ ρ' σ' H'/\Pv i ρ',⟨n,rfl,cO _,sal,_,I2,p0⟩,?_⟩
 rintro i m σ' H' ⟨rfl,hi,hlast,ρ',J',p'⟩;have P:=P12 (own0 J')
 by_cases hlt:i<n
 ·refine .inr ⟨ok.go _ _ i P hlt,λσ2 H2=>σ2[last]? =some (some<|.ref Dn)/\ ∃ρ3,EOk K ⟨H1,Av C ρ2 σ⟩ ρ3 σ2 H2/\Pv (i+1) ρ3,λσ2 H2 z=>⟨n-(i+1),aa,rfl,hlt,z⟩,λx H2 y=> ?_⟩
  obtain⟨s2,r2⟩:=ok.yld _ _ i x H2 P (λa z=>J'.avSome z) hlt y
  refine⟨_,ρ',.pu<|it i,H',_,J',s2,r2,turn i ρ' hlt p',λρ3 σ3 H3 q3 J3 same3=> ?_⟩
  have l3:σ3[last]? =some (some<|.ref Dn):=(same3 last hT).trans hlast;refine⟨_,ρ3,_,J3,q3,λc ρ4 H4 q4 f4 s4=> ?_⟩
  have J4:=(J3.frz f4).same s4;cases c with
  | false=>
   dsimp only at q4⊢;rw[a7 aY]at q4⊢;exact⟨l3,ρ4,J4,q4⟩
  | true=>
   dsimp only at q4⊢;rw[a8 rfl]at q4⊢;exact em _ ρ4 _ _ Dn _ _ J4 l3 q4 λρ5 σ5 H5 J5 l5 q5=>⟨l5,ρ5,J5,q5⟩
 ·have e:i=n:=aa
  subst e;obtain⟨l,hl5,q5⟩:=j2 (fin ρ' p');obtain⟨a,vs,g1,g2,g3,g4⟩:=J'.ow last l hl5;rw[hlast]at g1;cases g1;refine .inl ⟨ok.stop _ _ P,k _ _ _ _ q5 (f.trans fz) (s.trans J'.ext) ⟨Dn,vs,rfl,s.free nD,g2,?_⟩⟩;refine g4.mono λb o nb e=>⟨?_,e⟩
  rintro(z|z)
  ·exact nb (.inl z)
  ·subst z;exact nb (.inr ⟨last,l,hl5,hlast⟩)
theorem j4: ∀{X:Cx},PTs X [] (lT X.K λρ Q=>Q true ρ):=λ{X} pins s σ H Q I ⟨C,ρ,Q0,J,h,k⟩=>bU2 pins s σ H Q I (k _ ρ H h (.refl _)<|.refl _)
theorem b57 {c:Expr}{t:UT}(h:PUT X c t):PTs X [c] (lT X.K t):=bU3 h
theorem bJ4 {elt iter tg:Expr}{ifs:List Expr}{eH:List Comprehension}{scope:Scope}{pos:Pos}{N:List Str}{js:List Nat}{cap:List (Option Nat)}{last:Nat}{ui:UI}{g:UG}{T:List Nat}{tt:UT}{em:Value->Env->Sem Unit}{uem:(Ev->Prop)->Ev->Prop}{tem:Addr->L2.St->Hp->(L2.St->Hp->Prop)->Prop}(ek:bU6 X.K last uem tem)(hem: ∀it acc env,compTurn (.ListComp elt (⟨tg,iter,ifs,0⟩::eH) scope pos) 0 it acc env=xD (.ListComp elt (⟨tg,iter,ifs,0⟩::eH) scope pos) 0 tg iter.pos ifs (em acc env) it acc env)(hc:X.calm=true)(hi:PUI X tg iter ui)(S:cW X.env X.N N cap scope)
  (hN: ∀x,N[last]? =some x->scope.names.lookup x=none) (hl:last<cap.length) (hT:last ∉ T)
  (hg: ∀cl C s H fp pins,PUG (bM X N scope cl C s H fp pins) tg T g) (ht: ∀cl C s H fp pins,PTs (bM X N scope cl C s H fp pins) ifs<|lT X.K tt) (he: ∀cl C s H fp pins,PEm (bM X N scope cl C s H fp pins) em tem)
  (hs: ∀x,foldedSetIterable iter X.env x=pure x:=by intro _;rfl):PU X (.ListComp elt (⟨tg,iter,ifs,0⟩::eH) scope pos) (aZ3 js cap last ui g tt uem):=
 hZ (bU4 (g:=lG X.K T g) (tt:=lT X.K tt) hem hc hi S hN hg ht he hs) (c00 ek hl hT)
theorem bU7 {elt iter tg:Expr}{ifs:List Expr}{scope:Scope}{pos:Pos}{N:List Str}{js:List Nat}{cap:List (Option Nat)}{last:Nat}{ui:UI}{g:UG}{T:List Nat}{tt:UT}{te:UE}(hc:X.calm=true)(hi:PUI X tg iter ui)(S:cW X.env X.N N cap scope)
  (hN: ∀x,N[last]? =some x->scope.names.lookup x=none) (hl:last<cap.length) (hT:last ∉ T)
  (hg: ∀cl C s H fp pins,PUG (bM X N scope cl C s H fp pins) tg T g) (ht: ∀cl C s H fp pins,PTs (bM X N scope cl C s H fp pins) ifs<|lT X.K tt) (he: ∀cl C s H fp pins,PU (bM X N scope cl C s H fp pins) elt te)
  (hs: ∀x,foldedSetIterable iter X.env x=pure x:=by intro _;rfl):PU X (.ListComp elt [⟨tg,iter,ifs,0⟩] scope pos) (iJ js cap last ui g tt te):=
 bJ4 (js:=js) (bJ3 (te:=te)) (λ_ _ _=>rfl) hc hi S hN hl hT hg ht (λcl C s H fp pins=>aM4 (he cl C s H fp pins)) hs
theorem aR6 {elt iter tg:Expr}{ifs:List Expr}{eH:List Comprehension}{scope:Scope}{pos spos py:Pos}{y:Str}{N:List Str}{js:List Nat}{cap:List (Option Nat)}{last:Nat}{ui:UI}{g:UG}{T:List Nat}{tt:UT}{em:Value->Env->Sem Unit}{uem:(Ev->Prop)->Ev->Prop}{tem:Addr->L2.St->Hp->(L2.St->Hp->Prop)->Prop}(i:Nat)(ek:bU6 X.K last uem tem)(hem: ∀it acc env,compTurn (.ListComp elt (⟨tg,iter,ifs,0⟩::eH) scope pos) 0 it acc env=xD (.ListComp elt (⟨tg,iter,ifs,0⟩::eH) scope pos) 0 tg iter.pos ifs (em acc env) it acc env)(hc:X.calm=true)(hi:PUI X tg iter ui)(S:cW X.env X.N N cap scope)
  (hN: ∀x,N[last]? =some x->scope.names.lookup x=none) (hl:last<cap.length) (hT:last ∉ T)
  (hg: ∀cl C s H fp pins,PUG (bM X N scope cl C s H fp pins) tg T g) (ht: ∀cl C s H fp pins,PTs (bM X N scope cl C s H fp pins) ifs<|lT X.K tt) (he: ∀cl C s H fp pins,PEm (bM X N scope cl C s H fp pins) em tem)
  (hy:PG X (.Name y py) (u7 i)) (hi': ∀pins σ H s,Inv X pins σ H s->i<σ.length) (hsw:swapsWith (.ListComp elt (⟨tg,iter,ifs,0⟩::eH) scope pos) (some<|.Name y py) spos.line X.env=pure true:=by rfl)
  (hs: ∀x,foldedSetIterable iter X.env x=pure x:=by intro _;rfl):PUS X (.Assign [.Name y py] (.ListComp elt (⟨tg,iter,ifs,0⟩::eH) scope pos) spos) (cP i<|aZ3 js cap last ui g tt uem):=by
 intro pins s σ H D I q;refine a73 (g:=lG X.K T g) (tt:=lT X.K tt) hem hc hi S hN hg ht he hy hsw hs pins s σ H D I ?_;obtain⟨C,ρ,D0,J,h,k⟩:=q;exact c00 ek hl hT σ H _ ⟨C,ρ,_,J,h,λb ρ1 v H1 q f s1 r=>k.nx _ _ _ q ((J.frz f).store s1 r<|hi' pins σ H s I)⟩
theorem aZ4 {elt iter tg:Expr}{ifs:List Expr}{scope:Scope}{pos spos py:Pos}{y:Str}{N:List Str}{js:List Nat}{cap:List (Option Nat)}{last:Nat}{ui:UI}{g:UG}{T:List Nat}{tt:UT}{te:UE}(i:Nat)(hc:X.calm=true)(hi:PUI X tg iter ui)(S:cW X.env X.N N cap scope)
  (hN: ∀x,N[last]? =some x->scope.names.lookup x=none) (hl:last<cap.length) (hT:last ∉ T)
  (hg: ∀cl C s H fp pins,PUG (bM X N scope cl C s H fp pins) tg T g) (ht: ∀cl C s H fp pins,PTs (bM X N scope cl C s H fp pins) ifs<|lT X.K tt) (he: ∀cl C s H fp pins,PU (bM X N scope cl C s H fp pins) elt te)
  (hy:PG X (.Name y py) (u7 i)) (hi': ∀pins σ H s,Inv X pins σ H s->i<σ.length) (hsw:swapsWith (.ListComp elt [⟨tg,iter,ifs,0⟩] scope pos) (some<|.Name y py) spos.line X.env=pure true:=by rfl)
  (hs: ∀x,foldedSetIterable iter X.env x=pure x:=by intro _;rfl):PUS X (.Assign [.Name y py] (.ListComp elt [⟨tg,iter,ifs,0⟩] scope pos) spos) (cP i<|iJ js cap last ui g tt te):=
 aR6 (js:=js) i (bJ3 (te:=te)) (λ_ _ _=>rfl) hc hi S hN hl hT hg ht (λcl C s H fp pins=>aM4 (he cl C s H fp pins)) hy hi' hsw hs
end
end M
end
section
namespace L2
open PySem PySem.Spec PyProof.Rows
section
variable {X:Cx}
theorem b58 {bs:List Bool}: ∀{its:List Value},Vals (bs.map V.bl) its->LSm.BoolsAre its bs:=by
 induction bs with
 | nil=>intro its r;cases r;exact .nil
 | cons b bs ih=>
  intro its r;cases r with
  | cons r1 r2=>
   cases r1;exact .cons b (ih r2)
theorem aZ5 (hc:X.calm=true):m9 X (.builtin "all") (λxs H Q=> ∃(p:Addr) (bs:List Bool),xs=[.ref p]/\SqL X.K H p (bs.map V.bl)/\Q (.bl<|bs.all id) H):=by
 intro pins s σ H xs us Q I r h;obtain⟨p,bs,rfl,hq,q⟩:=h;obtain⟨u,rfl,rx⟩:=vals1 r;cases rx;obtain⟨its,rv,pl,hz⟩:=I.list hq;have ba:=b58 rv;refine call_all_walk (o9 pl.isList ?_);have hne:p≠s.heap.objs.size:=by
  obtain⟨o,n,e,_⟩:=pl;exact aW (aM e)
 refine⟨s.heap.objs.size,_,_,_,_,_,λi=>(bs[i]?).getD true,rfl,Walks.list (A:=X.A.in1) (I.ok.hd hc) s.heap.objs.size p (λz=>hne z) its.toArray,⟨⟨_,bK _ rfl,rfl,rfl⟩,pl.isList.push _⟩,?_,λh' tk hk=> ?_⟩
 ·intro i v s' Q' E' hP hQ;obtain⟨b,hb,rfl⟩:=ba.get i v (by simpa using hP)
  refine jN ?_
  have e:(λi=>(bs[i]?).getD true) i=b:=by simp[hb]
  dsimp only at hQ;rw[hb]at hQ;exact hQ
 ·have e:=LSm.range_all bs;have hl:=ba.length;have e2:its.toArray.size=bs.length:=by rw[aU,hl]
  rw[e2,e];exact⟨.bl<|bs.all id,H,I.kept λb o e=>hk b o (by simpa using aW (aM e)) (aO _ e),rfl,q⟩
noncomputable def nV (esc:List (Str×NameKind))(XN N:List Str)(cap:List (Option Nat))(scope:Scope)(last:Nat):Bool:=
 (scope.kind== .function)&&scope.names.all (λy=>y.2 != .cell||scope.names.lookup y.1==some .cell)&&scope.names.all (λy=>y.2 != .free||scope.names.lookup y.1==some .free)&&scope.names.all (λy=>y.2 != .local||scope.names.lookup y.1==some .local)&&
 scope.names.all (λy=>y.2 != .free||esc.lookup y.1==some .cell||esc.lookup y.1==some .free)&&
 (N.zip cap).all (λz=>match z.2 with|none=>true|some j=>XN[j]? ==some z.1&&scope.names.contains (z.1,.free)&&scope.names.lookup z.1==some .free)&&
 (cap.length==N.length)&&(match N[last]? with|some x=>(scope.names.lookup x).isNone|none=>true)
theorem cW.of {env:Env}{esc:List (Str×NameKind)}{XN N:List Str}{cap:List (Option Nat)}{scope:Scope}{last:Nat}(he:env.scope.names=esc)(h:nV esc XN N cap scope last=true) :
  cW env XN N cap scope/\ ∀x,N[last]? =some x->scope.names.lookup x=none:=by
 unfold nV at h;simp only[c8,gN,oK]at h;obtain⟨⟨⟨⟨⟨⟨⟨h1,h2⟩,h2'⟩,h3⟩,h4⟩,h5⟩,h6⟩,h7⟩:=h;have hk: ∀x,env.kindOf x=esc.lookup x:=λx=>by unfold Env.kindOf;rw[he]
 refine⟨⟨h1,λy hy hl=>by have:=h2 y hy;rw[hl]at this;simpa using this,λy hy hl=>by have:=h2' y hy;rw[hl]at this;simpa using this,λy hy hl=> ?_,λy hy hf=> ?_,λi j x e1 e2=> ?_,h6⟩,λx e=> ?_⟩
 ·have:=h3 y hy;rw[hl]at this
  simpa using this
 ·have:=h4 y hy;rw[hf]at this;rw[hk]
  simpa using this
 ·have hm:(x,some j)∈N.zip cap:=by
   refine gM (i:=i) ?_
   rw[List.getElem?_zip_eq_some];exact⟨e1,e2⟩
  have:=h5 _ hm;simp only[c8,oK]at this;obtain⟨⟨a,b⟩,c⟩:=this;exact⟨a,by simpa using b,c⟩
 ·rw[e]at h7
  simpa using h7
end
end L2
namespace M
open PySem PySem.Spec PyProof.Rows L2
section
variable {X:Cx}{K:Frag}{A:AS}{H:Hp}
noncomputable def pX:List D->Option (List Bool)
 | []=>some []
 | .bl b::r=>(pX r).map (b::·)
 | _=>none
theorem sV (bs:List Bool):pX (bs.map .bl)=some bs:=by
 induction bs with
 | nil=>rfl
 | cons b bs ih=>rw[cD];show(pX<|bs.map .bl).map _=_;rw[ih];rfl
theorem xE: ∀{l:List D} {bs:List Bool} {vs:List V},pX l=some bs->bI K A H l vs->vs=bs.map V.bl
 | [],bs,vs,h,r=>by cases h;exact r.unnil
 | d::r,bs,vs,h,q=>by
  obtain⟨v,vr,rfl,rv,rr⟩:=q.uncons;cases d with
  | bl b=>
   have h':(pX r).map (b::·)=some bs:=h;cases e:pX r with
   | none=>rw[e]at h';cases h'
   | some bs'=>
    rw[e]at h';cases h';rw[sS rv,xE e rr];rfl
  | _=>cases h
noncomputable def bJ5:List D->(B->Prop)->Prop:=g1 λd Q=>match d with
 | .lst l=>(match pX l with
  | some bs=>Q (.pu<|.bl<|bs.all id)
  | none=>False)
 | _=>False
theorem aZ6 (hc:X.calm=true):qO X (.builtin "all") bJ5:=by
 intro A H ds vs Q0 Q hA r g k;obtain⟨d,v,rfl,rfl,rv,g⟩:=uA g r;cases d with
 | lst l=>
  dsimp only at g;cases e:pX l with
  | none=>rw[e]at g;exact g.elim
  | some bs=>
   rw[e]at g;simp only[Rep]at rv;obtain⟨a,vs,rfl,n,c,rs⟩:=rv;rw[xE e rs]at c;exact⟨_,aZ5 hc,a,bs,rfl,SqL.of c,k _ _ H g (.refl _) jA⟩
 | _=>exact(show False from g).elim
theorem bU8 {x:Str}{i:Int}{t:Tok}{p:Pos}(hg:Gl X x)(hm:X.mg x=some (.int i t))(hd:(x==("__debug__":Str))=false:=by decide):PU X (.Name x p) (uC<|.int i):=
 b49 (b39 (v:= .int i) hg hm ⟨t,rfl⟩ hd) λA H=>by simp only[Rep]
theorem aZ7:bootBuiltins "all"=some (.builtin "all"):=af
theorem a74 {elt iter tg:Expr}{ifs:List Expr}{scope:Scope}{pos:Pos}{esc:List (Str×NameKind)}{N:List Str}{js:List Nat}{cap:List (Option Nat)}{last:Nat}{ui:UI}{g:UG}{T:List Nat}{tt:UT}{te:UE}{XN:List Str}(he0:X.env.scope.names=esc)(hx0:X.N=XN)(lk:nV esc XN N cap scope last=true)(hl:last<cap.length)(hT:last ∉ T)(hc:X.calm=true)(hi:PUI X tg iter ui)
  (hg: ∀cl C s H fp pins,PUG (bM X N scope cl C s H fp pins) tg T g) (ht: ∀cl C s H fp pins,PTs (bM X N scope cl C s H fp pins) ifs<|lT X.K tt) (he: ∀cl C s H fp pins,PU (bM X N scope cl C s H fp pins) elt te)
  (hs: ∀x,foldedSetIterable iter X.env x=pure x:=by intro _;rfl):PU X (.ListComp elt [⟨tg,iter,ifs,0⟩] scope pos) (iJ js cap last ui g tt te):=
 bU7 hc hi (cW.of he0<|hx0▸lk).1 (cW.of he0<|hx0▸lk).2 hl hT hg ht he hs
theorem uF {elt iter tg:Expr}{ifs:List Expr}{scope:Scope}{pos spos py:Pos}{y:Str}{esc:List (Str×NameKind)}{N:List Str}{js:List Nat}{cap:List (Option Nat)}{last:Nat}{ui:UI}{g:UG}{T:List Nat}{tt:UT}{te:UE}(i:Nat){XN:List Str}(he0:X.env.scope.names=esc)(hx0:X.N=XN)(lk:nV esc XN N cap scope last=true)(hl:last<cap.length)(hT:last ∉ T)(hc:X.calm=true)(hi:PUI X tg iter ui)
  (hg: ∀cl C s H fp pins,PUG (bM X N scope cl C s H fp pins) tg T g) (ht: ∀cl C s H fp pins,PTs (bM X N scope cl C s H fp pins) ifs<|lT X.K tt) (he: ∀cl C s H fp pins,PU (bM X N scope cl C s H fp pins) elt te)
  (hy:PG X (.Name y py) (u7 i)) (hi': ∀pins σ H s,Inv X pins σ H s->i<σ.length) (hsw:swapsWith (.ListComp elt [⟨tg,iter,ifs,0⟩] scope pos) (some<|.Name y py) spos.line X.env=pure true:=by rfl)
  (hs: ∀x,foldedSetIterable iter X.env x=pure x:=by intro _;rfl):PUS X (.Assign [.Name y py] (.ListComp elt [⟨tg,iter,ifs,0⟩] scope pos) spos) (cP i<|iJ js cap last ui g tt te):=
 aZ4 i hc hi (cW.of he0<|hx0▸lk).1 (cW.of he0<|hx0▸lk).2 hl hT hg ht he hy hi' hsw hs
theorem jE: ∀ds ρ Q,jY ds ρ Q->ds.length=0:=λds ρ Q h=>by rw[h.1];rfl
theorem cR {i n:Nat}{u:UGs}(h: ∀ds ρ Q,u ds ρ Q->ds.length=n): ∀ds ρ Q,cV i u ds ρ Q->ds.length=n+1:=λds ρ Q q=>by
 cases ds with
 | nil=>exact(show False from q).elim
 | cons d r=>rw[cT,h r _ Q q.2]
end
end M
end
section
namespace HT
open PySem PyProof.Rows
end HT
namespace L2
open PySem PySem.Spec PyProof.Rows
end L2
namespace M
open PySem PySem.Spec PyProof.Rows L2
section
variable {X:Cx}{K:Frag}{A:AS}{H:Hp}{e e3:Expr}{t3:UE}{pos p2:Pos}
def gIn (neg:Bool)(d e:D)(Q:B->Prop):Prop:= ∃(i:Int) (js:List Int),d= .int i/\(e= .tup (js.map D.int)\/e= .lst (js.map D.int)\/e= .rol (js.map D.int))/\Q (.pu<|.bl<|neg ^^ decide (i∈js))
theorem bI.unints: ∀{js:List Int} {vs:List V},bI K A H (js.map D.int) vs->vs=js.map V.int
 | [],_,h=>by simp only[l8,bI]at h;exact h
 | j::js,vs,h=>by
  simp only[cD,bI]at h;obtain⟨v,vr,rfl,r,rs⟩:=h;rw[bF r,bI.unints rs];rfl
theorem bJ6 (i:Int)(js:List Int):inV (.int i) (js.map V.int)=decide (i∈js):=by
 unfold inV
 induction js with
 | nil=>rfl
 | cons j js ih=>
  rw[cD,sC,ih];show((j==i)||decide (i∈js))=decide (i∈j::js)
  by_cases h:j=i
  ·subst h;simp
  ·have h': ¬i=j:=λz=>h z.symm
   simp[h,h']
theorem zU (js:List Int):(js.map V.int).all y6=true:=by
 induction js with
 | nil=>rfl
 | cons j js ih=>rw[cD,all_cons,ih];rfl
theorem ou_inG {neg:Bool}{op:Value->Value->Sem Value}(ho:OpR X op (rIn X.K neg)):OpU X op (gIn neg):=by
 intro A H d e v w Q0 Q hA r1 r2 g k;obtain⟨i,js,rfl,he,g⟩:=g;have e1:=bF r1;subst e1;have fin:Q (.bl<|if neg=true then !inV (.int i) (js.map V.int)else inV (.int i) (js.map V.int)) H:=by
  rw[bJ6];refine k _ _ H g (.refl _) ?_;cases neg
  ·rw[a7 ac,gP];exact jA
  ·rw[a8 rfl,iA];exact jA
 rcases he with rfl|rfl|rfl
 ·simp only[Rep]at r2;obtain⟨a,vs,rfl,c,rs⟩:=r2;have:=rs.unints;subst this;exact⟨_,ho,a,_,rfl,.inr<|c.imp bY id,rfl,zU js,fin⟩
 ·simp only[Rep]at r2;obtain⟨a,vs,rfl,n,c,rs⟩:=r2;have:=rs.unints;subst this;exact⟨_,ho,a,_,rfl,.inl<|SqL.of c,rfl,zU js,fin⟩
 ·simp only[Rep]at r2;obtain⟨a,vs,rfl,c,rs⟩:=r2;have:=rs.unints;subst this;exact⟨_,ho,a,_,rfl,.inl<|c.imp bY id,rfl,zU js,fin⟩
theorem aR7:OpU X (compareOp .NotIn) (gIn true):=ou_inG aL7
end
end M
end
section
namespace L2
open PySem PySem.Spec PyProof.Rows
noncomputable def Itd (lo:Int)(n:Nat):It:={go:=λi _=>i<n,yld:=λi H x H'=>H'=H/\x=V.int (lo-(i:Int)),stop:=λi _=>n<=i}
theorem aH4 {P:Program}{w:World}{K:Frag}{tg:Expr}(it:Addr)(lo:Int)(n:Nat):aL2 P w K tg (Itd lo n) [it] it (λi h=>IsRangeIter h it (lo+(i:Nat)*(-1)) ((n:Int)-(i:Nat)) (-1)) where
 mem:=ae
 obj:=λi h st b hb=>by
  have e:b=it:=by simpa using hb
  subst e;exact⟨_,st,λv z=>by
   have z':Data.fields _=Data.cell v:=z;cases z'⟩
 keep:=λi h h' st k=>k it ae _ st
 item:=by
  intro X hP hw hK hc i pins s σ H E I hf st hg;subst hP hw hK;obtain⟨f0,f1,f2,f3,f4,f5⟩:=hf it ae
  have W:=Walks.range (prog:=X.prog) (w:=X.w) (I.ok.hd hc) it lo (-1) n;refine W.item i s _ _ hg st λv h' tk hv st' kk=> ?_
  obtain⟨t,rfl⟩:=hv;have I1:Inv X pins σ H {s with heap:=h',toks:=tk}:=I.turned (λb o hb e=>kk b o (by simpa using hb) e) f0 f1 f3 f4 f5
  refine⟨_,rfl,aF8 (s:={s with heap:=h',toks:=tk}) (n:="range_iterator") st' rfl rfl ac ⟨.int<|lo-i,H,I1,⟨t,?_⟩,⟨rfl,rfl⟩,st',λb hb=>(hf b hb).1⟩⟩
  rw[show lo+((i:Nat):Int)*(-1)=lo-(i:Int)by lia]
 done:=by
  intro X hP hw hK hc i pins s σ H E I hf st hg;subst hP hw hK;obtain⟨f0,f1,f2,f3,f4,f5⟩:=hf it ae
  exact wpAny_pyNext_range_end (I.ok.hd hc) st (by have:n<=i:=hg;lia) λh' eb=>⟨rfl,I.turned (t':=s.toks) (λb o hb e=>eb b o hb e) f0 f1 f3 f4 f5⟩
 self:=λ_ _ _ _ _ st h=>wE st h
section
variable {X:Cx}{tg:Expr}
theorem aH5 (a b:Int):Builtin.Range.rangeSize a b (-1)=(((a-b).toNat:Nat):Int):=by
 unfold Builtin.Range.rangeSize;rw[a7 ac]
 split<;>simp<;>lia
theorem small_down {a b:Int}(h1: -(2^31)<=a)(h2:a<2^31)(h3: -(2^31)<=b)(h4:b<2^31):Builtin.Range.small a b (-1)=true:=by
 unfold Builtin.Range.small;rw[aH5];simp[Builtin.Range.rangeFitsLong];omega
theorem aZ8 {pins:List (Addr×Obj)}{σ:St}{H:Hp}{s:Shared}{R:It->Hp->Prop}{E:Value->Shared->Prop}{lo hi:Int}{t u v:Tok}{tk:Nat}(I:Inv X pins σ H s)(h1: -(2^31)<=lo)(h2:lo<2^31)(h3: -(2^31)<=hi)(h4:hi<2^31)
  (q:R (Itd lo (lo-hi).toNat) H):wpAny (model X.prog X.w) X.A (pyIter<|.ref s.heap.objs.size) (PIE X pins σ tg R) E {s with heap:=s.heap.push {cls:= .type "range",data:= .fields #[.int lo t,.int hi u,.int (-1) v]},toks:=tk}:=by
 refine wpAny_pyIter_range (IsRange.new ..) (small_down h1 h2 h3 h4) ?_
 have I1:Inv X pins σ H {s with heap:=s.heap.push {cls:= .type "range",data:= .fields #[.int lo t,.int hi u,.int (-1) v]},toks:=tk}:=I.kept λb o e=>aO _ e
 refine⟨(s.heap.push {cls:= .type "range",data:= .fields #[.int lo t,.int hi u,.int (-1) v]}).objs.size,[(s.heap.push {cls:= .type "range",data:= .fields #[.int lo t,.int hi u,.int (-1) v]}).objs.size],_,_,H,rfl,
  I1.kept (t':=tk) λb o e=>aO _ e,aH4 _ lo (lo-hi).toNat,?_,λb hb=> ?_,q⟩
 ·have e1:lo+((0:Nat):Int)*(-1)=lo:=ae
  have e2:(((lo-hi).toNat:Nat):Int)-((0:Nat):Int)=Builtin.Range.rangeSize lo hi (-1):=by rw[aH5];simp
  show IsRangeIter _ _ (lo+((0:Nat):Int)*(-1)) ((((lo-hi).toNat:Nat):Int)-((0:Nat):Int)) (-1)
  rw[e1,e2];exact bK _ rfl
 ·have e:b=(s.heap.push {cls:= .type "range",data:= .fields #[.int lo t,.int hi u,.int (-1) v]}).objs.size:=by simpa using hb
  subst e;exact I1.fpOk (aC _) (I1.hok.fresh<|aC _)
def iRngD (ta:TA):TI:=λσ H R=>ta σ H λvs H1=> ∃i j:Int,vs=[.int i,.int j,.int<|-1]/\(-(2^31)<=i/\i<2^31/\ -(2^31)<=j/\j<2^31)/\R (Itd i (i-j).toNat) H1
theorem bB5 {a b c:Expr}{ta:TA}{p pos:Pos}(hg:Gl X "range")(hm:X.mg "range"=none)(ha:PA X [a,b,c] ta)(hs:starEach [a,b,c] X.env=[(false,eval a X.env),(false,eval b X.env),(false,eval c X.env)]:=by rfl)(hs2:starEach [b,c] X.env=[(false,eval b X.env),(false,eval c X.env)]:=by rfl) :
  PI X tg (.Call (.Name "range" p) [a,b,c] [] pos) (iRngD ta):=by
 intro pins s σ H R I h;refine Call_ (oN I hg hm boot_range<|gL (thn (ha pos pins s σ H _ I h) λus s1 ⟨vs,H1,I1,r1,q1⟩=> ?_) (by rw[hs,hs2]) (by rw[hs2];rfl))
 obtain⟨i,j,e,⟨q1,q2,q3,q4⟩,q⟩:=q1;subst e;cases r1 with
 | cons r rr=>
  cases rr with
  | cons r' rr=>
   cases rr with
   | cons r'' rr=>
    cases rr;obtain⟨t,rfl⟩:=r;obtain⟨t',rfl⟩:=r';obtain⟨t'',rfl⟩:=r'';exact call_range_3 ac (aZ8 I1 q1 q2 q3 q4 q) (.inl (by
     unfold Builtin.divisionGoesByPylong;simp;intro hz;have:Nat.log2 1=0:=ac
     lia))
end
end L2
namespace M
open PySem PySem.Spec PyProof.Rows L2
section
variable {X:Cx}{K:Frag}{H:Hp}{pos:Pos}
theorem aH6 {A:AS}{lo:Int}{n:Nat}:aM0 K A H (Itd lo n) n (λi=> .int (lo-i)):=
 ⟨λ_ _ _ _ h=>h,λ_ _ i x H'' _ _ _ ⟨e,y⟩=>by subst e;subst y;exact⟨.refl _,by simp only[Rep]⟩,λ_ _ _=>aC n⟩
def b59 (ta:UA):UI:=λρ Q=>ta ρ λds ρ1=>match ds with
 | [.int i,.int j,.int m]=>m= -1/\(-(2^31)<=i/\i<2^31/\ -(2^31)<=j/\j<2^31)/\Q (i-j).toNat (λk=> .int (i-k)) ρ1
 | _=>False
theorem aH7 {tg a b c:Expr}{ta:UA}{p:Pos}(hg:Gl X "range")(hm:X.mg "range"=none)(ha:PUA X [a,b,c] ta)(hs:starEach [a,b,c] X.env=[(false,eval a X.env),(false,eval b X.env),(false,eval c X.env)]:=by rfl)(hs2:starEach [b,c] X.env=[(false,eval b X.env),(false,eval c X.env)]:=by rfl) :
  PUI X tg (.Call (.Name "range" p) [a,b,c] [] pos) (b59 ta):=
 yB (bB5 hg hm ha hs hs2) λσ H R ⟨C,ρ,Q0,I,h,k⟩=>⟨C,ρ,_,I,h,λds ρ1 vs H1 q f s r=>by
  split at q
  ·rename_i i j m
   obtain⟨v,vr,rfl,rv,rr⟩:=r.uncons;obtain⟨w,wr,rfl,rw',rr'⟩:=rr.uncons;obtain⟨z,zr,rfl,rz,rr''⟩:=rr'.uncons;have:=rr''.unnil;subst this;have:=bF rv;subst this;have:=bF rw';subst this;have:=bF rz;subst this;obtain⟨hm,hb,q⟩:=q;subst hm;exact⟨i,j,rfl,hb,k _ _ ρ1 _ H1 q f s aH6⟩
  ·exact q.elim⟩
end
end M
end
section
namespace L2
open PySem PySem.Spec PyProof.Rows
section
variable {X:Cx}{pins:List (Addr×Obj)}{σ:St}{H:Hp}{s:Shared}{h':Heap}
theorem Inv.turnedNew {t':Nat}{ch:List Addr}{a:Addr}{o:HO}(I:Inv X pins σ H s)(k: ∀b u,b ∉ ch->s.heap.get? b=some u->h'.get? b=some u)(hf: ∀b∈ch,zO X pins H b)
  (hp:s.heap.objs.size<=a) (new:oM X.prog X.w (upd H a o) h' a o):Inv X pins σ (upd H a o) {s with heap:=h',toks:=t'}:=by
 have hn:H a=none:=I.hok.fresh hp;have nch: ∀b u,H b=some u->b ∉ ch:=λb u e z=>by have:=(hf b z).1;rw[e]at this;cases this
 refine I.step (g':=s.gens) (d':=s.drawn) (ch:=ch) (λb hb=>⟨(hf b hb).2.2.2.1,(hf b hb).2.1,(hf b hb).2.2.2.2.1,(hf b hb).2.2.2.2.2⟩) (λb u _ _ hc e _=>k b u hc e) (λb u _ _ hc e _=>⟨u.slots,k b u hc e⟩)
  (λb u _ e n=>by rw[dG<|aW<|bO (aM e) hp];exact n) (λb u hc e=>⟨u,k b u hc e⟩)
  (λb xs e=>by rw[dG<|fX e hn];exact e) (λb ob u e=>by rw[dG<|fX e hn];exact e) (λb ps e=>⟨#[],by rw[dG<|fX e hn,e];simp⟩) (λm hm=> ?_) (λb u e=> ?_) I.bare
 ·obtain⟨ob,es,ep,ho,r⟩:=hm;exact⟨ob,es,ep,k _ ob (λz=>(hf _ z).2.1 rfl) ho,r⟩
 ·by_cases hb:b=a
  ·subst hb;rw[lZ]at e;cases e;exact new
  ·rw[dG hb]at e;refine(I.hok b u e).stay (λc v hc q=>k c v ?_ q) (λc q=>by rw[dG<|fX q hn];exact q) λc xs q=>by rw[dG<|fX q hn];exact q
   rcases hc with z|z
   ·rw[z];exact nch b u e
   ·exact nch c _ z
theorem Inv.turnedL {t':Nat}{ch:List Addr}(I:Inv X pins σ H s)(k: ∀b u,b ∉ ch->s.heap.get? b=some u->h'.get? b=some u)(hf: ∀b∈ch,zO X pins H b):Inv X pins σ H {s with heap:=h',toks:=t'}:=by
 have nch: ∀b u,H b=some u->b ∉ ch:=λb u e z=>by have:=(hf b z).1;rw[e]at this;cases this
 refine I.step (g':=s.gens) (d':=s.drawn) (ch:=ch) (λb hb=>⟨(hf b hb).2.2.2.1,(hf b hb).2.1,(hf b hb).2.2.2.2.1,(hf b hb).2.2.2.2.2⟩) (λb u _ _ hc e _=>k b u hc e) (λb u _ _ hc e _=>⟨u.slots,k b u hc e⟩)
  (λb u _ e n=>n) (λb u hc e=>⟨u,k b u hc e⟩) (λb xs e=>e) (λb ob u e=>e) (λb ps e=>⟨#[],by rw[e];simp⟩) (λm hm=> ?_) (λb u e=> ?_) I.bare
 ·obtain⟨ob,es,ep,ho,r⟩:=hm;exact⟨ob,es,ep,k _ ob (λz=>(hf _ z).2.1 rfl) ho,r⟩
 ·refine(I.hok b u e).stay (λc v hc q=>k c v ?_ q) (λc q=>q) λc xs q=>q
  rcases hc with z|z
  ·rw[z];exact nch b u e
  ·exact nch c _ z
end
def pC (T:Bool)(h:Heap)(a:Addr)(xs:Array Value):Prop:=match T with
 | false=>h.IsList a xs
 | true=>h.IsTuple a xs
def pD (T:Bool)(h:Heap)(it a:Addr)(i:Nat):Prop:=match T with
 | false=>h.IsListIter it a i
 | true=>h.IsTupleIter it a i
noncomputable def uG (T:Bool)(a:Addr):Obj:=match T with
 | false=>{cls:= .type "list_iterator",data:= .fields #[.ref a,.int 0 0]}
 | true=>{cls:= .type "tuple_iterator",data:= .fields #[.ref a,.int 0 0]}
def SqV (K:Frag)(T:Bool)(H:Hp)(a:Addr)(xs:List V):Prop:=match T with
 | false=>SqL K H a xs
 | true=>SqT K H a xs
theorem pC.at {T:Bool}{h h':Heap}{a:Addr}{xs:Array Value}(x:pC T h a xs)(e: ∀o,h.get? a=some o->h'.get? a=some o):pC T h' a xs:=by
 cases T<;>(obtain⟨o,ho,r⟩:=x;exact⟨o,e o ho,r⟩)
theorem pD.at {T:Bool}{h h':Heap}{it a:Addr}{i:Nat}(x:pD T h it a i)(e: ∀o,h.get? it=some o->h'.get? it=some o):pD T h' it a i:=by
 cases T<;>(obtain⟨o,ho,r⟩:=x;exact⟨o,e o ho,r⟩)
theorem pC.lt {T:Bool}{h:Heap}{a:Addr}{xs:Array Value}(x:pC T h a xs):a<h.objs.size:=by
 cases T<;>(obtain⟨o,ho,r⟩:=x;exact aM ho)
theorem pD.rec' {T:Bool}{h:Heap}{it a:Addr}{i:Nat}(x:pD T h it a i): ∃o,h.get? it=some o/\ ∀v,o.data≠ .cell v:=by
 cases T<;>(obtain⟨o,ho,hc,hd⟩:=x;exact⟨o,ho,λv z=>by rw[hd]at z;cases z⟩)
theorem pD.new {T:Bool}(h:Heap)(a:Addr):pD T (h.push<|uG T a) h.objs.size a 0:=by
 cases T<;>exact⟨_,bK _ rfl,rfl,rfl⟩
section
variable {X:Cx}{pins:List (Addr×Obj)}{σ:St}{H:Hp}{s:Shared}
theorem Inv.sq {T:Bool}{a:Addr}{xs:List V}(I:Inv X pins σ H s)(h:SqV X.K T H a xs): ∃its:List Value,Vals xs its/\pC T s.heap a its.toArray/\xs.length<=sizeLine:=by
 cases T with
 | false=>obtain⟨its,rv,p,hz⟩:=I.list h;exact⟨its,rv,p.isList,hz⟩
 | true=>obtain⟨its,rv,p,hz⟩:=I.tuple h;exact⟨its,rv,p,hz⟩
theorem Inv.sq_inj {T:Bool}{a:Addr}{xs ys:List V}(I:Inv X pins σ H s)(h:SqV X.K T H a xs)(h':SqV X.K T H a ys):xs=ys:=by
 cases T with
 | false=>exact I.list_inj h h'
 | true=>exact I.tuple_inj h h'
end
section
variable {prog:Program}{w:World}{A:Around}{E:Value->Shared->Prop}{s:Shared}
theorem vD {T:Bool}{a:Addr}{xs:Array Value}{Q:Value->Shared->Prop}(hl:pC T s.heap a xs)(hQ:Q (.ref s.heap.objs.size) {s with heap:=s.heap.push (uG T a)}) :
  wpAny (model prog w) A (pyIter<|.ref a) Q E s:=by
 cases T with
 | false=>exact o9 hl hQ
 | true=>exact wpAny_pyIter_tuple hl hQ
theorem bJ7 {it t:Addr}{i:Nat}{items:Array Value}{x:Value}{Q:Value->Shared->Prop}(hit:s.heap.IsTupleIter it t i)(ht:s.heap.IsTuple t items)(hx:items[i]? =some x)
  (hQ: ∀h',h'.IsTupleIter it t (i+1)->SameBut it s.heap h'->Q x {s with heap:=h'}):wpAny (model prog w) A (Builtin.SmallTypes.nextOf<|.ref it) Q E s:=by
 obtain⟨oi,hoi,hci,hdi⟩:=id hit;obtain⟨ot,hot,_,nt,hdt⟩:=ht;unfold Builtin.SmallTypes.nextOf;refine a9 (iM (name:=Str.ofString "__next__") hit.typeIs r8<|fK r8 hit.typeIs PySem.F.entry_tuple_iterator_next ?_<|PySem.F.args_tuple_iterator_next_1 _);show wpAny _ _ (field (.ref it) 0 >>= _) _ _ s;refine a9 (cF hoi hdi (x:= .ref t) rfl ?_)
 show wpAny _ _ (if(Value.ref t==Value.none)=true then _ else _) _ _ s;rw[a7<|show ¬((Value.ref t==Value.none)=true)from aY]
 show wpAny _ _ (field (.ref it) 1 >>= _) _ _ s;refine a9 (cF hoi hdi (x:= .int i 0) rfl ?_)
 show wpAny _ _ (seqItems? (.ref t) >>= _) _ _ s;refine a9 (iT hot hdt ?_)
 simp only[fH,hx];refine a9 (oD hoi hdi ae<|aF ⟨x,rfl,aF<|hQ _ ⟨_,rG _ hoi<|wI<|kT hdi _,(Obj.cls_mapFields ..).trans hci,?_⟩<|o8 ..⟩)
 rw[kT hdi];simp[rawInt]
theorem bB6 {it t:Addr}{i:Nat}{items:Array Value}{Q:Value->Shared->Prop}(hh:A.handled=none)(hit:s.heap.IsTupleIter it t i)(ht:s.heap.IsTuple t items)(hx:items[i]? =none)
  (hE: ∀h' e,ExtBut it s.heap h'->(∃o,h'.get? e=some o/\o.cls= .type "StopIteration")->E (.ref e) {s with heap:=h'}):wpAny (model prog w) A (Builtin.SmallTypes.nextOf<|.ref it) Q E s:=by
 obtain⟨oi,hoi,hci,hdi⟩:=id hit;obtain⟨ot,hot,_,nt,hdt⟩:=ht;unfold Builtin.SmallTypes.nextOf;refine a9 (iM (name:=Str.ofString "__next__") hit.typeIs r8<|fK r8 hit.typeIs PySem.F.entry_tuple_iterator_next ?_<|PySem.F.args_tuple_iterator_next_1 _);show wpAny _ _ (field (.ref it) 0 >>= _) _ _ s;refine a9 (cF hoi hdi (x:= .ref t) rfl ?_)
 show wpAny _ _ (if(Value.ref t==Value.none)=true then _ else _) _ _ s;rw[a7<|show ¬((Value.ref t==Value.none)=true)from aY]
 show wpAny _ _ (field (.ref it) 1 >>= _) _ _ s;refine a9 (cF hoi hdi (x:= .int i 0) rfl ?_)
 show wpAny _ _ (seqItems? (.ref t) >>= _) _ _ s;refine a9 (iT hot hdt ?_)
 simp only[fH,hx];refine a9 (jR<|a9<|oD hoi hdi ae ?_)
 show wpAny _ _ (newExc (.type "StopIteration") [] >>= _) _ _ _;refine a9 ?_;simp only[newExc,newTuple];refine a9 (i8 ?_<|by size_fits)
 refine a9 (m:=firstArgMember _ _) (iB (a:=Value.none) (by first|rfl| (simp only[firstArgMember];rfl)) ?_);refine i8 ?_ (by size_fits)
 simp only[raiseNew];refine a9 (wpAny_handled ?_);first|rw[show A.in1.handled=none from hh]|rw[hh]
 exact a9 (aF<|wpAny_throw<|hE _ _ (((o8 ..).extBut.push _).push _) ⟨_,bK _ rfl,rfl⟩)
theorem a50 {T:Bool}{it a:Addr}{i:Nat}{xs:Array Value}{x:Value}{Q:Value->Shared->Prop}(hit:pD T s.heap it a i)(hl:pC T s.heap a xs)(hx:xs[i]? =some x)
  (hQ: ∀h',pD T h' it a (i+1)->SameBut it s.heap h'->Q x {s with heap:=h'}):wpAny (model prog w) A (Builtin.SmallTypes.nextOf<|.ref it) Q E s:=by
 cases T with
 | false=>exact wpAny_nextOf_list_item hit hl hx hQ
 | true=>exact bJ7 hit hl hx hQ
theorem a75 {T:Bool}{it a:Addr}{i:Nat}{xs:Array Value}{Q:Value->Shared->Prop}(hh:A.handled=none)(hit:pD T s.heap it a i)(hl:pC T s.heap a xs)(hx:xs[i]? =none)
  (hE: ∀h' e,ExtBut it s.heap h'->(∃o,h'.get? e=some o/\o.cls= .type "StopIteration")->E (.ref e) {s with heap:=h'}):wpAny (model prog w) A (Builtin.SmallTypes.nextOf<|.ref it) Q E s:=by
 cases T with
 | false=>exact wpAny_nextOf_list_end hh hit hl hx hE
 | true=>exact bB6 hh hit hl hx hE
end
structure ZSt (T1 T2:Bool)(z TI TO i1 i2 l1 l2:Addr)(f0:Value)(i:Nat)(h:Heap):Prop where
 hz:IsZip h z TI TO f0
 hI:IsPair h TI (.ref i1) (.ref i2)
 hO: ∃a b,IsPair h TO a b
 h1:pD T1 h i1 l1 i
 h2:pD T2 h i2 l2 i
structure ZAp (z TI TO i1 i2:Addr):Prop where
 a:TI≠z
 b:TO≠z
 c:i1≠z
 d:i2≠z
 e:TI≠TO
 f:TI≠i1
 g:TI≠i2
 h:TO≠i1
 i:TO≠i2
 j:i1≠i2
section
variable {prog:Program}{w:World}{A:Around}{E:Value->Shared->Prop}{s:Shared}{T1 T2:Bool}{z TI TO i1 i2 l1 l2:Addr}{k:Nat}{xs ys:Array Value}
theorem bJ8 {x y:Value}{Q:Value->Shared->Prop}(D:ZAp z TI TO i1 i2)(n1:l1 ∉ [z,TI,TO,i1,i2])(n2:l2 ∉ [z,TI,TO,i1,i2])(st:ZSt T1 T2 z TI TO i1 i2 l1 l2 .none k s.heap)
  (hl1:pC T1 s.heap l1 xs) (hl2:pC T2 s.heap l2 ys) (hx:xs[k]? =some x) (hy:ys[k]? =some y)
  (hQ: ∀h',ZSt T1 T2 z TI TO i1 i2 l1 l2 (rawInt s.heap.objs.size) (k+1) h'->IsPair h' s.heap.objs.size x y->(∀c o,c ∉ [z,TI,TO,i1,i2]->s.heap.get? c=some o->h'.get? c=some o)->Q (.ref s.heap.objs.size) {s with heap:=h'}) :
  wpAny (model prog w) A (Builtin.«zip.__next__» ⟨[.ref z],[]⟩) (λfin s'=> ∃v,fin= .done (.ret v)/\Q v s') E s:=by
 obtain⟨hz,hI,⟨a0,b0,hO⟩,h1,h2⟩:=st;simp only[aR,eO,eS,not_or]at n1 n2;show wpAny _ _ (field (.ref z) 2 >>= _) _ _ _;refine a9 (cF hz rfl (x:= .bool false) rfl ?_);show wpAny _ _ (field (.ref z) 3 >>= _) _ _ _;refine a9 (cF hz rfl (x:= .ref TI) rfl ?_);refine a9 (iT hI rfl ?_);show wpAny _ _ (Builtin.SmallTypes.ownedTupleIsFree (.ref z) >>= _) _ _ _
 refine a9 ?_;unfold Builtin.SmallTypes.ownedTupleIsFree;refine a9 (cF hz rfl (x:= .none) rfl (aF ?_))
 simp only[eT];refine a9 (jR ?_);refine a9 (cF hz rfl (x:= .ref TO) rfl ?_);refine a9 (kU hz ae λg1 z1 m1=> ?_);replace z1:IsZip g1 z TI TO .ellipsis:=z1
 refine a9 ?_;simp only[List.zipIdx_cons,List.zipIdx_nil,rY,forIn_nil]
 refine a9 (a9<|sD ?_);show wpAny _ _ (Builtin.SmallTypes.nextOf (.ref i1) >>= _) _ _ _
 refine a9 (a50 (s:={s with heap:=g1}) (h1.at λo e=>m1.extBut _ _ D.c e) (hl1.at λo e=>m1.extBut _ _ n1.1 e) hx λg2 p2 m2=>aF ?_)
 have o2:IsPair g2 TO a0 b0:=m2.extBut _ _ D.h (m1.extBut _ _ D.b hO);refine a9 (iT o2 rfl ?_);refine a9 (wL o2 λg3 o3 m3=> ?_);replace o3:IsPair g3 TO x b0:=o3
 refine a9 (wpAny_letGo<|aF ?_)
 refine a9 (a9<|sD ?_);show wpAny _ _ (Builtin.SmallTypes.nextOf (.ref i2) >>= _) _ _ _
 refine a9 (a50 (s:={s with heap:=g3}) (h2.at λo e=>m3.extBut _ _ D.i.symm (m2.extBut _ _ D.j.symm<|m1.extBut _ _ D.d e)) (hl2.at λo e=>m3.extBut _ _ n2.2.2.1 (m2.extBut _ _ n2.2.2.2.1<|m1.extBut _ _ n2.1 e)) hy λg4 p4 m4=>aF ?_)
 have o4:IsPair g4 TO x b0:=m4.extBut _ _ D.i o3;refine a9 (iT o4 rfl ?_);refine a9 (wL o4 λg5 o5 m5=> ?_);replace o5:IsPair g5 TO x y:=o5
 refine a9 (wpAny_letGo<|aF<|aF ?_)
 refine a9 (iT o5 rfl ?_);refine a9 (wpAny_newTuple ?_)
 have sz:g5.objs.size=s.heap.objs.size:=by rw[m5.1,m4.1,m3.1,m2.1,m1.1]
 have z5:IsZip g5 z TI TO .ellipsis:=m5.extBut _ _ D.b.symm (m4.extBut _ _ D.d.symm<|m3.extBut _ _ D.b.symm<|m2.extBut _ _ D.c.symm z1);have keep5: ∀c o,c≠z->c≠TO->c≠i1->c≠i2->s.heap.get? c=some o->g5.get? c=some o:=λc o c1 c2 c3 c4 e=>m5.extBut _ _ c2 (m4.extBut _ _ c4<|m3.extBut _ _ c2<|m2.extBut _ _ c3<|m1.extBut _ _ c1 e)
 have q1:pD T1 g5 i1 l1 (k+1):=p2.at λo e=>m5.extBut _ _ D.h.symm (m4.extBut _ _ D.j<|m3.extBut _ _ D.h.symm e)
 have q2:pD T2 g5 i2 l2 (k+1):=p4.at λo e=>m5.extBut _ _ D.i.symm e
 have zl:z<g5.objs.size:=aM z5;show wpAny _ _ (Builtin.SmallTypes.ownedTupleHandOut (.ref z) (.ref g5.objs.size) >>= _) _ _ _;refine a9 ?_;unfold Builtin.SmallTypes.ownedTupleHandOut;have z6:IsZip (g5.push {cls:= .type "tuple",data:= .seq #[x,y]}) z TI TO .ellipsis:=aO _ z5;refine a9 (kU z6 ae λg7 z7 m7=> ?_);replace z7:IsZip g7 z TI TO (rawInt g5.objs.size):=z7
 refine kU z7 ae λg8 z8 m8=> ?_;replace z8:IsZip g8 z TI TO (rawInt g5.objs.size):=z8
 have up: ∀c o,c≠z->g5.get? c=some o->g8.get? c=some o:=λc o c1 e=>m8.extBut _ _ c1 (m7.extBut _ _ c1<|aO _ e)
 have t8:IsPair g8 g5.objs.size x y:=m8.extBut _ _ (l7 zl) (m7.extBut _ _ (l7 zl)<|bK _ rfl);rw[sz]at z8 t8;refine aF ⟨_,rfl,?_⟩;show Q (.ref g5.objs.size) _;rw[sz];refine hQ g8 ⟨z8,up _ _ D.a<|keep5 _ _ D.a D.e D.f D.g hI,⟨x,y,up _ _ D.b o5⟩,q1.at λo e=>up _ _ D.c e,q2.at λo e=>up _ _ D.d e⟩ t8 λc o nc e=> ?_
 simp only[aR,eO,eS,not_or]at nc;exact up c o nc.1 (keep5 c o nc.1 nc.2.2.1 nc.2.2.2.1 nc.2.2.2.2 e)
theorem bB7 {Q:Fin->Shared->Prop}(hh:A.handled=none)(D:ZAp z TI TO i1 i2)(n1:l1 ∉ [z,TI,TO,i1,i2])(n2:l2 ∉ [z,TI,TO,i1,i2])(st:ZSt T1 T2 z TI TO i1 i2 l1 l2 .none k s.heap)
  (hl1:pC T1 s.heap l1 xs) (hl2:pC T2 s.heap l2 ys) (hend:xs[k]? =none\/ys[k]? =none)
  (hE: ∀h' e,(∀c o,c ∉ [z,TI,TO,i1,i2]->s.heap.get? c=some o->h'.get? c=some o)->(∃o,h'.get? e=some o/\o.cls= .type "StopIteration")->E (.ref e) {s with heap:=h'}) :
  wpAny (model prog w) A (Builtin.«zip.__next__» ⟨[.ref z],[]⟩) Q E s:=by
 obtain⟨hz,hI,⟨a0,b0,hO⟩,h1,h2⟩:=st;simp only[aR,eO,eS,not_or]at n1 n2;have nin: ∀c,c ∉ [z,TI,TO,i1,i2]->c≠z/\c≠TI/\c≠TO/\c≠i1/\c≠i2:=λc h=>by simpa only[aR,eO,eS,not_or]using h
 show wpAny _ _ (field (.ref z) 2 >>= _) _ _ _;refine a9 (cF hz rfl (x:= .bool false) rfl ?_)
 show wpAny _ _ (field (.ref z) 3 >>= _) _ _ _;refine a9 (cF hz rfl (x:= .ref TI) rfl ?_)
 refine a9 (iT hI rfl ?_);show wpAny _ _ (Builtin.SmallTypes.ownedTupleIsFree (.ref z) >>= _) _ _ _
 refine a9 ?_;unfold Builtin.SmallTypes.ownedTupleIsFree;refine a9 (cF hz rfl (x:= .none) rfl (aF ?_))
 simp only[eT];refine a9 (jR ?_);refine a9 (cF hz rfl (x:= .ref TO) rfl ?_);refine a9 (kU hz ae λg1 z1 m1=> ?_);replace z1:IsZip g1 z TI TO .ellipsis:=z1
 refine a9 ?_;simp only[List.zipIdx_cons,List.zipIdx_nil,rY,forIn_nil]
 refine a9 (a9<|sD ?_);show wpAny _ _ (Builtin.SmallTypes.nextOf (.ref i1) >>= _) _ _ _
 cases hx:xs[k]? with
 | none=>
  refine a9 (a75 (s:={s with heap:=g1}) hh (h1.at λo e=>m1.extBut _ _ D.c e) (hl1.at λo e=>m1.extBut _ _ n1.1 e) hx λg2 e m2 he=> ?_)
  obtain⟨oe,hoe,hce⟩:=he;have z2:IsZip g2 z TI TO .ellipsis:=m2 _ _ D.c.symm z1;have ez:e≠z:=λq=>by subst q;rw[z2]at hoe;cases hoe;simp at hce
  refine kU z2 ae λg3 _ m3=>hE g3 e (λc o nc q=> ?_) ⟨oe,m3.extBut _ _ ez hoe,hce⟩
  obtain⟨c1,c2,c3,c4,c5⟩:=nin c nc;exact m3.extBut _ _ c1 (m2 _ _ c4<|m1.extBut _ _ c1 q)
 | some x=>
  have hy:ys[k]? =none:=by rcases hend with q|q;(rw[hx]at q;cases q);exact q
  refine a9 (a50 (s:={s with heap:=g1}) (h1.at λo e=>m1.extBut _ _ D.c e) (hl1.at λo e=>m1.extBut _ _ n1.1 e) hx λg2 p2 m2=>aF ?_)
  have o2:IsPair g2 TO a0 b0:=m2.extBut _ _ D.h (m1.extBut _ _ D.b hO);refine a9 (iT o2 rfl ?_);refine a9 (wL o2 λg3 o3 m3=> ?_)
  refine a9 (wpAny_letGo<|aF ?_);refine a9 (a9<|sD ?_);show wpAny _ _ (Builtin.SmallTypes.nextOf (.ref i2) >>= _) _ _ _
  refine a9 (a75 (s:={s with heap:=g3}) hh (h2.at λo e=>m3.extBut _ _ D.i.symm (m2.extBut _ _ D.j.symm<|m1.extBut _ _ D.d e)) (hl2.at λo e=>m3.extBut _ _ n2.2.2.1 (m2.extBut _ _ n2.2.2.2.1<|m1.extBut _ _ n2.1 e)) hy λg4 e m4 he=> ?_)
  obtain⟨oe,hoe,hce⟩:=he;have z4:IsZip g4 z TI TO .ellipsis:=m4 _ _ D.d.symm (m3.extBut _ _ D.b.symm<|m2.extBut _ _ D.c.symm z1);have ez:e≠z:=λq=>by subst q;rw[z4]at hoe;cases hoe;simp at hce
  refine kU z4 ae λg5 _ m5=>hE g5 e (λc o nc q=> ?_) ⟨oe,m5.extBut _ _ ez hoe,hce⟩
  obtain⟨c1,c2,c3,c4,c5⟩:=nin c nc;exact m5.extBut _ _ c1 (m4 _ _ c5<|m3.extBut _ _ c3<|m2.extBut _ _ c4<|m1.extBut _ _ c1 q)
end
noncomputable def Itz (K:Frag)(T1 T2:Bool)(l1 l2:Addr):It where
 go:=λi H=> ∃xs ys x y,SqV K T1 H l1 xs/\SqV K T2 H l2 ys/\xs[i]? =some x/\ys[i]? =some y
 yld:=λi H v H'=> ∃T x y,v= .ref T/\H T=none/\H'=upd H T (.tup [x,y])/\(∀xs,SqV K T1 H l1 xs->xs[i]? =some x)/\ ∀ys,SqV K T2 H l2 ys->ys[i]? =some y
 stop:=λi H=> ∃xs ys,SqV K T1 H l1 xs/\SqV K T2 H l2 ys/\(xs.length<=i\/ys.length<=i)
theorem ZSt.objs {T1 T2:Bool}{z TI TO i1 i2 l1 l2:Addr}{f0:Value}{i:Nat}{h:Heap}(st:ZSt T1 T2 z TI TO i1 i2 l1 l2 f0 i h): ∀b∈[z,TI,TO,i1,i2],∃o,h.get? b=some o/\ ∀v,o.data≠ .cell v:=λb hb=>by
 obtain⟨hz,hI,⟨a,c,hO⟩,h1,h2⟩:=st;simp only[aR,eO,eS]at hb;rcases hb with rfl|rfl|rfl|rfl|rfl
 ·exact⟨_,hz,λv q=>by cases q⟩
 ·exact⟨_,hI,λv q=>by cases q⟩
 ·exact⟨_,hO,λv q=>by cases q⟩
 ·exact h1.rec'
 ·exact h2.rec'
theorem aR8:2<=sizeLine:=ac
theorem bJ9 {P:Program}{w:World}{K:Frag}{elts:List Expr}{kt:Nat}{tp:Pos}{T1 T2:Bool}{z TI TO i1 i2 l1 l2:Addr}(D:ZAp z TI TO i1 i2)(n1:l1 ∉ [z,TI,TO,i1,i2])(n2:l2 ∉ [z,TI,TO,i1,i2]) :
  aL2 P w K (.Tuple elts kt tp) (Itz K T1 T2 l1 l2) [z,TI,TO,i1,i2] z (ZSt T1 T2 z TI TO i1 i2 l1 l2 .none) where
 mem:=ae
 obj:=λi h st b hb=>st.objs b hb
 keep:=λi h h' st k=>by
  obtain⟨hz,hI,⟨a,c,hO⟩,h1,h2⟩:=st;exact⟨k z ae _ hz,k TI ae _ hI,⟨a,c,k TO ae _ hO⟩,h1.at λo e=>k i1 ae o e,h2.at λo e=>k i2 ae o e⟩
 item:=by
  intro X hP hw hK hc i pins s σ H E I hf st hg;subst hP hw hK;obtain⟨xs,ys,x,y,q1,q2,e1,e2⟩:=hg;obtain⟨is1,r1,p1,_⟩:=I.sq q1;obtain⟨is2,r2,p2,_⟩:=I.sq q2;obtain⟨u1,hu1,ru1⟩:=r1.get e1;obtain⟨u2,hu2,ru2⟩:=r2.get e2;have hT:s.TypeIs (.ref z) "zip":=⟨_,st.hz,rfl⟩;unfold pyNext
  refine a9 (oF<|iM (name:=Str.ofString "__next__") hT rH<|fK rH hT PySem.F.entry_zip_next (bJ8 D n1 n2 st p1 p2 (by simpa using hu1) (by simpa using hu2) λh' st' ht k=>aF ?_)<|PySem.F.args_zip_next_1 _)
  refine⟨_,rfl,wpAny_letOwnedTupleGo_zip st'.hz λh2 hz2 m=> ?_⟩
  have kk: ∀b u,b ∉ [z,TI,TO,i1,i2]->s.heap.get? b=some u->h2.get? b=some u:=λb u nb e=>m.extBut _ _ (λq=>nb (by simp[q])) (k b u nb e)
  have hne:s.heap.objs.size≠z:=l7 (aM st.hz);have ht2:IsPair h2 s.heap.objs.size u1 u2:=m.extBut _ _ hne ht;obtain⟨a',c',hO'⟩:=st'.hO;refine⟨.ref s.heap.objs.size,upd H s.heap.objs.size<|.tup [x,y],I.turnedNew (t':=s.toks) kk hf (aC _) ⟨aR8,[u1,u2],.cons ru1<|.cons ru2 .nil,⟨_,ht2,rfl,_,rfl⟩⟩,rfl,
   ⟨_,x,y,rfl,I.hok.fresh<|aC _,rfl,λxs' q=>by rw[I.sq_inj q q1];exact e1,λys' q=>by rw[I.sq_inj q q2];exact e2⟩,⟨hz2,m.extBut _ _ D.a st'.hI,⟨a',c',m.extBut _ _ D.b hO'⟩,st'.h1.at λo e=>m.extBut _ _ D.c e,st'.h2.at λo e=>m.extBut _ _ D.d e⟩,λb hb=> ?_⟩
  obtain⟨o,ho,_⟩:=st.objs b hb;rw[dG<|aW<|aM ho];exact(hf b hb).1
 done:=by
  intro X hP hw hK hc i pins s σ H E I hf st hg;subst hP hw hK;obtain⟨xs,ys,q1,q2,hs⟩:=hg;obtain⟨is1,r1,p1,_⟩:=I.sq q1;obtain⟨is2,r2,p2,_⟩:=I.sq q2;have l1':=r1.length;have l2':=r2.length;have hT:s.TypeIs (.ref z) "zip":=⟨_,st.hz,rfl⟩;unfold pyNext
  refine a9 (oF<|iM (name:=Str.ofString "__next__") hT rH<|fK rH hT PySem.F.entry_zip_next (bB7 (I.ok.hd hc) D n1 n2 st p1 p2 (by simp;omega) λh' e k he=> ?_)<|PySem.F.args_zip_next_1 _)
  obtain⟨o,ho,hc'⟩:=he;exact a9 (wR (T:="StopIteration") (b:=true) ⟨o,ho,hc'⟩ isSubtype_stop<|aF ⟨rfl,I.turnedL (t':=s.toks) k hf⟩)
 self:=λ_ _ _ _ _ st h=>wpAny_pyIter_zip st.hz h
noncomputable abbrev zg1 (T1:Bool)(h:Heap)(l1:Addr):Heap:=h.push (uG T1 l1)
noncomputable abbrev zg2 (T1 T2:Bool)(h:Heap)(l1 l2:Addr):Heap:=(zg1 T1 h l1).push (uG T2 l2)
noncomputable abbrev zg3 (T1 T2:Bool)(h:Heap)(l1 l2:Addr):Heap:=(zg2 T1 T2 h l1 l2).push {cls:= .type "tuple",data:= .seq #[.ref h.objs.size,.ref (zg1 T1 h l1).objs.size]}
noncomputable abbrev zg4 (T1 T2:Bool)(h:Heap)(l1 l2:Addr):Heap:=(zg3 T1 T2 h l1 l2).push {cls:= .type "tuple",data:= .seq #[.none,.none]}
noncomputable abbrev zg5 (T1 T2:Bool)(h:Heap)(l1 l2:Addr):Heap:=(zg4 T1 T2 h l1 l2).push {cls:= .type "zip",data:= .fields #[.none,.bool false,.bool false,.ref (zg2 T1 T2 h l1 l2).objs.size,.ref (zg3 T1 T2 h l1 l2).objs.size]}
theorem bU9 (T1 T2:Bool)(l1 l2:Addr)(xs ys:Array Value):Meets (Builtin.«zip.__new__» ⟨[.type "zip",.ref l1,.ref l2],[]⟩) (λ_ R s=>pC T1 s.heap l1 xs/\pC T2 s.heap l2 ys/\
  R (.ok<|.ret<|.ref (zg4 T1 T2 s.heap l1 l2).objs.size) {s with heap:=zg5 T1 T2 s.heap l1 l2}):= .of_wp λprog w A R s h=>by
 obtain⟨hp,g,d,tk,os⟩:=s;obtain⟨hl1,hl2,h⟩:=h;have hsub:=sub_zip;have e1:pC T1 (Shared.heap ⟨hp,g,d,tk,os⟩) l1 xs:=hl1;have e2:pC T2 (Shared.heap ⟨hp.push<|uG T1 l1,g,d,tk,os⟩) l2 ys:=hl2.at λo e=>aO _ e
 wp_walk using vD e1,vD e2
 exact⟨_,rfl,h⟩
section
variable {prog:Program}{w:World}{A:Around}{E:Value->Shared->Prop}{s:Shared}
theorem bK0 {T1 T2:Bool}{l1 l2:Addr}{xs ys:Array Value}{Q:Value->Shared->Prop}(hl1:pC T1 s.heap l1 xs)(hl2:pC T2 s.heap l2 ys)
  (h: ∀h' z TI TO i1 i2,ZAp z TI TO i1 i2->(∀b∈[z,TI,TO,i1,i2],s.heap.objs.size<=b)->ZSt T1 T2 z TI TO i1 i2 l1 l2 .none 0 h'->(∀c o,s.heap.get? c=some o->h'.get? c=some o)->Q (.ref z) {s with heap:=h'}) :
  wpAny (model prog w) A (call (.type "zip") [.ref l1,.ref l2]) Q E s:=by
 refine callType_new PySem.F.called_zip ac (PySem.F.typeCall_zip_2 _ _) (PySem.F.newCall_zip_2 _ _) (λobj=>PySem.F.args_object_init_3 obj _ _) PySem.F.entry_zip_new (bU9 T1 T2 l1 l2 xs ys) ⟨hl1,hl2,?_⟩
 have z1:(zg1 T1 s.heap l1).objs.size=s.heap.objs.size+1:=iS ..;have z2:(zg2 T1 T2 s.heap l1 l2).objs.size=s.heap.objs.size+2:=by rw[iS,z1]
 have z3:(zg3 T1 T2 s.heap l1 l2).objs.size=s.heap.objs.size+3:=by rw[iS,z2]
 have z4:(zg4 T1 T2 s.heap l1 l2).objs.size=s.heap.objs.size+4:=by rw[iS,z3]
 have g5:(zg5 T1 T2 s.heap l1 l2).get? (zg4 T1 T2 s.heap l1 l2).objs.size=some _:=bK _ rfl;have g4:(zg5 T1 T2 s.heap l1 l2).get? (zg3 T1 T2 s.heap l1 l2).objs.size=some _:=aO _ (bK _ rfl);have g3:(zg5 T1 T2 s.heap l1 l2).get? (zg2 T1 T2 s.heap l1 l2).objs.size=some _:=aO _ (aO _<|bK _ rfl)
 have s2:pD T2 (zg5 T1 T2 s.heap l1 l2) (zg1 T1 s.heap l1).objs.size l2 0:=(pD.new (zg1 T1 s.heap l1) l2).at λo e=>aO _ (aO _<|aO _ e)
 have s1:pD T1 (zg5 T1 T2 s.heap l1 l2) s.heap.objs.size l1 0:=(pD.new s.heap l1).at λo e=>aO _ (aO _<|aO _<|aO _ e)
 have ap:ZAp (zg4 T1 T2 s.heap l1 l2).objs.size (zg2 T1 T2 s.heap l1 l2).objs.size (zg3 T1 T2 s.heap l1 l2).objs.size s.heap.objs.size (zg1 T1 s.heap l1).objs.size:=by
  rw[z1,z2,z3,z4];have k: ∀n a b:Nat,a≠b->n+a≠n+b:=λn a b h=>aa
  exact⟨k _ 2 4 ac,k _ 3 4 ac,k _ 0 4 ac,k _ 1 4 ac,k _ 2 3 ac,k _ 2 0 ac,k _ 2 1 ac,k _ 3 0 ac,k _ 3 1 ac,k _ 0 1 ac⟩
 refine⟨⟨_,g5,rfl⟩,h _ _ _ _ _ _ ap (λb hb=> ?_) ⟨g5,g3,⟨_,_,g4⟩,s1,s2⟩ λc o e=>aO _ (aO _<|aO _<|aO _<|aO _ e)⟩
 rw[z1,z2,z3,z4]at hb;simp only[aR,eO,eS]at hb;rcases hb with rfl|rfl|rfl|rfl|rfl<;>omega
end
section
variable {X:Cx}
def iZip (K:Frag)(ta:TA):TI:=λσ H R=>ta σ H λvs H1=> ∃l1 l2 T1 T2 xs ys,vs=[.ref l1,.ref l2]/\SqV K T1 H1 l1 xs/\SqV K T2 H1 l2 ys/\R (Itz K T1 T2 l1 l2) H1
theorem pi_zip {a b:Expr}{elts:List Expr}{kt:Nat}{tp:Pos}{ta:TA}{p pos:Pos}(hg:Gl X "zip")(hm:X.mg "zip"=none)(ha:PA X [a,b] ta)(hs:starEach [a,b] X.env=[(false,eval a X.env),(false,eval b X.env)]:=by rfl)(hs2:starEach [b] X.env=[(false,eval b X.env)]:=by rfl) :
  PI X (.Tuple elts kt tp) (.Call (.Name "zip" p) [a,b] [] pos) (iZip X.K ta):=by
 intro pins s σ H R I h;refine Call_ (oN I hg hm PyProof.Rows.boot_zip<|gL (thn (ha pos pins s σ H _ I h) λus s1 ⟨vs,H1,I1,r1,q1⟩=> ?_) (by rw[hs,hs2]) (by rw[hs2];rfl))
 obtain⟨l1,l2,T1,T2,xs,ys,e,q1,q2,q⟩:=q1;subst e;obtain⟨u,v,rfl,r,r'⟩:=Vals.two r1;cases r;cases r';obtain⟨is1,_,p1,_⟩:=I1.sq q1;obtain⟨is2,_,p2,_⟩:=I1.sq q2;refine bK0 p1 p2 λh' z TI TO i1 i2 ap fr st k=>wpAny_pyIter_zip st.hz ?_
 have nl: ∀l,l<s1.heap.objs.size->l ∉ [z,TI,TO,i1,i2]:=λl hl hb=>absurd (bO hl<|fr l hb) (dQ _)
 exact⟨z,[z,TI,TO,i1,i2],_,_,H1,rfl,I1.kept (t':=s1.toks) k,bJ9 ap (nl l1 p1.lt)<|nl l2 p2.lt,st,λb hb=>I1.fpOk (fr b hb) (I1.hok.fresh<|fr b hb),q⟩
end
theorem aR9 {prog:Program}{w:World}{A:Around}{T:Bool}(hh:A.handled=none)(it a:Addr)(hne:a≠it)(xs:Array Value):Draws prog w A it [it,a] xs.size (λi v=>xs[i]? =some v) (λi h=>pD T h it a i/\pC T h a xs) where
 live:=λ_ _ st=>let ⟨o,ho,_⟩:=st.1.rec';⟨o,ho⟩
 frame:=λ_ _ _ st k=>⟨st.1.at λo e=>k it ae o e,st.2.at λo e=>k a ae o e⟩
 item:=λi s Q E hi st hQ=>a50 st.1 st.2 (x:=xs[i]) (by simp[hi]) λh' hit' m=>hQ _ h' s.toks (by simp[hi]) ⟨hit',st.2.at λo e=>m.extBut _ _ hne e⟩ m
 done:=λs Q E st hE=>a75 hh st.1 st.2 ae hE
noncomputable def Ite (K:Frag)(T:Bool)(l:Addr):It where
 go:=λi H=> ∃xs x,SqV K T H l xs/\xs[i]? =some x
 yld:=λi H v H'=> ∃Tn x,v= .ref Tn/\H Tn=none/\H'=upd H Tn (.tup [.int (i:Int),x])/\ ∀xs,SqV K T H l xs->xs[i]? =some x
 stop:=λi H=> ∃xs,SqV K T H l xs/\xs.length=i
def ESt (T:Bool)(e it l:Addr)(i:Nat)(h:Heap):Prop:=(∃old,IsEnum h e it i old)/\pD T h it l i
theorem ESt.objs {T:Bool}{e it l:Addr}{i:Nat}{h:Heap}(st:ESt T e it l i h): ∀b∈[e,it],∃o,h.get? b=some o/\ ∀v,o.data≠ .cell v:=λb hb=>by
 obtain⟨⟨old,he⟩,h1⟩:=st;simp only[aR,eO,eS]at hb;rcases hb with rfl|rfl
 ·exact⟨_,he,λv q=>by cases q⟩
 ·exact h1.rec'
theorem bB8 {P:Program}{w:World}{K:Frag}{elts:List Expr}{kt:Nat}{tp:Pos}{T:Bool}{e it l:Addr}(hei:e≠it)(nl:l ∉ [e,it]):aL2 P w K (.Tuple elts kt tp) (Ite K T l) [e,it] e (ESt T e it l) where
 mem:=ae
 obj:=λi h st b hb=>st.objs b hb
 keep:=λi h h' st k=>by
  obtain⟨⟨old,he⟩,h1⟩:=st;exact⟨⟨old,k e ae _ he⟩,h1.at λo q=>k it ae o q⟩
 item:=by
  intro X hP hw hK hc i pins s σ H E I hf st hg;subst hP hw hK;obtain⟨xs,x,q1,e1⟩:=hg;obtain⟨is1,r1,p1,_⟩:=I.sq q1;obtain⟨u1,hu1,ru1⟩:=r1.get e1;simp only[aR,eO,eS,not_or]at nl;obtain⟨⟨old,he⟩,h1⟩:=id st;have hi:i<is1.toArray.size:=by rw[aU];exact(fF.mp hu1).1
  have D:=aR9 (prog:=X.prog) (w:=X.w) (A:=X.A.in1) (T:=T) (I.ok.hd hc) it l nl.2 is1.toArray;refine wpAny_pyNext_enum_itemD D he ⟨h1,p1⟩ hi hei (by simp[hei,Ne.symm nl.1]) λv h' tk hv ho hs' ht hsz k=>⟨_,rfl,wpAny_letOwnedTupleGo_enum ho λh2 he2 m=> ?_⟩
  have ev:v=u1:=by
   have:is1.toArray[i]? =some u1:=by simpa using hu1
   rw[this]at hv;cases hv;rfl
  subst ev;have hne:s.heap.objs.size≠e:=l7 (aM he);have kk: ∀b u,b ∉ [e,it]->s.heap.get? b=some u->h2.get? b=some u:=λb u nb q=>by
   simp only[aR,eO,eS,not_or]at nb;exact m.extBut _ _ nb.1 (k b u nb.1 nb.2 q)
  have ht2:h2.get? s.heap.objs.size=some {cls:= .type "tuple",data:= .seq #[.int i tk,v]}:=m.extBut _ _ hne ht;refine⟨.ref s.heap.objs.size,upd H s.heap.objs.size<|.tup [.int (i:Int),x],I.turnedNew (t':=tk+1) kk hf (aC _) ⟨aR8,[.int i tk,v],.cons ⟨tk,rfl⟩<|.cons ru1 .nil,⟨_,ht2,rfl,_,rfl⟩⟩,rfl,
   ⟨_,x,rfl,I.hok.fresh<|aC _,rfl,λxs' q=>by rw[I.sq_inj q q1];exact e1⟩,⟨⟨_,by simpa using he2⟩,hs'.1.at λo q=>m.extBut _ _ (Ne.symm hei) q⟩,λb hb=> ?_⟩
  obtain⟨o,ho',_⟩:=st.objs b hb;rw[dG<|aW<|aM ho'];exact(hf b hb).1
 done:=by
  intro X hP hw hK hc i pins s σ H E I hf st hg;subst hP hw hK;obtain⟨xs,q1,hl⟩:=hg;obtain⟨is1,r1,p1,_⟩:=I.sq q1;have l1':=r1.length;simp only[aR,eO,eS,not_or]at nl;obtain⟨⟨old,he⟩,h1⟩:=id st;have D:=aR9 (prog:=X.prog) (w:=X.w) (A:=X.A.in1) (T:=T) (I.ok.hd hc) it l nl.2 is1.toArray
  refine wpAny_pyNext_enum_endD D he ⟨by rw[aU,<-l1',hl];exact h1,p1⟩ λh' ex=>⟨rfl,I.turnedL (t':=s.toks) (λb u nb q=>ex b u (λz=>nb (by simp[z])) q) hf⟩
 self:=λ_ _ _ _ _ st h=>by
  obtain⟨⟨old,he⟩,_⟩:=st;exact wpAny_pyIter_enum he h
theorem bB9 (l:Addr)(xs:Array Value):Meets (Builtin.«enumerate.__new__» ⟨[.type "enumerate",.ref l],[]⟩) (λ_ R s=>s.heap.IsTuple l xs/\
  R (.ok<|.ret<|.ref (s.heap.push<|uG true l).objs.size) {s with heap:=(s.heap.push<|uG true l).push {cls:= .type "enumerate",data:= .fields #[.none,.bool false,.ref s.heap.objs.size,rawInt 0,.none,.none]}}):= .of_wp λprog w A R s h=>by
 obtain⟨hp,g,d,tk,os⟩:=s;obtain⟨hl,h⟩:=h;obtain⟨⟨c,dct,dt,sl⟩,hg,hc,n,hd⟩:=id hl
 replace hc:c= .type "tuple":=hc
 replace hd:dt= .seq xs n:=hd
 subst hc hd;have hsub:=sub_enumerate;have e1:pC true (Shared.heap ⟨hp,g,d,tk,os⟩) l xs:=hl
 wp_walk using wB hg
 refine wpAny_stack_any λst=>aF ?_
 split
 ·rename_i c _ _ _ _ _
  cases (c==Value.type "enumerate")<;>(wp_walk using wB hg,vD e1;exact⟨_,rfl,h⟩)
 ·wp_walk using wB hg,vD e1
  exact⟨_,rfl,h⟩
section
variable {prog:Program}{w:World}{A:Around}{E:Value->Shared->Prop}{s:Shared}
theorem bC0 {T:Bool}{l:Addr}{xs:Array Value}{Q:Value->Shared->Prop}(hl:pC T s.heap l xs)
  (h: ∀h' e it,e≠it->s.heap.objs.size<=e->s.heap.objs.size<=it->ESt T e it l 0 h'->(∀c o,s.heap.get? c=some o->h'.get? c=some o)->Q (.ref e) {s with heap:=h'}) :
  wpAny (model prog w) A (call (.type "enumerate") [.ref l]) Q E s:=by
 cases T with
 | false=>exact call_enumerate_list hl λh' he hit hsz k=>h h' _ _ aa aa aa ⟨⟨_,he⟩,hit⟩ k
 | true=>
  refine callType_new PySem.F.called_enumerate ac (PySem.F.typeCall_enumerate_1 _) (PySem.F.newCall_enumerate_1 _) (λobj=>PySem.F.args_object_init_2 obj _) PySem.F.entry_enumerate_new (bB9 l xs) ⟨hl,?_⟩
  have z1:(s.heap.push<|uG true l).objs.size=s.heap.objs.size+1:=iS ..;have he:IsEnum ((s.heap.push<|uG true l).push {cls:= .type "enumerate",data:= .fields #[.none,.bool false,.ref s.heap.objs.size,rawInt 0,.none,.none]}) (s.heap.push<|uG true l).objs.size s.heap.objs.size 0 .none:=bK _ rfl
  have hi:pD true ((s.heap.push<|uG true l).push {cls:= .type "enumerate",data:= .fields #[.none,.bool false,.ref s.heap.objs.size,rawInt 0,.none,.none]}) s.heap.objs.size l 0:=(pD.new (T:=true) s.heap l).at λo e=>aO _ e
  exact⟨⟨_,he,rfl⟩,h _ _ _ (by rw[z1];omega) (by rw[z1];omega) (aC _) ⟨⟨_,he⟩,hi⟩ λc o e=>aO _ (aO _ e)⟩
end
section
variable {X:Cx}
def iEnum (K:Frag)(ta:TA):TI:=λσ H R=>ta σ H λvs H1=> ∃l T xs,vs=[.ref l]/\SqV K T H1 l xs/\R (Ite K T l) H1
theorem bV0 {a:Expr}{elts:List Expr}{kt:Nat}{tp:Pos}{ta:TA}{p pos:Pos}(hg:Gl X "enumerate")(hm:X.mg "enumerate"=none)(ha:PA X [a] ta)(hs:starEach [a] X.env=[(false,eval a X.env)]:=by rfl) :
  PI X (.Tuple elts kt tp) (.Call (.Name "enumerate" p) [a] [] pos) (iEnum X.K ta):=by
 intro pins s σ H R I h;refine Call_ (oN I hg hm PyProof.Rows.boot_enumerate<|gL (thn (ha pos pins s σ H _ I h) λus s1 ⟨vs,H1,I1,r1,q1⟩=> ?_) hs rfl)
 obtain⟨l,T,xs,e,q1,q⟩:=q1;subst e;obtain⟨u,rfl,r⟩:=vals1 r1;cases r;obtain⟨is1,_,p1,_⟩:=I1.sq q1;refine bC0 p1 λh' e it ne f1 f2 st k=> ?_
 obtain⟨⟨old,he⟩,_⟩:=id st;refine wpAny_pyIter_enum he ?_;have lt:=p1.lt;have fr: ∀b∈[e,it],s1.heap.objs.size<=b:=λb hb=>by
  simp only[aR,eO,eS]at hb;rcases hb with rfl|rfl
  ·exact f1
  ·exact f2
 exact⟨e,[e,it],_,_,H1,rfl,I1.kept (t':=s1.toks) k,bB8 ne λhb=>absurd (bO lt<|fr l hb) (dQ _),st,λb hb=>I1.fpOk (fr b hb) (I1.hok.fresh<|fr b hb),q⟩
end
end L2
end
section
namespace L2
open PySem PySem.Spec PyProof.Rows
theorem a29:isSubtype (.type "range_iterator") (.type "reversed")=pure false:=by rw[kY];kernel_rfl
theorem zV {n:Int}(h1: -(2^31)<=n)(h2:n<2^31):Builtin.Range.rangeFitsLong n=true:=by
 simp[Builtin.Range.rangeFitsLong]
 lia
noncomputable def yE (n:Int):Obj:={cls:= .type "range_iterator",data:= .fields #[rawInt<|(n.toNat:Int)-1,rawInt (n.toNat:Int),rawInt<|-1]}
theorem aE0 (r:Addr)(a b c:Int)(t u v:Tok)(hc0: ¬(!(Builtin.Range.rangeFitsLong a&&Builtin.Range.rangeFitsLong b&&Builtin.Range.rangeFitsLong c&&Builtin.Range.rangeFitsLong (-c)&&Builtin.Range.rangeFitsLong (a-c)&&Builtin.Range.rangeFitsLong (Builtin.Range.rangeSize a b c)))=true) :
  Meets (Builtin.«range.__reversed__» ⟨[.ref r],[]⟩) (λ_ R s=>s.heap.get? r=some {cls:= .type "range",dict:=none,data:= .fields #[.int a t,.int b u,.int c v],slots:= #[]}/\
  R (.ok<|.ret<|Value.ref s.heap.objs.size) {s with heap:=s.heap.push {cls:=Value.type (if(Builtin.Range.rangeFitsLong a&&Builtin.Range.rangeFitsLong b&&Builtin.Range.rangeFitsLong c&&Builtin.Range.rangeFitsLong (-c)&&Builtin.Range.rangeFitsLong (a-c)&&Builtin.Range.rangeFitsLong (Builtin.Range.rangeSize a b c))=true then "range_iterator" else "longrange_iterator"),data:=Data.fields #[rawInt<|a+(Builtin.Range.rangeSize a b c-1)*c,rawInt<|Builtin.Range.rangeSize a b c,rawInt<|-c]},toks:=s.toks}):= .of_wp λprog w A R s h=>by
 obtain⟨hp,g,d,tk,os⟩:=s;obtain⟨hl,h⟩:=h
 wp_walk
 exact⟨_,rfl,h⟩
theorem a30 (r:Addr)(n:Int)(t u v:Tok)(h1: -(2^31)<=n)(h2:n<2^31):Meets (Builtin.«range.__reversed__» ⟨[.ref r],[]⟩) (λ_ R s=>IsRange s.heap r 0 n 1 t u v/\
  R (.ok<|.ret<|.ref s.heap.objs.size) {s with heap:=s.heap.push (yE n)}):=by
 have e0:Builtin.Range.rangeSize 0 n 1=(n.toNat:Int):=by rw[rangeSize_one];split<;>lia
 have sm:(Builtin.Range.rangeFitsLong 0&&Builtin.Range.rangeFitsLong n&&Builtin.Range.rangeFitsLong 1&&Builtin.Range.rangeFitsLong (-1)&&Builtin.Range.rangeFitsLong (0-1)&&Builtin.Range.rangeFitsLong (Builtin.Range.rangeSize 0 n 1))=true:=by
  rw[e0,zV h1 h2,zV (n:=0) ac ac,zV (n:=1) ac ac,zV (n:= -1) ac ac,zV (n:=0-1) ac ac,zV (n:=(n.toNat:Int)) ad ad]
  rfl
 have G:=aE0 r 0 n 1 t u v (by rw[sm];decide)
 intro prog w A R s h;refine G prog w A R s ⟨h.1,?_⟩;rw[sm,a8 rfl,e0];have e1:(0:Int)+((n.toNat:Int)-1)*1=(n.toNat:Int)-1:=ad
 rw[e1];exact h.2
section
variable {prog:Program}{w:World}{A:Around}{E:Value->Shared->Prop}{s:Shared}
theorem aS0 {r:Addr}{n:Int}{t u v:Tok}{Q₁:Value->Shared->Prop}(hr:IsRange s.heap r 0 n 1 t u v)(h1: -(2^31)<=n)(h2:n<2^31)
  (h:Q₁ (.ref s.heap.objs.size) {s with heap:=s.heap.push (yE n)}) :
  codeAny (model prog w) A (.call (.builtin "reversed.__new__") ⟨[.type "reversed",.ref r],[]⟩) (wants Q₁ E) s:=by
 have hT:s.TypeIs (.ref r) "range":=⟨_,hr,rfl⟩;refine codeAny_of_tree ?_;show wpAny _ A.in1 (do checkBuiltinCall "reversed.__new__" ⟨[.type "reversed",.ref r],[]⟩;again (.builtin "reversed.__new__" ⟨[.type "reversed",.ref r],[]⟩)) _ _ s;refine a9 (iB (PySem.F.newCall_reversed_1 _)<|aF ⟨plainId_quiet PySem.F.plain_reversed_new _,codeAny_builtin PySem.F.entry_reversed_new ?_⟩)
 rw[Around.under_plainId PySem.F.plain_reversed_new _];unfold Builtin.«reversed.__new__»;refine a9 (iB (newClass_reversed _) ?_);try dsimp only
 refine a9 (iB (a:=()) (by first|rfl|kernel_rfl) ?_);refine a9 (iB (a:=()) (by first|rfl|kernel_rfl) ?_);try dsimp only
 refine a9 (wX hT PySem.F.slot_range_reversed.lookup ?_);try dsimp only
 refine a9 (iB (PySem.F.slot_range_reversed.bind _) ?_);try dsimp only
 first
 | rw[a7<|show ¬((Value.builtin "range.__reversed__"==Value.none)=true)from aY]
 | (show wpAny _ _ (if(Value.builtin "range.__reversed__"==Value.none)=true then _ else _) _ _ _;rw[a7<|show ¬((Value.builtin "range.__reversed__"==Value.none)=true)from aY])
 refine a9 (jR ?_)
 refine a9 (m:=runValue (.call (.builtin "range.__reversed__") ⟨[.ref r],[]⟩)) (show wpAny _ _ (call (.builtin "range.__reversed__") [.ref r]) _ _ _ from call_meets PySem.F.slot_range_reversed hT PySem.F.entry_range_reversed (PySem.F.args_range_reversed_1 _) (a30 r n t u v h1 h2) ⟨hr,?_⟩)
 first
 | exact aF h
 | exact a9 (aF<|aF h)
theorem bV1 {r:Addr}{n:Int}{t u v:Tok}{Q:Value->Shared->Prop}(hr:IsRange s.heap r 0 n 1 t u v)(h1: -(2^31)<=n)(h2:n<2^31)(h:Q (.ref s.heap.objs.size) {s with heap:=s.heap.push (yE n)}) :
  wpAny (model prog w) A (call (.type "reversed") [.ref r]) Q E s:=by
 refine callType_other (U:="range_iterator") (Q₁:=λobj s₁=>obj= .ref s.heap.objs.size/\s₁={s with heap:=s.heap.push (yE n)}) af PySem.F.create_reversed ⟨_,_,PySem.F.mro_reversed⟩ PySem.F.made_reversed a29 (PySem.F.typeCall_reversed_1 _) (aS0 hr h1 h2 ⟨rfl,rfl⟩) ?_
 rintro obj s₁ ⟨rfl,rfl⟩;exact⟨⟨_,bK _ rfl,rfl⟩,h⟩
end
section
variable {X:Cx}{tg:Expr}
def iRevR (ta:TA):TI:=λσ H R=>ta σ H λvs H1=> ∃j:Int,vs=[.int j]/\ -(2^31)<=j/\j<2^31/\R (Itd ((j.toNat:Int)-1) j.toNat) H1
theorem aS1 {a:Expr}{ta:TA}{p p2 pos pos2:Pos}(hg:Gl X "reversed")(hm:X.mg "reversed"=none)(hg2:Gl X "range")(hm2:X.mg "range"=none)(ha:PA X [a] ta)(hs:starEach [a] X.env=[(false,eval a X.env)]:=by rfl)
  (hs2:starEach [.Call (.Name "range" p2) [a] [] pos2] X.env=[(false,eval (.Call (.Name "range" p2) [a] [] pos2) X.env)]:=by rfl) :
  PI X tg (.Call (.Name "reversed" p) [.Call (.Name "range" p2) [a] [] pos2] [] pos) (iRevR ta):=by
 intro pins s σ H R I h;refine Call_ (oN I hg hm w4<|gL ?_ hs2 rfl);rw[hs2];show wpAny _ _ (spliced ((false,eval (.Call (.Name "range" p2) [a] [] pos2) X.env)::[])) _ _ s;refine Calls.spliced_cons (Call_<|oN I hg2 hm2 boot_range<|gL (thn (ha pos2 pins s σ H _ I h) λus s1 ⟨vs,H1,I1,r1,q1⟩=> ?_) hs rfl)
 obtain⟨j,e,q1,q2,q⟩:=q1;subst e;obtain⟨u,rfl,t,rfl⟩:=vals1 r1;refine call_range_1 (Calls.spliced_nil ?_);have I2:Inv X pins σ H1 {s1 with heap:=s1.heap.push {cls:= .type "range",data:= .fields #[.int 0 s1.toks,.int j t,.int 1<|s1.toks+1]},toks:=s1.toks+1+1}:=I1.kept λb o e=>aO _ e
 refine bV1 (IsRange.new ..) q1 q2 ?_
 have hi:IsRangeIter (((s1.heap.push {cls:= .type "range",data:= .fields #[.int 0 s1.toks,.int j t,.int 1<|s1.toks+1]})).push<|yE j) (s1.heap.push {cls:= .type "range",data:= .fields #[.int 0 s1.toks,.int j t,.int 1<|s1.toks+1]}).objs.size ((j.toNat:Int)-1) (j.toNat:Int) (-1):=bK _ rfl;refine wE hi ?_
 refine⟨_,[(s1.heap.push {cls:= .type "range",data:= .fields #[.int 0 s1.toks,.int j t,.int 1<|s1.toks+1]}).objs.size],_,_,H1,rfl,I2.kept (t':=s1.toks+1+1) λb o e=>aO _ e,aH4 _ ((j.toNat:Int)-1) j.toNat,?_,λb hb=> ?_,q⟩
 ·show IsRangeIter _ _ (((j.toNat:Int)-1)+((0:Nat):Int)*(-1)) ((j.toNat:Int)-((0:Nat):Int)) (-1)
  have e1:((j.toNat:Int)-1)+((0:Nat):Int)*(-1)=(j.toNat:Int)-1:=ae
  have e2:(j.toNat:Int)-((0:Nat):Int)=(j.toNat:Int):=ae
  rw[e1,e2];exact hi
 ·have e:b=(s1.heap.push {cls:= .type "range",data:= .fields #[.int 0 s1.toks,.int j t,.int 1<|s1.toks+1]}).objs.size:=by simpa using hb
  subst e;exact I2.fpOk (aC _) (I2.hok.fresh<|aC _)
theorem bK1:PGet X (rIxL X.K):=by
 intro pins s σ H o i ov iv Q I ro ri h;obtain⟨p,xs,k,z,rfl,rfl,hq,he,q⟩:=h;cases ro;obtain⟨t,rfl⟩:=ri;obtain⟨its,r,pl,hz⟩:=I.list hq;obtain⟨j,h1,h2,h3,h4,h5⟩:=a47 he;obtain⟨w,ew,rw'⟩:=r.get h2;have hl:=r.length;have hn:=zP;have fin:EP X pins σ Q w s:=⟨z,H,I,rw',q⟩
 by_cases h0:0<=k
 ·have hj:k.toNat=j:=by
   rw[sL h0 h5]at h1;exact dZ h1
  exact wpAny_getItem_list pl.isList h0 ad (by rw[hj];simpa using ew) fin
 ·have hj:(k+(its.toArray.size:Int)).toNat=j:=by
   rw[sG ad h4]at h1
   rw[aU,<-hl];exact dZ h1
  exact wpAny_getItem_list_neg pl.isList ad (by rw[aU]<;>lia) ad (by rw[hj];simpa using ew) fin
end
end L2
namespace HT
open PySem PyProof.Rows
section
variable {prog:Program}{w:World}{A:Around}{E:Value->Shared->Prop}{s:Shared}
theorem getItem_tuple_whole {t sl:Addr}{items:Array Value}{vl vu:Value}{lo hi:Option Int}{Q:Value->Shared->Prop}(ht:IsTup s.heap t items)(hs:s.heap.IsSliceOf sl vl vu .none)(pl:IsPart vl lo)(pu:IsPart vu hi)
  (hw:sIx items.size 0 lo=0/\sIx items.size items.size hi=items.size) (h:Q (.ref t) s):wpAny (model prog w) A (getItem (.ref t)<|.ref sl) Q E s:=by
 obtain⟨os,hos,hcs,hds⟩:=id hs;have hTs:s.TypeIs (.ref sl) "slice":=⟨os,hos,hcs⟩;unfold getItem;try with_reducible refine e9 ?_
 first|refine a9 (aF ?_)|skip
 refine a9 (wpAny_sequenceKey ht.typeIs ac ?_)
 refine a9 (iM (name:=Str.ofString "__getitem__") ht.typeIs rA<|fK rA ht.typeIs entry_tuple_getitem ?_<|args_tuple_getitem _ _)
 show wpAny _ _ (Builtin.Tuple.tupleItemsOf (.ref t) >>= _) _ _ s
 refine a9 (tupleItemsOf_ ht ?_)
 refine a9 (wpAny_typeOf hTs ?_)
 rw[a8 ac]
 refine a9 (qN hs pl pu ?_)
 have hyes:(((sIx items.size 0 lo:Nat):Int)==0&&(1:Int)==1&&(sIx items.size items.size hi-sIx items.size 0 lo)==items.size)=true:=by
  rw[hw.1,hw.2];simp
 show wpAny _ _ (if(((sIx items.size 0 lo:Nat):Int)==0&&(1:Int)==1&&(sIx items.size items.size hi-sIx items.size 0 lo)==items.size)=true then _ else _) _ _ s
 rw[a8 hyes];show wpAny _ _ (Builtin.Tuple.tupleIsExact (.ref t) >>= _) _ _ s;unfold Builtin.Tuple.tupleIsExact;refine a9 (a9<|wpAny_typeOf ht.typeIs<|aF ?_);show wpAny _ _ (if(Value.type "tuple"==Value.type "tuple")=true then _ else _) _ _ s;rw[a8 ac]
 refine a9 (jR ?_)
 first
  | exact aF ⟨_,rfl,aF h⟩
  | exact a9 (aF<|aF ⟨_,rfl,aF h⟩)
  | exact a9 (aF ⟨_,rfl,aF h⟩)
end
end HT
namespace L2
open PySem PySem.Spec PyProof.Rows
section
variable {X:Cx}
def rSlW (K:Frag):V->Option Int->Option Int->Hp->VK->Prop:=λx lo hi H Q=> ∃a xs,x= .ref a/\SqT K H a xs/\(HT.sIx xs.length 0 lo=0/\HT.sIx xs.length xs.length hi=xs.length)/\Q (.ref a) H
theorem bK2:SlR X (rSlW X.K):=by
 intro pins s σ H x v vl vu lo hi sl Q I rx hs pl pu h;obtain⟨a,xs,rfl,hx,hw,q⟩:=h;cases rx;obtain⟨its,r,ht,hz⟩:=I.tuple hx;have hlen:its.toArray.size=xs.length:=by rw[aU];exact r.length.symm
 exact⟨"tuple",_,PyProof.Rows.slot_tuple_getitem.lookup,ht.typeIs,HT.getItem_tuple_whole ht hs pl pu (by rw[hlen];exact hw) ⟨.ref a,H,I,rfl,q⟩⟩
end
end L2
namespace M
open PySem PySem.Spec PyProof.Rows L2
section
variable {X:Cx}{K:Frag}{A:AS}{H:Hp}{e a b:Expr}{te ti:UE}{pos p2:Pos}{C:C0}{ρ ρ':Ev}{σ:L2.St}
def gSlT (d:D)(lo hi:Option Int)(Q:B->Prop):Prop:=match d with
 | .tup l=>Q (.pu<|.tup<|cutD l lo hi)
 | .lst l=>Q (.ow<|cutD l lo hi)
 | .rol l=>Q (.ow<|cutD l lo hi)
 | _=>False
def aS2 (t:UE)(tl th:UO):UE:=λρ Q=>t ρ λb0 ρ1=>tl ρ1 λlo ρ2=>th ρ2 λhi ρ3=>gSlT b0.d lo hi λb=>Q b ρ3
theorem bC1 (l:List D)(lo hi:Option Int)(h:HT.sIx l.length 0 lo=0/\HT.sIx l.length l.length hi=l.length):cutD l lo hi=l:=by
 unfold cutD;rw[h.1,h.2];simp
theorem nW {tl th:UO}{lo hi:Option Expr}(he:PU X e te)(hl:PUO X lo tl)(hu:PUO X hi th):PU X (.Subscript e (.Slice lo hi none p2) pos) (aS2 te tl th):=
 hZ (aQ9 ((b47.or bG3).or bK2) he hl hu) λσ H Q ⟨C,ρ,Q0,I,h,k⟩=>⟨C,ρ,_,I,h,λb0 ρ1 v H1 q f s r=>by
  have I1:=(I.frz f).same s;have rr:=r.rep λa z=>I.avF f z
  refine⟨C,ρ1,_,I1,q,λl2 ρ2 H2 q2 f2 s2=> ?_⟩
  have I2:=(I1.frz f2).same s2;refine⟨C,ρ2,_,I2,q2,λh3 ρ3 H3 q3 f3 s3=> ?_⟩
  have I3:=(I2.frz f3).same s3;have s13:=s2.trans s3;have sAll:=s.trans s13;have fAll:=f.trans (f2.trans f3);have r':Rep X.K (Av C ρ3 σ) H3 b0.d v:=rr.mono (.sub s13 λa z=>f2.av (f3.av z))
  generalize b0.d=d at r' q3;cases d with
  | tup l=>
   have r2:=r';simp only[Rep]at r';obtain⟨a,vs,rfl,c,rs⟩:=r';have hlen:=rs.length
   by_cases hw:HT.sIx l.length 0 l2=0/\HT.sIx l.length l.length h3=l.length
   ·refine .inr ⟨a,vs,rfl,c.imp bY id,by rw[<-hlen];exact hw,k _ ρ3 _ _ q3 fAll sAll ?_⟩
    show Rep _ _ _ (.tup<|cutD l l2 h3) _
    rw[bC1 l l2 h3 hw];exact r2
   ·exact .inl (.inr ⟨a,vs,rfl,c.imp bY id,by rw[<-hlen];exact hw,λp n=>k _ ρ3 _ _ q3 fAll (sAll.trans<|cZ n _) (i3 (λa z=>I3.avSome z) n<|rs.cut l2 h3)⟩)
  | lst l=>
   simp only[Rep]at r';obtain⟨a,vs,rfl,n0,c,rs⟩:=r';exact .inl (.inl ⟨a,vs,rfl,SqL.of c,λp n=>k _ ρ3 _ _ q3 fAll (sAll.trans<|cZ n _) (eM sAll n<|rs.cut l2 h3)⟩)
  | rol l=>
   simp only[Rep]at r';obtain⟨a,vs,rfl,c,rs⟩:=r';exact .inl (.inl ⟨a,vs,rfl,c.imp bY id,λp n=>k _ ρ3 _ _ q3 fAll (sAll.trans<|cZ n _) (eM sAll n<|rs.cut l2 h3)⟩)
  | _=>exact(show False from q3).elim⟩
def bK3 (i:Nat)(f:Int->Int->Int)(ti te:UE):US:=λD ρ=>kK ρ i λ_=>ti ρ λj ρ1=>kK ρ1 i λl1=> ∃k n x,j.d= .int k/\ixN l1.length k=some n/\l1[n]? =some (.int x)/\
 te ρ1 λb ρ2=>kK ρ2 i λl=> ∃y,b.d= .int y/\D.nx (ρ2.set i<|some<|.ow<|l.set n<|.int<|f x y)
theorem bV2 {x:Str}{p tpos:Pos}{ix:Expr}{op:Operator}{f:Int->Int->Int}(i:Nat)(hx:PE X (.Name x p) (a26 i))(hi:PU X ix ti)(he:PU X e te)(hp:PIp X op (ipI f))
  (ha: ∀ov iv new,augStore ix ov iv new=(do holding [new,ov,iv] (setItem ov iv new);release [new,ov,iv] [];pure .next):=by intros;rfl):PUS X (.AugAssign (.Subscript (.Name x p) ix tpos) op e pos) (bK3 i f ti te):=
 qP (bS2 hx hi bK1 he hp a67 ha) λD σ H ⟨C,ρ,D0,I,h,k⟩=>by
  obtain⟨l,hl,h⟩:=j2 h;obtain⟨a,vs,h1,h2,h3,h4⟩:=I.ow i l hl;refine⟨.ref a,h1,C,ρ,_,I,h,λj ρ1 w H1 q f1 s1 r1=> ?_⟩
  obtain⟨l1,hl1,kk,n,x0,ej,en,ex,q⟩:=j2 q;have e1:=f1.ow hl1;rw[hl]at e1;cases e1;have I1:=(I.frz f1).same s1;obtain⟨a1,vs1,g1,g2,g3,g4⟩:=I1.ow i l hl1;rw[h1]at g1;cases g1;have rj:=r1.rep λa z=>I.avF f1 z
  rw[ej]at rj;have:=bF rj;subst this;obtain⟨v0,ev0,rv0⟩:=g4.get ex;have:=bF rv0;subst this;have hat:L2.atI vs1 kk=some (.int x0):=by unfold L2.atI;rw[<-g4.length,en];exact ev0
  refine⟨a,vs1,kk,_,rfl,rfl,SqL.of g2,hat,C,ρ1,_,I1,q,λb ρ2 w2 H2 q2 f2 s2 r2=> ?_⟩
  obtain⟨l2,hl2,y,eb,q2⟩:=j2 q2;have e2:=f2.ow hl2;rw[hl1]at e2;cases e2;have I2:=(I1.frz f2).same s2;obtain⟨a2,vs2,k1,k2,k3,k4⟩:=I2.ow i l hl2;rw[h1]at k1;cases k1;have rb:=r2.rep λa z=>I1.avF f2 z
  rw[eb]at rb;have:=bF rb;subst this;exact⟨x0,y,rfl,rfl,a,vs2,kk,n,rfl,rfl,k2,by rw[<-k4.length];exact en,k.nx _ _ _ q2<|I2.write hl2 h1<|k4.set n<|show Rep _ _ _ _ _ by simp only[Rep]⟩
mutual
noncomputable def pd:D->Option PyData
 | .non=>some .none
 | .bl b=>some (.bool b)
 | .int i=>some (.int i)
 | .tup l=>(pdL l).map .tuple
 | .lst l=>(pdL l).map .list
 | .rol l=>(pdL l).map .list
 | .str s=>if PyData.canLay0 (.str s)=true then some (.str s)else none
 | .ty _=>none
 | .obj _ _ _=>none
 | .adr _=>none
 | .xob _ _ _ _=>none
noncomputable def pdL:List D->Option (List PyData)
 | []=>some []
 | d::r=>(pd d).bind λx=>(pdL r).map (x::·)
end
theorem yF {d:D}{r:List D}{xs:List PyData}(h:pdL (d::r)=some xs): ∃x ys,xs=x::ys/\pd d=some x/\pdL r=some ys:=by
 simp only[pdL]at h;cases e:pd d with
 | none=>rw[e]at h;cases h
 | some x=>
  rw[e]at h;cases e2:pdL r with
  | none=>rw[e2]at h;cases h
  | some ys=>rw[e2]at h;cases h;exact⟨x,ys,rfl,rfl,rfl⟩
theorem jV {α β:Type}{o:Option α}{f:α->β}{y:β}(h:o.map f=some y): ∃x,o=some x/\y=f x:=by
 cases o with
 | none=>cases h
 | some x=>cases h;exact⟨x,rfl,rfl⟩
mutual
theorem xF: ∀(d:D) {x:PyData},pd d=some x->x.canLay0=true
 | .non,x,h=>by simp only[pd]at h;cases h;rfl
 | .bl b,x,h=>by simp only[pd]at h;cases h;rfl
 | .int i,x,h=>by simp only[pd]at h;cases h;rfl
 | .tup l,x,h=>by simp only[pd]at h;obtain⟨xs,e,rfl⟩:=jV h;simp only[PyData.canLay0];exact vE l e
 | .lst l,x,h=>by simp only[pd]at h;obtain⟨xs,e,rfl⟩:=jV h;simp only[PyData.canLay0];exact vE l e
 | .rol l,x,h=>by simp only[pd]at h;obtain⟨xs,e,rfl⟩:=jV h;simp only[PyData.canLay0];exact vE l e
 | .str s,x,h=>by simp only[pd]at h;split at h;(rename_i c;cases h;exact c);cases h
 | .ty _,x,h=>by simp only[pd]at h;cases h
 | .obj _ _ _,x,h=>by simp only[pd]at h;cases h
 | .adr _,x,h=>by simp only[pd]at h;cases h
 | .xob _ _ _ _,x,h=>by simp only[pd]at h;cases h
theorem vE: ∀(l:List D) {xs:List PyData},pdL l=some xs->PyData.canLayAll0 xs=true
 | [],xs,h=>by simp only[pdL]at h;cases h;rfl
 | d::r,xs,h=>by
  obtain⟨x,ys,rfl,e1,e2⟩:=yF h;simp only[PyData.canLayAll0,c8];exact⟨xF d e1,vE r e2⟩
end
section
variable {pins:List (Addr×Obj)}{s:Shared}
mutual
theorem nX (I:Inv X pins σ H s): ∀(d:D) {x:PyData} {v:V} {u:Value},pd d=some x->Rep X.K A H d v->RelV v u-> ∃as,Reads s.heap u x as
 | .non,x,v,u,h,r,q=>by simp only[pd]at h;cases h;simp only[Rep]at r;subst r;cases q;exact⟨_,.none⟩
 | .bl b,x,v,u,h,r,q=>by simp only[pd]at h;cases h;simp only[Rep]at r;subst r;cases q;exact⟨_,.bool b⟩
 | .int i,x,v,u,h,r,q=>by simp only[pd]at h;cases h;simp only[Rep]at r;subst r;obtain⟨t,rfl⟩:=q;exact⟨_,.int i t⟩
 | .tup l,x,v,u,h,r,q=>by
  simp only[pd]at h;obtain⟨xs,e,rfl⟩:=jV h;simp only[Rep]at r;obtain⟨a,vs,rfl,c,rs⟩:=r;cases q;obtain⟨its,rv,⟨o,ho,hc,n,hd⟩,hz⟩:=I.tuple (c.imp bY id);obtain⟨as,ra⟩:=lH I l e rs rv;exact⟨_,.tuple ho hc hd<|by simpa using ra⟩
 | .lst l,x,v,u,h,r,q=>by
  simp only[pd]at h;obtain⟨xs,e,rfl⟩:=jV h;simp only[Rep]at r;obtain⟨a,vs,rfl,n0,c,rs⟩:=r;cases q;obtain⟨its,rv,p,hz⟩:=I.list (SqL.of c);obtain⟨o,ho,hc,n,hd⟩:=p.isList;obtain⟨as,ra⟩:=lH I l e rs rv;exact⟨_,.list ho hc hd<|by simpa using ra⟩
 | .rol l,x,v,u,h,r,q=>by
  simp only[pd]at h;obtain⟨xs,e,rfl⟩:=jV h;simp only[Rep]at r;obtain⟨a,vs,rfl,c,rs⟩:=r;cases q;obtain⟨its,rv,p,hz⟩:=I.list (c.imp bY id);obtain⟨o,ho,hc,n,hd⟩:=p.isList;obtain⟨as,ra⟩:=lH I l e rs rv;exact⟨_,.list ho hc hd<|by simpa using ra⟩
 | .str i,x,v,u,h,r,q=>by simp only[pd]at h;split at h<;>cases h;simp only[Rep]at r;subst r;obtain⟨t,rfl⟩:=q;exact⟨_,.str i t⟩
 | .ty _,x,v,u,h,r,q=>by simp only[pd]at h;cases h
 | .obj _ _ _,x,v,u,h,r,q=>by simp only[pd]at h;cases h
 | .adr _,x,v,u,h,r,q=>by simp only[pd]at h;cases h
 | .xob _ _ _ _,x,v,u,h,r,q=>by simp only[pd]at h;cases h
theorem lH (I:Inv X pins σ H s): ∀(l:List D) {xs:List PyData} {vs:List V} {us:List Value},pdL l=some xs->bI X.K A H l vs->Vals vs us-> ∃as,ReadsAll s.heap us xs as
 | [],xs,vs,us,h,r,q=>by simp only[pdL]at h;cases h;have:=r.unnil;subst this;cases q;exact⟨_,.nil⟩
 | d::l,xs,vs,us,h,r,q=>by
  obtain⟨x,ys,rfl,e1,e2⟩:=yF h;obtain⟨v,vr,rfl,r1,rs⟩:=r.uncons;cases q with
  | cons q1 q2=>
   obtain⟨as,h1⟩:=nX I d e1 r1 q1;obtain⟨bs,h2⟩:=lH I l e2 rs q2;exact⟨_,.cons h1 h2⟩
end
end
def aM5 (neg:Bool)(d e:D)(Q:B->Prop):Prop:= ∃p q,pd d=some p/\pd e=some q/\p.depth<=60/\Q (.pu<|.bl<|neg ^^ p.eqv q)
theorem aZ9 (hu:X.A.units+64<cLine):OpU X (compareOp .Eq) (aM5 false):=by
 intro A H d e v w Q0 Q hA r1 r2 g k;obtain⟨p,q,e1,e2,hd,g⟩:=g;refine⟨λx y H Q=> ∃(A:AS) (d e:D) (p q:PyData),Rep X.K A H d x/\Rep X.K A H e y/\pd d=some p/\pd e=some q/\p.depth<=60/\Q (.bl<|p.eqv q) H,?_,A,d,e,p,q,r1,r2,e1,e2,hd,k _ _ H g (.refl _) (by rw[gP];exact jA)⟩
 rintro pins s σ H x y v u Q I rx ry ⟨A,d,e,p,q,r1,r2,e1,e2,hd,h⟩;obtain⟨as,ra⟩:=nX I d e1 r1 rx;obtain⟨bs,rb⟩:=nX I e e2 r2 ry;exact SeqAt.compareEq_reads ra rb (xF d e1) (xF e e2) ad ⟨.bl _,H,I,rfl,h⟩
theorem bK4 (hu:X.A.units+64<cLine):OpU X (compareOp .NotEq) (aM5 true):=by
 intro A H d e v w Q0 Q hA r1 r2 g k;obtain⟨p,q,e1,e2,hd,g⟩:=g;refine⟨λx y H Q=> ∃(A:AS) (d e:D) (p q:PyData),Rep X.K A H d x/\Rep X.K A H e y/\pd d=some p/\pd e=some q/\p.depth<=60/\Q (.bl<|!(p.eqv q)) H,?_,A,d,e,p,q,r1,r2,e1,e2,hd,k _ _ H g (.refl _) (by rw[iA];exact jA)⟩
 rintro pins s σ H x y v u Q I rx ry ⟨A,d,e,p,q,r1,r2,e1,e2,hd,h⟩;obtain⟨as,ra⟩:=nX I d e1 r1 rx;obtain⟨bs,rb⟩:=nX I e e2 r2 ry;exact SeqAt.compareNe_reads ra rb (xF d e1) (xF e e2) ad ⟨.bl _,H,I,rfl,h⟩
def SqA (K:Frag)(A:AS)(H:Hp)(T:Bool)(a:Addr)(vs:List V):Prop:=match T with
 | false=>(¬A a/\Rd H a (.lst vs))\/KL K a vs
 | true=>(¬A a/\Rd H a (.tup vs))\/KT K a vs
theorem SqA.sqv {T:Bool}{a':Addr}{vs:List V}{A':AS}{H':Hp}(c:SqA K A H T a' vs)(P:j9 A H A' H'):SqV K T H' a' vs:=by
 cases T<;>(rcases c with⟨n,c⟩|c;exact .inl (Rd.pres P n c).2;exact .inr c)
theorem j9.self:j9 A H A H:=λ_ _ n e=>⟨n,e⟩
theorem Rep.sq {d:D}{v:V}{l:List D}(r:Rep K A H d v)(h:oP d=some l): ∃T a vs,v= .ref a/\SqA K A H T a vs/\bI K A H l vs:=by
 cases d with
 | tup l'=>cases h;simp only[Rep]at r;obtain⟨a,vs,e,c,r⟩:=r;exact⟨true,a,vs,e,c,r⟩
 | lst l'=>cases h;simp only[Rep]at r;obtain⟨a,vs,e,n,c,r⟩:=r;exact⟨false,a,vs,e,.inl ⟨n,.inl c⟩,r⟩
 | rol l'=>cases h;simp only[Rep]at r;obtain⟨a,vs,e,c,r⟩:=r;exact⟨false,a,vs,e,c,r⟩
 | _=>cases h
theorem bI.at {l:List D}{vs:List V}{i:Nat}(r:bI K A H l vs)(hi:i<l.length): ∃x,vs[i]? =some x/\Rep K A H (l.getD i .non) x:=r.get (by rw[aQ,bJ hi];rfl)
theorem bK5 {T1 T2:Bool}{l1 l2:Addr}{vs ws:List V}{l m:List D}(c1:SqA K A H T1 l1 vs)(c2:SqA K A H T2 l2 ws)(r1:bI K A H l vs)(r2:bI K A H m ws) :
  aM0 K A H (Itz K T1 T2 l1 l2) (min l.length m.length) (λi=> .tup [l.getD i .non,m.getD i .non]):=by
 have k1:=r1.length;have k2:=r2.length;refine⟨λA' H' i P hi=> ?_,λA' H' i x H'' P hA hi y=> ?_,λA' H' P=>⟨vs,ws,c1.sqv P,c2.sqv P,ad⟩⟩
 ·obtain⟨x,e1,_⟩:=r1.at (i:=i) ad
  obtain⟨y,e2,_⟩:=r2.at (i:=i) ad
  exact⟨vs,ws,x,y,c1.sqv P,c2.sqv P,e1,e2⟩
 ·obtain⟨x1,e1,q1⟩:=r1.at (i:=i) ad
  obtain⟨y1,e2,q2⟩:=r2.at (i:=i) ad
  obtain⟨T,a,b,rfl,hT,rfl,ha,hb⟩:=y;have ea:=ha vs (c1.sqv P);have eb:=hb ws (c2.sqv P);rw[e1]at ea;cases ea;rw[e2]at eb;cases eb;exact⟨cZ hT _,i3 hA hT<|.cons (q1.mono P)<|.cons (q2.mono P) .nil⟩
theorem bC2 {T:Bool}{l1:Addr}{vs:List V}{l:List D}(c1:SqA K A H T l1 vs)(r1:bI K A H l vs):aM0 K A H (Ite K T l1) l.length (λi=> .tup [.int (i:Int),l.getD i .non]):=by
 have k1:=r1.length;refine⟨λA' H' i P hi=> ?_,λA' H' i x H'' P hA hi y=> ?_,λA' H' P=>⟨vs,c1.sqv P,k1.symm⟩⟩
 ·obtain⟨x,e1,_⟩:=r1.at hi;exact⟨vs,x,c1.sqv P,e1⟩
 ·obtain⟨x1,e1,q1⟩:=r1.at hi;obtain⟨T,a,rfl,hT,rfl,ha⟩:=y;have ea:=ha vs (c1.sqv P);rw[e1]at ea;cases ea;exact⟨cZ hT _,i3 hA hT<|.cons (show Rep _ _ _ _ _ by simp only[Rep])<|.cons (q1.mono P) .nil⟩
def uZip (ta:UA):UI:=λρ Q=>ta ρ λds ρ1=>match ds with
 | [d,e]=>(match oP d,oP e with
  | some l,some m=>Q (min l.length m.length) (λi=> .tup [l.getD i .non,m.getD i .non]) ρ1
  | _,_=>False)
 | _=>False
theorem ui_zip {elts:List Expr}{kt:Nat}{tp p:Pos}{ta:UA}(hg:Gl X "zip")(hm:X.mg "zip"=none)(ha:PUA X [a,b] ta)(hs:starEach [a,b] X.env=[(false,eval a X.env),(false,eval b X.env)]:=by rfl)(hs2:starEach [b] X.env=[(false,eval b X.env)]:=by rfl) :
  PUI X (.Tuple elts kt tp) (.Call (.Name "zip" p) [a,b] [] pos) (uZip ta):=
 yB (pi_zip hg hm ha hs hs2) λσ H R ⟨C,ρ,Q0,I,h,k⟩=>⟨C,ρ,_,I,h,λds ρ1 vs H1 q f s r=>by
  split at q
  ·rename_i d e
   obtain⟨v,vr,rfl,rv,rr⟩:=r.uncons;obtain⟨w,wr,rfl,rw',rr'⟩:=rr.uncons;have:=rr'.unnil;subst this;split at q
   ·rename_i l m e1 e2
    obtain⟨T1,a1,us,rfl,c1,s1⟩:=rv.sq e1;obtain⟨T2,a2,ws,rfl,c2,s2⟩:=rw'.sq e2;exact⟨a1,a2,T1,T2,us,ws,rfl,c1.sqv .self,c2.sqv .self,k _ _ ρ1 _ H1 q f s<|bK5 c1 c2 s1 s2⟩
   ·exact q.elim
  ·exact q.elim⟩
def bK6 (ta:UA):UI:=λρ Q=>ta ρ λds ρ1=>match ds with
 | [d]=>(match oP d with
  | some l=>Q l.length (λi=> .tup [.int (i:Int),l.getD i .non]) ρ1
  | none=>False)
 | _=>False
theorem bV3 {elts:List Expr}{kt:Nat}{tp p:Pos}{ta:UA}(hg:Gl X "enumerate")(hm:X.mg "enumerate"=none)(ha:PUA X [a] ta)(hs:starEach [a] X.env=[(false,eval a X.env)]:=by rfl) :
  PUI X (.Tuple elts kt tp) (.Call (.Name "enumerate" p) [a] [] pos) (bK6 ta):=
 yB (bV0 hg hm ha hs) λσ H R ⟨C,ρ,Q0,I,h,k⟩=>⟨C,ρ,_,I,h,λds ρ1 vs H1 q f s r=>by
  split at q
  ·rename_i d
   obtain⟨v,vr,rfl,rv,rr⟩:=r.uncons;have:=rr.unnil;subst this;split at q
   ·rename_i l e1
    obtain⟨T1,a1,us,rfl,c1,s1⟩:=rv.sq e1;exact⟨a1,T1,us,rfl,c1.sqv .self,k _ _ ρ1 _ H1 q f s<|bC2 c1 s1⟩
   ·exact q.elim
  ·exact q.elim⟩
def bK7 (ta:UA):UI:=λρ Q=>ta ρ λds ρ1=>match ds with
 | [.int j]=>(-(2^31)<=j/\j<2^31)/\Q j.toNat (λk=> .int ((j.toNat:Int)-1-k)) ρ1
 | _=>False
theorem bV4 {tg:Expr}{ta:UA}{p q2 pos2:Pos}(hg:Gl X "reversed")(hm:X.mg "reversed"=none)(hg2:Gl X "range")(hm2:X.mg "range"=none)(ha:PUA X [a] ta)(hs:starEach [a] X.env=[(false,eval a X.env)]:=by rfl)
  (hs2:starEach [.Call (.Name "range" q2) [a] [] pos2] X.env=[(false,eval (.Call (.Name "range" q2) [a] [] pos2) X.env)]:=by rfl) :
  PUI X tg (.Call (.Name "reversed" p) [.Call (.Name "range" q2) [a] [] pos2] [] pos) (bK7 ta):=
 yB (aS1 hg hm hg2 hm2 ha hs hs2) λσ H R ⟨C,ρ,Q0,I,h,k⟩=>⟨C,ρ,_,I,h,λds ρ1 vs H1 q f s r=>by
  split at q
  ·rename_i j
   obtain⟨v,vr,rfl,rv,rr⟩:=r.uncons;have:=rr.unnil;subst this;have:=bF rv;subst this;obtain⟨⟨h1,h2⟩,q⟩:=q;exact⟨j,rfl,h1,h2,k _ _ ρ1 _ H1 q f s aH6⟩
  ·exact q.elim⟩
end
end M
end
section
namespace M
open PySem PySem.Spec PyProof.Rows L2
end M
end
section
namespace L2
open PySem PySem.Spec PyProof.Rows
end L2
end
section
namespace L2
open PySem PySem.Spec PyProof.Rows
theorem bK8:typeLookup (.type "tuple") "__reversed__"=pure none:=by rw[rZ,rJ];kernel_rfl
theorem sub_tuple_dict:isSubtype (.type "tuple") (.type "dict")=pure false:=by rw[kY];kernel_rfl
theorem aH8:Manifest.owners.lookup (String.ofList ['d','e','s','r','e','v','e','r'].reverse)=some Manifest.sig_reversed:=by kernel_rfl
theorem jF:Slot "reversed" "__next__" "reversed.__next__":=
 .of (owner:="reversed") (n:="__next__") (by rw[rZ,rJ];kernel_rfl) af af af
  (by first|exact .inl af|exact .inr af) (by rw[kY];kernel_rfl)
theorem uH:entryFor table "reversed.__next__"=some Builtin.«reversed.__next__» :=entryFor_of_tree (by kernel_rfl)
theorem tP (a:Value):argsOk "reversed.__next__" ⟨[a],[]⟩:=by
 unfold argsOk;rw[signature?_of (id:="reversed.__next__") (n:=['_','_','t','x','e','n','_','_']) (o:=['d','e','s','r','e','v','e','r']) (by kernel_rfl) aH8];kernel_rfl
theorem vO:Slot "reversed" "__iter__" "reversed.__iter__":=
 .of (owner:="reversed") (n:="__iter__") (by rw[rZ,rJ];kernel_rfl) af af af
  (by first|exact .inl af|exact .inr af) (by rw[kY];kernel_rfl)
theorem a31 (a:Value):argsOk "reversed.__iter__" ⟨[a],[]⟩:=by
 unfold argsOk;rw[signature?_of (id:="reversed.__iter__") (n:=['_','_','r','e','t','i','_','_']) (o:=['d','e','s','r','e','v','e','r']) (by kernel_rfl) aH8];kernel_rfl
theorem a76:entryFor table "reversed.__iter__"=some Builtin.«dict_keyiterator.__iter__» :=
 entryFor_alias (id':="dict_keyiterator.__iter__") (by kernel_rfl) (by first|rfl|decide +kernel| (unfold String.splitOn;simp +decide [String.splitOnAux])) af (by kernel_rfl)
theorem aE1:Slot "reversed" "__init__" "object.__init__":=
 .of (owner:="object") (n:="__init__") (by rw[rZ,rJ];kernel_rfl) af af af
  (by first|exact .inl af|exact .inr af) (by rw[kY];kernel_rfl)
theorem b00:TypeCalled "reversed" "reversed.__new__" "object.__init__":=
 ⟨af,af,⟨_,_,PySem.F.mro_reversed⟩,PySem.F.made_reversed,af,by rw[kY];kernel_rfl,aE1⟩
theorem bV5 (l:Addr)(items:Array Value)(hfit:(items.size:Int)<2^63) :
  Meets (Builtin.«reversed.__new__» ⟨[.type "reversed",.ref l],[]⟩) (λ_ R s=>s.heap.IsTuple l items/\R (.ok<|.ret<|.ref s.heap.objs.size) {s with heap:=s.heap.push {cls:= .type "reversed",data:= .fields #[.ref l,rawInt<|(items.size:Int)-1]},toks:=s.toks+1+1}):=
 .of_wp λprog w A R s h=>by
  obtain⟨hp,g,d,tk,os⟩:=s;obtain⟨ht,h⟩:=h;obtain⟨⟨c,dct,dt,sl⟩,hl,hc,n,hd⟩:=id ht
  replace hc:c= .type "tuple":=hc
  replace hd:dt= .seq items n:=hd
  subst hc hd;have f1:=PySem.F.sub_reversed_self;have f2:=bK8;have f4:=PySem.F.slot_tuple_getitem.lookup;have f5:=sub_tuple_dict;have e1:IsTup (Shared.heap ⟨hp,g,d,tk,os⟩) l items:=ht
  wp_walk using wpAny_loadPart' hl,PyProof.Rows.len_tuple e1 hfit
  exact⟨_,rfl,h⟩
def mR (h:Heap)(a l:Addr)(i:Int):Prop:= ∃o,h.get? a=some o/\o.cls= .type "reversed"/\o.data= .fields #[.ref l,rawInt i]
theorem mR.at {h h':Heap}{a l:Addr}{i:Int}(x:mR h a l i)(e: ∀o,h.get? a=some o->h'.get? a=some o):mR h' a l i:=let ⟨o,ho,r⟩:=x;⟨o,e _ ho,r⟩
section
variable {prog:Program}{w:World}{A:Around}{E:Value->Shared->Prop}{s:Shared}
theorem mR.typeIs {a l:Addr}{i:Int}(x:mR s.heap a l i):s.TypeIs (.ref a) "reversed":=let ⟨o,ho,hc,_⟩:=x;⟨o,ho,hc⟩
theorem aS3 {l:Addr}{items:Array Value}{Q:Value->Shared->Prop}(hl:s.heap.IsTuple l items)(hfit:(items.size:Int)<2^63)
  (h:Q (.ref s.heap.objs.size) {s with heap:=s.heap.push {cls:= .type "reversed",data:= .fields #[.ref l,rawInt<|(items.size:Int)-1]},toks:=s.toks+1+1}) :
  wpAny (model prog w) A (call (.type "reversed") [.ref l]) Q E s:=
 callType_new b00 ac (PySem.F.typeCall_reversed_1 _) (PySem.F.newCall_reversed_1 _) (λobj=>PySem.F.args_object_init_2 obj _) PySem.F.entry_reversed_new (bV5 l items hfit) ⟨hl,⟨_,bK _ rfl,rfl⟩,h⟩
theorem xG {it l:Addr}{i:Int}{Q:Value->Shared->Prop}(hit:mR s.heap it l i)(h:Q (.ref it) s):wpAny (model prog w) A (pyIter<|.ref it) Q E s:=by
 refine wpAny_pyIter_slot hit.typeIs vO (fK vO hit.typeIs a76 ?_<|a31 _)
 show wpAny _ _ (ret<|.ref it) _ _ s
 exact aF ⟨_,rfl,"reversed",_,hit.typeIs,jF.lookup,h⟩
theorem bK9 {it l:Addr}{i:Nat}{items:Array Value}{x:Value}{Q:Option Value->Shared->Prop}(hit:mR s.heap it l (i:Int))(hl:s.heap.IsTuple l items)(hx:items[i]? =some x)(hfit:(i:Int)<2^63)
  (hQ: ∀h' tk,mR h' it l ((i:Int)-1)->SameBut it s.heap h'->Q (some x) {s with heap:=h',toks:=tk}):wpAny (model prog w) A (pyNext<|.ref it) Q E s:=by
 obtain⟨o,ho,hc,hd⟩:=id hit;have hlt:i<items.size:=(Array.getElem?_eq_some_iff.mp hx).1;have hi:seqIndex? (i:Int) items.size=some i:=by
  unfold seqIndex?;simp
  lia
 have tl:s.TypeIs (.ref l) "tuple":=hl.typeIs;unfold pyNext;refine a9 (oF (iM (name:=Str.ofString "__next__") hit.typeIs jF
  (fK jF hit.typeIs uH ?_<|tP _)))
 unfold Builtin.«reversed.__next__»;refine a9 (iB (a:=(Value.ref it,[])) rfl ?_);try dsimp only
 refine a9 (cF ho hd (x:= .ref l) rfl ?_)
 refine a9 (cF ho hd (x:=rawInt (i:Int)) rfl ?_)
 show wpAny _ _ (if(i:Int)<0 then _ else _) _ _ s
 rw[a7 ad]
 try dsimp only
 refine a9 (wX tl PySem.F.slot_tuple_getitem.lookup ?_)
 try dsimp only
 rw[a7 ae]
 refine a9 (wpAny_mkInt ?_)
 have ht:IsTup s.heap l items:=hl;refine a9 (oF<|PyProof.Rows.getItem_tuple (s:={s with toks:=s.toks+1}) ht ad hfit hi hx ?_)
 try dsimp only
 refine a9 (cF ho hd (x:=rawInt (i:Int)) rfl ?_)
 show wpAny _ _ (setField (.ref it) 1 (rawInt<|(i:Int)-1) >>= _) _ _ _
 refine a9 (oD ho hd ae ?_)
 refine aF ⟨x,rfl,aF<|hQ _ _ ?_<|o8 ..⟩
 exact⟨_,rG _ ho<|wI<|kT hd _,(Obj.cls_mapFields ..).trans hc,by
  rw[kT hd];simp⟩
theorem bV6 {it l:Addr}{Q:Option Value->Shared->Prop}(hh:A.handled=none)(hit:mR s.heap it l (-1))
  (hQ: ∀h',ExtBut it s.heap h'->Q none {s with heap:=h'}):wpAny (model prog w) A (pyNext<|.ref it) Q E s:=by
 obtain⟨o,ho,hc,hd⟩:=id hit;unfold pyNext;refine a9 (oF (iM (name:=Str.ofString "__next__") hit.typeIs jF
  (fK jF hit.typeIs uH ?_<|tP _)))
 unfold Builtin.«reversed.__next__»;refine a9 (iB (a:=(Value.ref it,[])) rfl ?_);try dsimp only
 refine a9 (cF ho hd (x:= .ref l) rfl ?_)
 refine a9 (cF ho hd (x:=rawInt (-1)) rfl ?_)
 show wpAny _ _ (if(-1:Int)<0 then _ else _) _ _ s
 rw[a8 ac]
 refine a9 (jR ?_)
 refine a9 ?_
 show wpAny _ _ (setField (.ref it) 1 (rawInt<|-1) >>= λ_=>setField (.ref it) 0 .none) _ _ s
 refine a9 (oD ho hd ae ?_)
 refine oD (rG _ ho<|wI<|kT hd _) (kT hd _) ae ?_
 first
 | show wpAny _ _ (newExc (.type "StopIteration") [] >>= _) _ _ _
 | (refine a9 ?_;show wpAny _ _ (newExc (.type "StopIteration") [] >>= _) _ _ _)
 refine a9 ?_
 simp only[newExc,newTuple];refine a9 (i8 ?_<|by size_fits)
 refine a9 (m:=firstArgMember _ _) (iB (a:=Value.none) (by first|rfl| (simp only[firstArgMember];rfl)) ?_)
 refine i8 ?_ (by size_fits)
 simp only[raiseNew];refine a9 (wpAny_handled ?_)
 first|rw[show A.in1.handled=none from hh]|rw[hh]
 refine a9 (aF<|wpAny_throw ?_)
 refine a9 (wR (T:="StopIteration") (b:=true) ⟨_,bK _ rfl,rfl⟩ isSubtype_stop ?_)
 refine aF (hQ _ ?_)
 exact((((o8 ..).trans<|o8 ..).extBut.push _).push _)
end
noncomputable def Itv (K:Frag)(l:Addr)(n:Nat):It where
 go:=λi H=>i<n/\ ∃xs,SqT K H l xs/\xs.length=n
 yld:=λi H v H'=>H'=H/\ ∀xs,SqT K H l xs->xs[n-1-i]? =some v
 stop:=λi H=>i=n
theorem aS4 {P:Program}{w:World}{K:Frag}{tg:Expr}{it l:Addr}(n:Nat)(hz:n<=sizeLine):aL2 P w K tg (Itv K l n) [it] it (λi h=>mR h it l ((n:Int)-1-(i:Int))) where
 mem:=ae
 obj:=λi h st b hb=>by
  have e:b=it:=by simpa using hb
  subst e;obtain⟨o,ho,_,hd⟩:=st;exact⟨o,ho,λv z=>by rw[hd]at z;cases z⟩
 keep:=λi h h' st k=>st.at λo e=>k it ae _ e
 item:=by
  intro X hP hw hK hc i pins s σ H E I hf st hg;subst hP hw hK;obtain⟨f0,f1,f2,f3,f4,f5⟩:=hf it ae
  obtain⟨hi,xs,hq,hl⟩:=hg;obtain⟨its,r,p,_⟩:=I.tuple hq;have hlen:=r.length;have hx:xs[n-1-i]? =some (xs[n-1-i]'ad):=bJ ad
  obtain⟨u1,hu1,ru1⟩:=r.get hx;have e1:(n:Int)-1-(i:Int)=((n-1-i:Nat):Int):=ad
  have st':=st;rw[e1]at st';have big:(sizeLine:Int)<2^63:=ac
  refine bK9 (items:=its.toArray) (x:=u1) st' p (by simpa using hu1) ad λh' tk hr m=> ?_
  have I1:Inv X pins σ H {s with heap:=h',toks:=tk}:=I.turned (λb o hb e=>m.extBut _ _ (by simpa using hb) e) f0 f1 f3 f4 f5
  have e2:((n-1-i:Nat):Int)-1=(n:Int)-1-((i+1:Nat):Int):=ad
  rw[e2]at hr;obtain⟨o,ho,hoc,hod⟩:=id hr;exact⟨_,rfl,aF8 (s:={s with heap:=h',toks:=tk}) (n:="reversed") ho hoc hod ac ⟨xs[n-1-i]'ad,H,I1,ru1,⟨rfl,λys hy=>by rw[I.tuple_inj hy hq];exact hx⟩,hr,λb hb=>(hf b hb).1⟩⟩
 done:=by
  intro X hP hw hK hc i pins s σ H E I hf st hg;subst hP hw hK;obtain⟨f0,f1,f2,f3,f4,f5⟩:=hf it ae
  have hg':i=n:=hg;have st':=st;rw[hg',show(n:Int)-1-(n:Int)= -1 by lia]at st'
  exact bV6 (I.ok.hd hc) st' λh' eb=>⟨rfl,I.turned (t':=s.toks) (λb o hb e=>eb b o hb e) f0 f1 f3 f4 f5⟩
 self:=λ_ _ _ _ _ st h=>xG st h
section
variable {X:Cx}{tg:Expr}
def iRevT (K:Frag)(ta:TA):TI:=λσ H R=>ta σ H λvs H1=> ∃l xs,vs=[.ref l]/\SqT K H1 l xs/\R (Itv K l xs.length) H1
theorem bV7 {a:Expr}{ta:TA}{p pos:Pos}(hg:Gl X "reversed")(hm:X.mg "reversed"=none)(ha:PA X [a] ta)(hs:starEach [a] X.env=[(false,eval a X.env)]:=by rfl) :
  PI X tg (.Call (.Name "reversed" p) [a] [] pos) (iRevT X.K ta):=by
 intro pins s σ H R I h;refine Call_ (oN I hg hm w4<|gL (thn (ha pos pins s σ H _ I h) λus s1 ⟨vs,H1,I1,r1,q1⟩=> ?_) hs rfl)
 obtain⟨l,xs,e,q1,q⟩:=q1;subst e;obtain⟨u,rfl,r⟩:=vals1 r1;cases r;obtain⟨its,rv,p1,hz⟩:=I1.tuple q1;have hl:=rv.length;have big:(sizeLine:Int)<2^63:=ac
 refine aS3 p1 (by rw[aU];lia) ?_
 have hi:mR (s1.heap.push {cls:= .type "reversed",data:= .fields #[.ref l,rawInt<|(its.toArray.size:Int)-1]}) s1.heap.objs.size l ((xs.length:Int)-1-((0:Nat):Int)):=⟨_,bK _ rfl,rfl,by
  rw[aU,hl];simp⟩
 refine xG (s:={s1 with heap:=s1.heap.push {cls:= .type "reversed",data:= .fields #[.ref l,rawInt<|(its.toArray.size:Int)-1]},toks:=s1.toks+1+1}) hi ?_
 refine⟨_,[s1.heap.objs.size],_,_,H1,rfl,I1.kept (t':=s1.toks+1+1) λb o e=>aO _ e,aS4 xs.length hz,hi,λb hb=> ?_,q⟩
 have e:b=s1.heap.objs.size:=by simpa using hb
 subst e;exact I1.fpOk (aC _) (I1.hok.fresh<|aC _)
end
end L2
namespace M
open PySem PySem.Spec PyProof.Rows L2
section
variable {X:Cx}{A:AS}{H:Hp}{K:Frag}{pos:Pos}{a:Expr}
theorem aH9 {l1:Addr}{vs:List V}{l:List D}(c1:SqA K A H true l1 vs)(r1:bI K A H l vs):aM0 K A H (Itv K l1 vs.length) l.length (λi=>l.getD (l.length-1-i) .non):=by
 have k1:=r1.length;refine⟨λA' H' i P hi=>⟨aa,vs,c1.sqv P,rfl⟩,λA' H' i x H'' P hA hi y=> ?_,λA' H' P=>k1⟩
 obtain⟨x1,e1,q1⟩:=r1.at (i:=l.length-1-i) aa
 obtain⟨e,ha⟩:=y;subst e;have ea:=ha vs (c1.sqv P);rw[<-k1,e1]at ea;cases ea;exact⟨.refl _,q1.mono P⟩
def bL0 (ta:UA):UI:=λρ Q=>ta ρ λds ρ1=>match ds with
 | [.tup l]=>Q l.length (λi=>l.getD (l.length-1-i) .non) ρ1
 | _=>False
theorem bV8 {tg:Expr}{p:Pos}{ta:UA}(hg:Gl X "reversed")(hm:X.mg "reversed"=none)(ha:PUA X [a] ta)(hs:starEach [a] X.env=[(false,eval a X.env)]:=by rfl) :
  PUI X tg (.Call (.Name "reversed" p) [a] [] pos) (bL0 ta):=
 yB (bV7 hg hm ha hs) λσ H R ⟨C,ρ,Q0,I,h,k⟩=>⟨C,ρ,_,I,h,λds ρ1 vs H1 q f s r=>by
  split at q
  ·rename_i l
   obtain⟨v,vr,rfl,rv,rr⟩:=r.uncons;have:=rr.unnil;subst this;simp only[Rep]at rv;obtain⟨a1,us,rfl,c1,s1⟩:=rv;have c2:SqA _ _ _ true a1 us:=c1;exact⟨a1,us,rfl,c2.sqv .self,k _ _ ρ1 _ H1 q f s<|aH9 c2 s1⟩
  ·exact q.elim⟩
end
end M
end
section
namespace M
open PySem PySem.Spec PyProof.Rows L2
section
variable {X:Cx}
theorem a77 {K:Frag}{A:AS}{H:Hp}: ∀r:List Int,bI K A H (r.map D.int) (r.map V.int)
 | []=> .nil
 | a::r=> .cons (by simp only[Rep]) (a77 r)
theorem bV9 {x:Str}{a:Addr}{r:List Int}{p:Pos}(hg:Gl X x)(hm:X.mg x=some (.ref a))(hk:KT X.K a (r.map V.int))(hd:(x==("__debug__":Str))=false:=by decide):PU X (.Name x p) (uC<|.tup<|r.map .int):=
 b49 (b39 (v:= .ref a) hg hm rfl hd) λA H=>by
  simp only[Rep];exact⟨a,r.map V.int,rfl,.inr hk,a77 r⟩
theorem kt_of {K:Frag}{a:Addr}{od:Option Addr}{its:Array Value}{n:Nat}{sl:Array (Option Value)}{vs:List V}(hl:K.lookup a=some ⟨.type "tuple",od,.seq its n,sl⟩)(hz:its.size<=sizeLine)(hv:Vals vs its.toList):KT K a vs:=
 ⟨_,its,n,hl,rfl,rfl,hz,hv⟩
end
end M
end
section
namespace L2
open PySem PySem.Spec PyProof.Rows
section
variable {X:Cx}
theorem b01 (hc:X.calm=true):m9 X (.builtin "any") (λxs H Q=> ∃(p:Addr) (bs:List Bool),xs=[.ref p]/\SqL X.K H p (bs.map V.bl)/\Q (.bl<|bs.any id) H):=by
 intro pins s σ H xs us Q I r h;obtain⟨p,bs,rfl,hq,q⟩:=h;obtain⟨u,rfl,rx⟩:=vals1 r;cases rx;obtain⟨its,rv,pl,hz⟩:=I.list hq;have ba:=b58 rv;refine call_any_walk (o9 pl.isList ?_);have hne:p≠s.heap.objs.size:=by
  obtain⟨o,n,e,_⟩:=pl;exact aW (aM e)
 refine⟨s.heap.objs.size,_,_,_,_,_,λi=>(bs[i]?).getD false,rfl,Walks.list (A:=X.A.in1) (I.ok.hd hc) s.heap.objs.size p (λz=>hne z) its.toArray,⟨⟨_,bK _ rfl,rfl,rfl⟩,pl.isList.push _⟩,?_,λh' tk hk=> ?_⟩
 ·intro i v s' Q' E' hP hQ;obtain⟨b,hb,rfl⟩:=ba.get i v (by simpa using hP)
  refine jN ?_
  dsimp only at hQ;rw[hb]at hQ;exact hQ
 ·have e:=LSm.range_any bs;have hl:=ba.length;have e2:its.toArray.size=bs.length:=by rw[aU,hl]
  rw[e2,e];exact⟨.bl<|bs.any id,H,I.kept λb o e=>hk b o (by simpa using aW (aM e)) (aO _ e),rfl,q⟩
end
end L2
namespace M
open PySem PySem.Spec PyProof.Rows L2
section
variable {X:Cx}
noncomputable def gAny:List D->(B->Prop)->Prop:=g1 λd Q=>match d with
 | .lst l=>(match pX l with
  | some bs=>Q (.pu<|.bl<|bs.any id)
  | none=>False)
 | _=>False
theorem cu_any (hc:X.calm=true):qO X (.builtin "any") gAny:=by
 intro A H ds vs Q0 Q hA r g k;obtain⟨d,v,rfl,rfl,rv,g⟩:=uA g r;cases d with
 | lst l=>
  dsimp only at g;cases e:pX l with
  | none=>rw[e]at g;exact g.elim
  | some bs=>
   rw[e]at g;simp only[Rep]at rv;obtain⟨a,vs,rfl,n,c,rs⟩:=rv;rw[xE e rs]at c;exact⟨_,b01 hc,a,bs,rfl,SqL.of c,k _ _ H g (.refl _) jA⟩
 | _=>exact(show False from g).elim
theorem bt_any:bootBuiltins "any"=some (.builtin "any"):=af
end
end M
end
section
namespace L2
open PySem PySem.Spec PyProof.Rows
end L2
namespace M
open PySem PySem.Spec PyProof.Rows L2
section
variable {X:Cx}{a:Expr}{pos:Pos}{ta:UE}
noncomputable def D.isN:D->Bool
 | .non=>true
 | _=>false
theorem b60 {K:Frag}{A:AS}{H:Hp}: ∀{d:D} {v:V},Rep K A H d v->decide (v= .non)=d.isN
 | .non,v,h=>by simp only[Rep]at h;subst h;rfl
 | .bl _,v,h=>by simp only[Rep]at h;subst h;rfl
 | .int _,v,h=>by simp only[Rep]at h;subst h;rfl
 | .str _,v,h=>by simp only[Rep]at h;subst h;rfl
 | .ty _,v,h=>by simp only[Rep]at h;subst h;rfl
 | .tup _,v,h=>by simp only[Rep]at h;obtain⟨a,vs,rfl,_⟩:=h;rfl
 | .lst _,v,h=>by simp only[Rep]at h;obtain⟨a,vs,rfl,_⟩:=h;rfl
 | .rol _,v,h=>by simp only[Rep]at h;obtain⟨a,vs,rfl,_⟩:=h;rfl
 | .obj _ _ _,v,h=>by simp only[Rep]at h;obtain⟨a,dx,vs,rfl,_⟩:=h;rfl
 | .adr _,v,h=>by simp only[Rep]at h;subst h;rfl
 | .xob _ _ _ _,v,h=>by simp only[Rep]at h;obtain⟨vs,rfl,_⟩:=h;rfl
def aS5 (neg:Bool)(t:UE):UE:=λρ Q=>t ρ λb ρ1=>Q (.pu<|.bl<|neg ^^ b.d.isN) ρ1
theorem lIsN (σ:L2.St)(H:Hp)(Q:VK)(h:lE X.K (aS5 false ta) σ H Q):tIsN (lE X.K ta) σ H Q:=by
 obtain⟨C,ρ,Q0,I,h,k⟩:=h;refine⟨C,ρ,_,I,h,λb ρ' v H' q f s r=> ?_⟩
 have e:=b60 (r.rep λa z=>I.avF f z)
 refine k _ ρ' _ H' q f s ?_
 show Rep _ _ _ _ _
 simp only[Rep,gP];rw[e]
theorem lNotN (σ:L2.St)(H:Hp)(Q:VK)(h:lE X.K (aS5 true ta) σ H Q):bZ2 (lE X.K ta) σ H Q:=by
 obtain⟨C,ρ,Q0,I,h,k⟩:=h;refine⟨C,ρ,_,I,h,λb ρ' v H' q f s r=> ?_⟩
 have e:=b60 (r.rep λa z=>I.avF f z)
 refine k _ ρ' _ H' q f s ?_
 show Rep _ _ _ _ _
 simp only[Rep,iA];rw[e]
theorem bW0 {j pos'}(ha:PU X a ta):PUT X (.Compare a [.Is] [.Constant .none j pos'] pos) (cS<|aS5 false ta):=aG6 (aX8<|pc_isN ha) λσ H Q h=>lIsN σ H _ (bH3 σ H Q h)
theorem aS6 {j pos'}(ha:PU X a ta):PUT X (.Compare a [.IsNot] [.Constant .none j pos'] pos) (cS<|aS5 true ta):=aG6 (aX8<|bR8 ha) λσ H Q h=>lNotN σ H _ (bH3 σ H Q h)
end
end M
end
section
namespace M
open PySem PySem.Spec PyProof.Rows L2
noncomputable def ltL:List Int->List Int->Bool
 | [],[]=>false
 | [],_::_=>true
 | _::_,[]=>false
 | a::x,b::y=>if a=b then ltL x y else decide (a<b)
section
variable {prog:Program}{w:World}{A:Around}{E:Value->Shared->Prop}{s:Shared}
theorem bL1 {a:Addr}{u v:Value}{n:Nat}{lt:Bool}{P:PySem.Fin->Shared->Prop}(ho:s.heap.get? a=some (seqObj "list" [u,v].toArray n))
  (hy: ∀h':Heap,(∀b o,b≠a->s.heap.get? b=some o->h'.get? b=some o)-> ∃κ:SortKind,
   (∀Q:SortKind->Shared->Prop,Q κ {s with heap:=h'}->wpAny (model prog w) A (keyKind' [u,v].toArray) Q (λ_ _=>False) {s with heap:=h'})/\
   (∀Q:Bool->Shared->Prop,Q lt {s with heap:=h'}->wpAny (model prog w) A (keyLt' κ v u) Q (λ_ _=>False) {s with heap:=h'}))
  (fi:P (.done<|.ret .none) {s with heap:=sortedHeap s.heap a [u,v] (if lt=true then [v,u].toArray else [u,v].toArray)}) :
  wpAny (model prog w) A (Builtin.«list.sort» ⟨[.ref a],[]⟩) P E s:=by
 rw[list_sort_plain];have la:a<s.heap.objs.size:=aM ho;refine a9 (listItems_at ho rfl ?_);refine a9 (oG ho rfl ?_ (show 2<=sizeLine by decide) (cO _))
 obtain⟨c1,h1⟩: ∃c1,(s.heap.update a<|Obj.mapSeq λ_=> #[]).get? a=some (seqObj "list" #[] c1):=⟨_,get?_update_seq ho λ_=> #[]⟩
 refine a9 (oJ h1 rfl ?_)
 refine a9 (wpAny_newTuple ?_<|show 2<=sizeLine by decide)
 refine a9 (sE ?_<|cO _)
 refine e9 ?_
 have h6:(((s.heap.update a<|Obj.mapSeq λ_=> #[]).push<|seqObj "tuple" [u,v].toArray 0).push<|seqObj "list" #[] 0).get? a=some (seqObj "list" #[] c1):=by
  rw[fI _ _ _ (by rw[lF,gO];exact aW (fT la))]
  rw[fI _ _ _ (by rw[gO];exact aW la)]
  exact h1
 have kp: ∀b o,b≠a->s.heap.get? b=some o->(((s.heap.update a<|Obj.mapSeq λ_=> #[]).push<|seqObj "tuple" [u,v].toArray 0).push<|seqObj "list" #[] 0).get? b=some o:=λb o ne q=>by
  have lb:b<s.heap.objs.size:=aM q;rw[fI _ _ _ (by rw[lF,gO];exact aW (fT lb))]
  rw[fI _ _ _ (by rw[gO];exact aW lb),rL _ _ _ _ ne]
  exact q
 obtain⟨κ,y1,y2⟩:=hy _ kp;show wpAny (model prog w) A _ P E {s with heap:=((s.heap.update a<|Obj.mapSeq λ_=> #[]).push<|seqObj "tuple" [u,v].toArray 0).push (seqObj "list" #[] 0)}
 dsimp only;have n2: ¬[u,v].toArray.size<2:=show ¬2<2 by decide
 rw[a7 n2,a7 n2];refine a9 (bR (y1 (λk s'=>k=κ/\s'={s with heap:=((s.heap.update a<|Obj.mapSeq λ_=> #[]).push<|seqObj "tuple" [u,v].toArray 0).push (seqObj "list" #[] 0)}) ⟨rfl,rfl⟩) ?_ λ_ _ z=>z.elim)
 rintro k s' ⟨rfl,rfl⟩;refine a9 (bR (PySem.W.kat_run (ks:=[u,v]) (vs:=[u,v]) (Q:=λst' s'=>s'={s with heap:=((s.heap.update a<|Obj.mapSeq λ_=> #[]).push<|seqObj "tuple" [u,v].toArray 0).push (seqObj "list" #[] 0)}/\failedOf st'=none/\(arrOf st').map (·.2)=(if lt=true then [v,u].toArray else [u,v].toArray))
  (G:=λp s'=>s'={s with heap:=((s.heap.update a<|Obj.mapSeq λ_=> #[]).push<|seqObj "tuple" [u,v].toArray 0).push (seqObj "list" #[] 0)}/\p=(if lt=true then #[1,0]else #[0,1]))
  rfl (show 2<=2 by decide) (show 2<64 by decide) (λp st' s' _ e2 e3 ⟨e4,e5⟩=>⟨e4,e3,?_⟩) ?_) ?_ λ_ _ z=>z)
 ·rw[PySem.W.kat_snds rfl e2,e5];cases lt<;>rfl
 ·show wpAny (model prog w) A (keyLt' k v u) _ (λ_ _=>False) _
  refine y2 _ ?_
  cases lt
  ·exact⟨rfl,rfl⟩
  ·refine⟨rfl,?_⟩
   rw[a8 rfl];dsimp only[List.length_cons,List.length_nil]
   decide +kernel
 ·rintro⟨⟨⟩,st'⟩ s' ⟨rfl,e3,e4⟩;dsimp only;rw[e4];refine a9 (oJ h6 rfl ?_);refine a9 (oG h6 rfl ?_ (cO _) (by cases lt<;>exact(show 2<=sizeLine+1 by decide)))
  rw[e3];simp only[wP,i6,dR];exact aF fi
theorem b02 {l:Addr}{u v:Value}{lt:Bool}{Q:Value->Shared->Prop}(hl:s.heap.IsList l [u,v].toArray)
  (hy: ∀(h':Heap) (A:Around),(∀b o,s.heap.get? b=some o->h'.get? b=some o)-> ∃κ:SortKind,
   (∀Q:SortKind->Shared->Prop,Q κ {s with heap:=h'}->wpAny (model prog w) A (keyKind' [u,v].toArray) Q (λ_ _=>False) {s with heap:=h'})/\
   (∀Q:Bool->Shared->Prop,Q lt {s with heap:=h'}->wpAny (model prog w) A (keyLt' κ v u) Q (λ_ _=>False) {s with heap:=h'}))
  (fi:Q (.ref<|s.heap.objs.size+1) {s with heap:=sortedAll s.heap [u,v] (if lt=true then [v,u].toArray else [u,v].toArray)}) :
  wpAny (model prog w) A (call (.builtin "sorted") [.ref l]) Q E s:=by
 refine Calls.call_function_entry kind_sorted plain_sorted entry_sorted (args_sorted1 _) ?_
 unfold Builtin.«sorted»;refine a9 (m:=checkCount "sorted" 1 1 _) (aF ?_);refine a9 (collect_list hl ?_<|show 2<=sizeLine by decide)
 refine a9 (sE ?_<|show 2<=sizeLine by decide)
 have hz:((s.heap.push<|seqObj "list" #[] 0).update s.heap.objs.size (Obj.mapSeq (· ++[u,v].toArray))).objs.size=s.heap.objs.size+1:=by rw[gO,lF]
 have hL:(((s.heap.push<|seqObj "list" #[] 0).update s.heap.objs.size (Obj.mapSeq (· ++[u,v].toArray))).push<|seqObj "list" [u,v].toArray 0).get? (s.heap.objs.size+1)=some (seqObj "list" [u,v].toArray 0):=by
  rw[<-hz];exact bK _ rfl
 have kp: ∀b o,s.heap.get? b=some o->(((s.heap.push<|seqObj "list" #[] 0).update s.heap.objs.size (Obj.mapSeq (· ++[u,v].toArray))).push<|seqObj "list" [u,v].toArray 0).get? b=some o:=λb o q=>by
  have lb:b<s.heap.objs.size:=aM q;rw[fI _ _ _ (by rw[hz];exact aW (fT lb))]
  rw[rL _ _ _ _<|aW lb,fI _ _ _<|aW lb];exact q
 show wpAny _ _ _ _ _ {s with heap:=((s.heap.push<|seqObj "list" #[] 0).update s.heap.objs.size (Obj.mapSeq (· ++[u,v].toArray))).push (seqObj "list" [u,v].toArray 0)}
 rw[hz];refine a9 (e9<|fK slot_list_sort ⟨_,hL,rfl⟩ entry_list_sort (bL1 (lt:=lt) hL (λh' k=> ?_) ⟨_,rfl,?_⟩)<|args_list_sort _)
 ·exact hy h' _ λb o q=>k b o (aW<|fT<|aM q) (kp b o q)
 ·exact aF ⟨_,rfl,fi⟩
theorem aS7 {Q:Bool->Shared->Prop}{fin:Bool}: ∀(us ws:List Int) (x y:List Value) (i:Nat),Vals (us.map V.int) x->Vals (ws.map V.int) y->fin=decide (us.length<ws.length)->Q (ltL us ws) s->PySem.W.KatLex prog w A true fin Q (x.zip y) i s
 | [],[],x,y,i,hx,hy,hf,q=>by
  cases hx;cases hy;rw[hf];exact q
 | [],b::ws,x,y,i,hx,hy,hf,q=>by
  cases hx;rw[hf];exact q
 | a::us,[],x,y,i,hx,hy,hf,q=>by
  cases hx;cases hy;rw[hf];exact q
 | a::us,b::ws,x,y,i,hx,hy,hf,q=>by
  rw[cD]at hx hy;cases hx with
  | cons r1 hx=>
   cases hy with
   | cons r2 hy=>
    obtain⟨t1,rfl⟩:=r1;obtain⟨t2,rfl⟩:=r2;rw[wN];refine PySem.W.kat_cons (wpAny_eqBool_int ?_)
    by_cases c:a=b
    ·subst c;rw[beq_self_eq_true];refine PySem.W.kat_yes (aS7 us ws _ _ (i+1) hx hy (by rw[hf];simp) ?_)
     unfold ltL at q;rw[a8 rfl]at q;exact q
    ·rw[show(a==b)=false by simpa using c]
     refine PySem.W.kat_no ?_
     unfold ltL at q;rw[a7 c]at q;cases e:(true&&i==0)
     ·exact PySem.W.kat_one _ _ (lt_int q)
     ·exact oneLt_int q
end
section
variable {X:Cx}
theorem b03:m9 X (.builtin "sorted") (λxs H Q=> ∃(p a1 a2:Addr) (i j:Int) (us ws:List Int),xs=[.ref p]/\SqL X.K H p [.ref a1,.ref a2]/\SqT X.K H a1 ((i::us).map V.int)/\SqT X.K H a2 ((j::ws).map V.int)/\
  ∀l,H l=none->Q (.ref l) (upd H l<|.lst<|if ltL (j::ws) (i::us)=true then [.ref a2,.ref a1]else [.ref a1,.ref a2])):=by
 intro pins s σ H xs us' Q I r h;obtain⟨p,a1,a2,i,j,us,ws,rfl,hq,t1,t2,q⟩:=h;obtain⟨u,rfl,rx⟩:=vals1 r;cases rx;obtain⟨its,rv,pl,hz⟩:=I.list hq;obtain⟨x1,r1,k1,z1⟩:=I.tuple t1;obtain⟨x2,r2,k2,z2⟩:=I.tuple t2;cases rv with
 | cons g1 rv=>
 cases rv with
 | cons g2 rv=>
 cases rv;cases g1;cases g2;refine b02 (lt:=ltL (j::ws) (i::us)) pl.isList (λh' A kp=> ?_) ?_
 ·obtain⟨o1,ho1,hc1,n1,hd1⟩:=k1;obtain⟨o2,ho2,hc2,n2,hd2⟩:=k2;rw[cD]at r1 r2;cases r1 with
  | cons f1 r1=>
  cases r2 with
  | cons f2 r2=>
  have v1:Vals ((i::us).map V.int) _:= .cons f1 r1;have v2:Vals ((j::ws).map V.int) _:= .cons f2 r2;obtain⟨t1,rfl⟩:=f1;obtain⟨t2,rfl⟩:=f2;refine⟨tuples'<|Value.type "int" != Value.type "tuple",λQ' q'=> ?_,λQ' q'=> ?_⟩
  ·refine PySem.W.kat_kind (fs:=[.int i t1,.int j t2]) (T:= .type "int") (.cons (kp _ _ ho1) hc1 hd1 rfl (.cons (kp _ _ ho2) hc2 hd2 rfl .nil)) (cM _) (λv hv=> ?_) ac q'
   rcases aR.mp hv with rfl|hv
   ·exact .now
   ·rw[d7.mp hv];exact .now
  ·have e:(Value.type "int" != Value.type "tuple")=true:=ac
   rw[e];refine PySem.W.kat_lt (kp _ _ ho2) hd2 (kp _ _ ho1) hd1 (aS7 _ _ _ _ 0 (by simpa using v2) (by simpa using v1) ?_ q')
   have l1:=v1.length;have l2:=v2.length;simp only[aI]at l1 l2;simp only[aU];rw[<-l1,<-l2]
 ·refine⟨.ref<|s.heap.objs.size+1,_,?_,rfl,q (s.heap.objs.size+1)<|I.hok.fresh<|sM _⟩
  obtain⟨c,hc⟩:=sortedAll_at s.heap [Value.ref a1,Value.ref a2] (if ltL (j::ws) (i::us)=true then [Value.ref a2,Value.ref a1].toArray else [Value.ref a1,Value.ref a2].toArray);refine I.laid (t':=s.toks) (λb o e=>sortedAll_old e) (sM _) ?_
  by_cases e:ltL (j::ws) (i::us)=true
  ·rw[a8 e]at hc⊢;exact⟨show 2<=sizeLine by decide,[.ref a2,.ref a1],c,.cons rfl (.cons rfl .nil),by rw[a8 e];exact hc⟩
  ·rw[a7 e]at hc⊢;exact⟨show 2<=sizeLine by decide,[.ref a1,.ref a2],c,.cons rfl (.cons rfl .nil),by rw[a7 e];exact hc⟩
noncomputable def b04:List D->(B->Prop)->Prop:=g1 λd Q=> ∃(i j:Int) (us ws:List Int),d= .lst [.tup<|(i::us).map D.int,.tup<|(j::ws).map D.int]/\
 Q (.ow<|if ltL (j::ws) (i::us)=true then [.tup<|(j::ws).map D.int,.tup<|(i::us).map D.int]else [.tup<|(i::us).map D.int,.tup<|(j::ws).map D.int])
theorem bL2:qO X (.builtin "sorted") b04:=by
 intro A H ds vs Q0 Q hA r g k;obtain⟨d,v,rfl,rfl,rv,i,j,us,ws,rfl,g'⟩:=uA g r;simp only[Rep]at rv;obtain⟨p,xs,rfl,np,hp,rl⟩:=rv;obtain⟨y1,yr,rfl,s1,rl⟩:=rl.uncons;obtain⟨y2,yr,rfl,s2,rl⟩:=rl.uncons;have:=rl.unnil;subst this;have s1':=s1;have s2':=s2;simp only[Rep]at s1 s2;obtain⟨a1,w1,rfl,c1,q1⟩:=s1;obtain⟨a2,w2,rfl,c2,q2⟩:=s2;have e1:=bI.unints q1;have e2:=bI.unints q2;subst e1 e2
 refine⟨_,b03,p,a1,a2,i,j,us,ws,rfl,.inl<|.inl hp,c1.imp bY id,c2.imp bY id,λl hl=>k _ _ _ g' (cZ hl _) ?_⟩
 cases ltL (j::ws) (i::us)
 ·exact eM (.refl _) hl (.cons s1'<|.cons s2' .nil)
 ·exact eM (.refl _) hl (.cons s2'<|.cons s1' .nil)
end
section
variable {X:Cx}
theorem aI0: ∀r:List Int,pdL (r.map D.int)=some (r.map PyData.int)
 | []=>by simp[pdL]
 | a::r=>by simp[pdL,pd,aI0 r]
theorem a51 (r:List Int):pd (.tup<|r.map D.int)=some (.tuple<|r.map .int):=by simp[pd,aI0]
theorem aI1: ∀r:List Int,PyData.depthAll (r.map PyData.int)=0
 | []=>by simp[PyData.depthAll]
 | a::r=>by simp[PyData.depthAll,PyData.depth,aI1 r]
end
end M
end
section
namespace L2
open PySem PySem.Spec PyProof.Rows
section
variable {X:Cx}{a:Expr}{ta:TE}
def tIsB (n c:Bool)(ta:TE):TE:=λσ H Q=>ta σ H λx H1=> ∃k,x= .bl k/\Q (.bl<|n ^^ (k==c)) H1
theorem pc_isB {c j pos'}(ha:PE X a ta):PC X .Is a (.Constant (.bool c) j pos') (tIsB false c ta):=by
 intro pins s σ H Q I h;refine thn (ha pins s σ H _ I h) λv s1 ⟨x,H1,I1,r1,k,e,q1⟩=> ?_
 subst e;cases r1;exact Constant_bool (is_bool ⟨.bl _,H1,I1,by rw[gP];rfl,q1⟩)
theorem bW1 {c j pos'}(ha:PE X a ta):PC X .IsNot a (.Constant (.bool c) j pos') (tIsB true c ta):=by
 intro pins s σ H Q I h;refine thn (ha pins s σ H _ I h) λv s1 ⟨x,H1,I1,r1,k,e,q1⟩=> ?_
 subst e;cases r1;exact Constant_bool (isnot_bool ⟨.bl _,H1,I1,by rw[iA];rfl,q1⟩)
end
end L2
namespace M
open PySem PySem.Spec PyProof.Rows L2
section
variable {X:Cx}{a:Expr}{pos:Pos}{ta:UE}
def a78 (n c:Bool)(t:UE):UE:=λρ Q=>t ρ λb ρ1=>match b.d with
 | .bl k=>Q (.pu<|.bl<|n ^^ (k==c)) ρ1
 | _=>False
theorem lIsB {n c:Bool}(σ:L2.St)(H:Hp)(Q:VK)(h:lE X.K (a78 n c ta) σ H Q):tIsB n c (lE X.K ta) σ H Q:=by
 obtain⟨C,ρ,Q0,I,h,k⟩:=h;refine⟨C,ρ,_,I,h,λb ρ' v H' q f s r=> ?_⟩
 have e:=r.rep λa z=>I.avF f z
 cases hd:b.d with
 | bl i=>
  rw[hd]at q e;simp only[Rep]at e;refine⟨i,e,k _ ρ' _ H' q f s ?_⟩;show Rep _ _ _ _ _;simp only[Rep]
 | _=>rw[hd]at q;exact(show False from q).elim
theorem bL3 {c j pos'}(ha:PU X a ta):PU X (.Compare a [.Is] [.Constant (.bool c) j pos'] pos) (a78 false c ta):=hZ (pe_cmp<|pc_isB ha) lIsB
theorem uI {c j pos'}(ha:PU X a ta):PUT X (.Compare a [.IsNot] [.Constant (.bool c) j pos'] pos) (cS<|a78 true c ta):=aG6 (aX8<|bW1 ha) λσ H Q h=>lIsB σ H _ (bH3 σ H Q h)
end
end M
end
section
namespace L2
open PySem PySem.Spec PyProof.Rows
end L2
namespace M
open PySem PySem.Spec PyProof.Rows L2
end M
end
section
namespace L2
open PySem PySem.Spec PyProof.Rows
section
variable {X:Cx}{e e3:Expr}{te:TE}{t3:TO}{pos p2:Pos}
theorem aE2 (its:List Value):slicePick its.toArray none none (some<|-1)=its.reverse.toArray:=by
 unfold slicePick
 congr 1
 have hb:sliceBounds none none (some<|-1) its.toArray.size=((its.length:Int)-1,-1,-1):=by
  simp[sliceBounds]
 rw[hb];have hr:sliceRange ((its.length:Int)-1) (-1) (-1)=(List.range its.length).map λk=>its.length-1-k:=by
  unfold sliceRange;simp only[show ¬((-1:Int)>0)by decide,dR]
  by_cases c:(its.length:Int)-1> -1
  ·rw[a8 c,show -(-1:Int)=1 by decide,Int.ediv_one,show((its.length:Int)-1- -1- -1-1).toNat=its.length by omega]
   apply kR
   intro k hk;have:=cC.mp hk;omega
  ·rw[a7 c,show its.length=0 by omega]
   rfl
 dsimp only;rw[hr,List.filterMap_map];apply rP;intro i
 by_cases c:i<its.length
 ·rw[List.getElem?_reverse c];have e:(List.range its.length).filterMap ((λx=>its.toArray[x]?)∘λk=>its.length-1-k)=(List.range its.length).map λk=>its.getD (its.length-1-k) .none:=by
   rw[<-List.filterMap_eq_map];have fc: ∀(l:List Nat) (f g:Nat->Option Value),(∀m∈l,f m=g m)->l.filterMap f=l.filterMap g:=by
    intro l f g h
    induction l with
    | nil=>rfl
    | cons a l ih=>rw[o7,o7,h a<|aP ..,ih λm hm=>h m (b6 _ hm)]
   apply fc
   intro k hk;have:=cC.mp hk;simp only[Function.comp,List.getElem?_toArray,aQ];rw[bJ aa]
   rfl
  rw[e,dD,List.getElem?_range c,bJ<|show its.length-1-i<its.length by omega]
  simp only[map_some,aQ];rw[bJ<|show its.length-1-i<its.length by omega]
  rfl
 ·have h1:((List.range its.length).filterMap<|(λx=>its.toArray[x]?)∘λk=>its.length-1-k).length<=its.length:=by
   have:=List.length_filterMap_le ((λx=>its.toArray[x]?)∘λk=>its.length-1-k) (List.range its.length)
   simpa using this
  rw[iO aa,iO (by rw[List.length_reverse];omega)]
def tRevL (K:Frag)(te:TE)(t3:TO):TE:=λσ H Q=>te σ H λx H1=>t3 σ H1 λl H3=>l=some (-1)/\ ∃a xs,x= .ref a/\SqL K H3 a xs/\ ∀p,H3 p=none->Q (.ref p) (upd H3 p<|.lst xs.reverse)
theorem bW2 (he:PE X e te)(h3:PO X (some e3) t3):PE X (.Subscript e (.Slice none none (some e3) p2) pos) (tRevL X.K te t3):=by
 intro pins s σ H Q I h;refine Subscript_ (thn (he pins s σ H _ I h) λv s1 ⟨x,H1,I1,r1,q1⟩=> ?_)
 refine wpAny_Slice ?_
 rw[evalPart_none];refine aF ?_;refine aF ?_;refine thn (h3 pins s1 σ H1 _ I1 q1) λv3 s3 ⟨l,H3,I3,p3,q3⟩=> ?_
 obtain⟨rfl,a,xs,rfl,hx,q⟩:=q3;cases r1;have I4:Inv X pins σ H3 {s3 with heap:=s3.heap.push {cls:= .type "slice",data:= .fields #[.none,.none,v3]}}:=I3.kept (t':=s3.toks) λb ob q=>aO _ q
 obtain⟨its,r,ht,hz⟩:=I4.list hx;have hlen:its.toArray.size=xs.length:=by rw[aU];exact r.length.symm
 have hg:wpAny (model X.prog X.w) X.A (getItem (.ref a)<|.ref s3.heap.objs.size) (EP X pins σ Q) X.xe {s3 with heap:=s3.heap.push {cls:= .type "slice",data:= .fields #[.none,.none,v3]}}:=by
  refine wpAny_getItem_list_slice ht.isList (Heap.IsSliceOf.new ..) .none .none p3 ac ?_ (by rw[hlen];exact hz)
  rw[aE2];refine⟨.ref _,_,I4.laid (t':=s3.toks) (o:= .lst xs.reverse) (λb ob q=>aO _ q) (aC _) ?_,rfl,q _<|I4.hok.fresh<|aC _⟩
  exact⟨by rw[List.length_reverse];exact hz,_,0,r.reverse,bK _ rfl⟩
 exact tail_any (ops:=[.ref a,.ref s3.heap.objs.size]) ht.isList.typeIs slot_list_getitem.lookup hg (by with_unfolding_all rfl)
end
end L2
namespace M
open PySem PySem.Spec PyProof.Rows L2
section
variable {X:Cx}{K:Frag}{A:AS}{H:Hp}{e e3:Expr}{t3:UE}{pos p2:Pos}
def b61 (t:UV)(t3:UE):UE:=λρ Q=>t ρ λd ρ1=>t3 ρ1 λb ρ2=>b.d= .int (-1)/\match d with
 | .lst l=>Q (.ow l.reverse) ρ2
 | _=>False
theorem b62 {t:UV}(he:PUV X e t)(h3:PU X e3 t3):PU X (.Subscript e (.Slice none none (some e3) p2) pos) (b61 t t3):=
 hZ (bW2 he<|b44 h3) λσ H Q ⟨C,ρ,Q0,I,h,k⟩=>⟨C,ρ,_,I,h,λd ρ1 v H1 q f s r=>by
  have I1:=(I.frz f).same s;refine⟨C,ρ1,_,I1,q,λb ρ2 v3 H2 q2 f2 s2 r2=> ?_⟩
  obtain⟨eb,q2⟩:=q2;have ri:=r2.rep λa z=>I1.avF f2 z
  rw[eb]at ri;have:=bF ri;subst this;refine⟨-1,rfl,rfl,?_⟩;have r':=r.mono (A':=Av C ρ2 σ) s2 λa z=>f2.av z
  cases d with
  | lst l=>
   obtain⟨a,vs,rfl,c,rs⟩:=r';exact⟨a,vs,rfl,SqL.of c,λp n=>k _ ρ2 _ _ q2 (f.trans f2) ((s.trans s2).trans<|cZ n _) (eM (s.trans s2) n rs.reverse)⟩
  | _=>exact q2.elim⟩
end
end M
end
section
namespace M
open PySem PySem.Spec PyProof.Rows L2
section
variable {X:Cx}{e:Expr}{es:List Expr}{pos:Pos}{te:UE}
theorem ilB {i:Nat}(h:Nat.ble (i+1) X.N.length=true): ∀pins σ H s,Inv X pins σ H s->i<σ.length:=il rfl (Nat.le_of_ble_eq_true h)
theorem aT (i:Nat){x:Str}{pos:Pos}(h:PE X (.Name x pos) (a26 i):=by exact pv _):PU X (.Name x pos) (aE i):=bH0 i h
theorem bP (i:Nat){x:Str}{pos:Pos}(h:PE X (.Name x pos) (a26 i):=by exact pv _):PUV X (.Name x pos) (aS i):=pv_var i h
theorem aE3 {x:Str}{pos':Pos}(i:Nat)(hN:X.N.Nodup)(he:PU X e te)(hi:X.N[i]? =some x:=by rfl)(hx:Loc X.env.scope x:=by walk_at "z")(hs:swapsWith e (some<|.Name x pos') pos.line X.env=pure false:=by rfl)(hf:X.fn x=true\/X.env.scope.names.lookup x=some .local:=by walk_at "z")
  (hl: ∀pins σ H s,Inv X pins σ H s->i<σ.length:=by exact ilB rfl):PUS X (.Assign [.Name x pos'] e pos) (cP i te):=us_set i hN hi hx he hs hf hl
theorem us_g {x:Str}{pos':Pos}{op:Operator}{g:D->D->(B->Prop)->Prop}(i:Nat)(hN:X.N.Nodup)(he:PU X e te)(ho:IpU X op g)(hi:X.N[i]? =some x:=by rfl)(hx:Loc X.env.scope x:=by walk_at "z")(hf:X.fn x=true\/X.env.scope.names.lookup x=some .local:=by walk_at "z")
  (hl: ∀pins σ H s,Inv X pins σ H s->i<σ.length:=by exact ilB rfl):PUS X (.AugAssign (.Name x pos') op e pos) (bB3 i g te):=us_aug i hN hi hx he ho hf hl
theorem cX {a b:Expr}{ti:UE}{t:UV}(ha:PUV X a t)(hb:PU X b ti)(hs:a48 b:=by exact λ_ _=>rfl):PU X (.Subscript a b pos) (uIx t ti):=pu_ix ha hb hs
theorem fO {k k':Nat}{ps:List Str}{φ:Φ}{x:Str}{p:Pos}{t:UA}(F:Fn X.prog X.w X.K X.mg X.base x ps k φ)(hr:jS k' X.A)(ha:PUA X (e::es) t)(hk:k<=k':=by decide)(hg:Gl X x:=by rfl)(hdb:(x==("__debug__":Str))=false:=by decide)
  (he:starEach (e::es) X.env=(false,eval e X.env)::starEach es X.env:=by rfl) (hpl:(backTo pos<|starEach es X.env).any (·.1)=false:=by rfl):PU X (.Call (.Name x p) (e::es) [] pos) (aZ φ t):=pu_fn F hr hk hg ha hdb he hpl
end
section
variable {X:Cx}{es:List Expr}{t:UA}
theorem b5 {i:Int}{j}{p:Pos}(h:PUA X es t):PUA X (.Constant (.int i) j p::es) (aA (uC<|.int i) t):=aG aD h rfl
theorem gY {fs:List Expr}{j}{p:Pos}{ta:UE}(a:PU X (.Tuple fs j p) ta)(h:PUA X es t):PUA X (.Tuple fs j p::es) (aA ta t):=aG a h rfl
theorem aI2 {o:UnaryOp}{e:Expr}{p:Pos}{ta:UE}(a:PU X (.UnaryOp o e p) ta)(h:PUA X es t):PUA X (.UnaryOp o e p::es) (aA ta t):=aG a h rfl
theorem aK (i:Nat){x:Str}{p:Pos}(h:PUA X es t)(a:PE X (.Name x p) (a26 i):=by exact pv _):PUA X (.Name x p::es) (aA (aE i) t):=aG (bH0 i a) h rfl
end
end M
end
section
namespace M
open PySem PySem.Spec PyProof.Rows L2
abbrev GL:=List (Addr×List Int)
section
variable {K:Frag}{C C':C0}{ρ ρ':Ev}{σ σ':L2.St}{H H' H0:Hp}{g g':GL}{r:Nat}
def b05 (ρ:Ev):Prop:= ∀(i:Nat) (l:List D),ρ[i]? ≠some (some<|.bo l)
end
end M
end
section
namespace M
open PySem PySem.Spec PyProof.Rows L2
section
variable {X:Cx}{K:Frag}{C C':C0}{ρ ρ':Ev}{σ σ':L2.St}{H H' H0:Hp}{g g':GL}{r:Nat}{st:Stmt}{sts:List Stmt}{e:Expr}{pos:Pos}{t u:US}{te ti tj:UE}{tc:UT}
theorem aS8 {l:List D}(nb:b05 ρ):b05 (ρ.set r<|some<|.ow l):=λi m h=>by
 rcases aN h with⟨rfl,h3,_⟩| ⟨_,h3⟩
 ·cases h3
 ·exact nb i m h3
theorem bW3 {n m:Nat}(h:n<m):ixN m (n:Int)=some n:=by
 unfold ixN;rw[a8 aa,a8 aa]
 simp
end
end M
end
section
namespace L2
open PySem PySem.Spec PyProof.Rows
end L2
namespace M
open PySem PySem.Spec PyProof.Rows L2
end M
end
section
namespace M
open PySem PySem.Spec PyProof.Rows L2
mutual
noncomputable def ltQ:PyData->PyData->Option Bool
 | .int i,.int j=>some (decide (i<j))
 | .tuple l,.tuple m=>vK l m
 | _,_=>none
noncomputable def vK:List PyData->List PyData->Option Bool
 | [],m=>some (decide (0<m.length))
 | _::_,[]=>some false
 | x::l,y::m=>if x.eqv y=true then vK l m else ltQ x y
end
section
variable {prog:Program}{w:World}{E:Value->Shared->Prop}{s:Shared}
def uJ (prog:Program)(w:World)(A:Around)(E:Value->Shared->Prop)(fin:Bool)(Q:Value->Shared->Prop):List (Value×Value)->Shared->Prop
 | [],s=>Q (.bool fin) s
 | (p,q)::r,s=>wpAny (model prog w) A (eqBool p q) (λe s'=>if e=true then uJ prog w A E fin Q r s' else wpAny (model prog w) A (richCompare .Lt p q) Q E s') E s
theorem bL4 {A:Around}{a b:Addr}{oa ob:Obj}{xs ys:Array Value}{n m:Nat}{P:PySem.Fin->Shared->Prop}(ha:s.heap.get? a=some oa)(da:oa.data= .seq xs n)(hb:s.heap.get? b=some ob)(cb:ob.cls= .type "tuple")(db:ob.data= .seq ys m)
  (h:uJ prog w A E (decide (xs.size<ys.size)) (λv s'=>P (.done<|.ret v) s') (xs.toList.zip ys.toList) s):wpAny (model prog w) A (Builtin.«tuple.__lt__» ⟨[.ref a,.ref b],[]⟩) P E s:=by
 show wpAny _ _ (isInstance (.ref b) (.type "tuple") >>= _) _ _ s
 refine a9 (wR ⟨ob,hb,cb⟩ isSubtype_tuple_tuple ?_)
 simp only[a61,i6,dR];refine a9 (wpAny_tupleItemsOf ha da ?_);refine a9 (wpAny_tupleItemsOf hb db ?_);refine a9 ?_;refine wpAny_forIn_list _ (λeH r s'=>r=(none,())/\uJ prog w A E (decide (xs.size<ys.size)) (λv s'=>P (.done<|.ret v) s') eH s') _ ?_ ?_ _ _ ⟨rfl,h⟩
 ·rintro⟨p,q⟩ eH r s' ⟨rfl,h'⟩;have h2:wpAny (model prog w) A (eqBool p q) (λe s'=>if e=true then uJ prog w A E (decide (xs.size<ys.size)) (λv s'=>P (.done<|.ret v) s') eH s' else wpAny (model prog w) A (richCompare .Lt p q) (λv s'=>P (.done<|.ret v) s') E s') E s':=h'
  refine a9 (bR h2 (λe s2 he=> ?_) λ_ _ z=>z)
  cases e
  ·rw[a7 ac]at he
   rw[a8<|by rfl]
   exact a9 (jR<|a9<|bR he (λv s3 hv=>a9 (aF<|aF<|aF hv)) λ_ _ z=>z)
  ·rw[a8 rfl]at he;rw[a7 ac]
   exact aF ⟨rfl,he⟩
 ·rintro r s' ⟨rfl,h'⟩;exact aF h'
theorem uJ.mono {A:Around}{fin:Bool}{Q Q':Value->Shared->Prop}(k: ∀v s,Q v s->Q' v s): ∀(l:List (Value×Value)) (s:Shared),uJ prog w A E fin Q l s->uJ prog w A E fin Q' l s
 | [],s,h=>k _ s h
 | (p,q)::r,s,h=>by
  have h':wpAny (model prog w) A (eqBool p q) (λe s'=>if e=true then uJ prog w A E fin Q r s' else wpAny (model prog w) A (richCompare .Lt p q) Q E s') E s:=h
  refine bR h' (λe s' he=> ?_) λ_ _ z=>z
  cases e
  ·rw[a7 ac]at he⊢
   exact bR he k λ_ _ z=>z
  ·rw[a8 rfl]at he⊢;exact uJ.mono k r s' he
theorem bW4 {A:Around}{a b:Addr}{oa ob:Obj}{xs ys:Array Value}{n m:Nat}{Q:Value->Shared->Prop}(hu:A.units<cLine)(ha:s.heap.get? a=some oa)(ca:oa.cls= .type "tuple")(da:oa.data= .seq xs n)(hb:s.heap.get? b=some ob)(cb:ob.cls= .type "tuple")(db:ob.data= .seq ys m)
  (h:uJ prog w A.in1 E (decide (xs.size<ys.size)) (λv s'=>v≠ .notImplemented/\Q v s') (xs.toList.zip ys.toList) s):wpAny (model prog w) A (richCompare .Lt (.ref a)<|.ref b) Q E s:=
 wpAny_richCompare_same_room ⟨oa,ha,ca⟩ ⟨ob,hb,cb⟩ F.slot_tuple_lt (fK F.slot_tuple_lt ⟨oa,ha,ca⟩ F.entry_tuple_lt (bL4 ha da hb cb db<|h.mono (λv s' q=>⟨v,rfl,q⟩) _ _)<|F.args_tuple_lt_2 _ _) hu
theorem kA: ∀{us:List Value} {l:List PyData} {as:List Addr},ReadsAll s.heap us l as->us.length=l.length
 | _,_,_,.nil=>rfl
 | _,_,_,.cons _ h=>bC (· +1) (kA h)
mutual
theorem aS9: ∀(x y:PyData) {A:Around} {Q:Value->Shared->Prop} {u v:Value} {as bs:List Addr} {b:Bool},Reads s.heap u x as->Reads s.heap v y bs->x.canLay0=true->y.canLay0=true->A.units+x.depth<cLine->ltQ x y=some b->Q (.bool b) s->wpAny (model prog w) A (richCompare .Lt u v) Q E s
 | .int i,y,A,Q,u,v,as,bs,b,rx,ry,cx,cy,hu,hb,q=>by
  cases y with
  | int j=>
   cases rx;cases ry;simp only[ltQ]at hb;cases hb;exact lt_int q
  | _=>simp[ltQ]at hb
 | .tuple l,y,A,Q,u,v,as,bs,b,rx,ry,cx,cy,hu,hb,q=>by
  cases y with
  | tuple m=>
   cases rx with
   | tuple ho hc hd ra=>
   cases ry with
   | tuple ho' hc' hd' rb=>
   simp only[ltQ]at hb;simp only[PyData.canLay0]at cx cy;simp only[PyData.depth]at hu;refine bW4 ad ho hc hd ho' hc' hd' (aI3 l m ra rb cx cy (by rw[wS];lia) ?_ hb ⟨ae,q⟩)
   have l1:=kA ra;have l2:=kA rb;rw[<-l1,<-l2,jL,jL]
  | _=>simp[ltQ]at hb
 | .none,y,A,Q,u,v,as,bs,b,rx,ry,cx,cy,hu,hb,q=>by cases y<;>simp[ltQ]at hb
 | .bool _,y,A,Q,u,v,as,bs,b,rx,ry,cx,cy,hu,hb,q=>by cases y<;>simp[ltQ]at hb
 | .str _,y,A,Q,u,v,as,bs,b,rx,ry,cx,cy,hu,hb,q=>by cases y<;>simp[ltQ]at hb
 | .list _,y,A,Q,u,v,as,bs,b,rx,ry,cx,cy,hu,hb,q=>by cases y<;>simp[ltQ]at hb
 | .dict _,y,A,Q,u,v,as,bs,b,rx,ry,cx,cy,hu,hb,q=>by cases y<;>simp[ltQ]at hb
theorem aI3: ∀(l m:List PyData) {A:Around} {Q:Value->Shared->Prop} {us vs:List Value} {as bs:List Addr} {fin b:Bool},ReadsAll s.heap us l as->ReadsAll s.heap vs m bs->PyData.canLayAll0 l=true->PyData.canLayAll0 m=true->A.units+PyData.depthAll l<cLine->fin=decide (l.length<m.length)->vK l m=some b->Q (.bool b) s->uJ prog w A E fin Q (us.zip vs) s
 | [],m,A,Q,us,vs,as,bs,fin,b,ra,rb,ca,cb,hu,hf,hb,q=>by
  cases ra;simp only[vK]at hb;cases hb;rw[List.zip_nil_left,hf];exact q
 | x::l,[],A,Q,us,vs,as,bs,fin,b,ra,rb,ca,cb,hu,hf,hb,q=>by
  cases rb;simp only[vK]at hb;cases hb;rw[List.zip_nil_right,hf];rw[bD ae]
  exact q
 | x::l,y::m,A,Q,us,vs,as,bs,fin,b,ra,rb,ca,cb,hu,hf,hb,q=>by
  cases ra with
  | cons ra1 ra=>
  cases rb with
  | cons rb1 rb=>
  simp only[PyData.canLayAll0,c8]at ca cb;simp only[PyData.depthAll]at hu;simp only[vK]at hb;rw[wN];refine SeqAt.eqBoolOverData _ _ _ _ _ _ _ _ _ _ _ _ ra1 rb1 ca.1 cb.1 ad ?_
  by_cases c:x.eqv y=true
  ·rw[a8 c]at hb⊢;exact aI3 l m ra rb ca.2 cb.2 ad (by rw[hf];simp) hb q
  ·rw[a7 c]at hb⊢;exact aS9 x y ra1 rb1 ca.1 cb.1 ad hb q
end
theorem aI4: ∀(l m:List PyData) {A:Around} {Q:Bool->Shared->Prop} {us vs:List Value} {as bs:List Addr} {fin b:Bool} {i:Nat},ReadsAll s.heap us l as->ReadsAll s.heap vs m bs->PyData.canLayAll0 l=true->PyData.canLayAll0 m=true->A.units+PyData.depthAll l<cLine->fin=decide (l.length<m.length)->vK l m=some b->Q b s->PySem.W.KatLex prog w A false fin Q (us.zip vs) i s
 | [],m,A,Q,us,vs,as,bs,fin,b,i,ra,rb,ca,cb,hu,hf,hb,q=>by
  cases ra;simp only[vK]at hb;cases hb;rw[List.zip_nil_left,hf];exact q
 | x::l,[],A,Q,us,vs,as,bs,fin,b,i,ra,rb,ca,cb,hu,hf,hb,q=>by
  cases rb;simp only[vK]at hb;cases hb;rw[List.zip_nil_right,hf];rw[bD ae]
  exact q
 | x::l,y::m,A,Q,us,vs,as,bs,fin,b,i,ra,rb,ca,cb,hu,hf,hb,q=>by
  cases ra with
  | cons ra1 ra=>
  cases rb with
  | cons rb1 rb=>
  simp only[PyData.canLayAll0,c8]at ca cb;simp only[PyData.depthAll]at hu;simp only[vK]at hb;rw[wN];refine PySem.W.kat_cons (SeqAt.eqBoolOverData _ _ _ _ _ _ _ _ _ _ _ _ ra1 rb1 ca.1 cb.1 ad ?_)
  by_cases c:x.eqv y=true
  ·rw[a8 c]at hb;rw[c];exact PySem.W.kat_yes (aI4 l m ra rb ca.2 cb.2 ad (by rw[hf];simp) hb q)
  ·rw[a7 c]at hb;rw[show x.eqv y=false by simpa using c]
   refine PySem.W.kat_no ?_
   rw[Bool.false_and];exact PySem.W.kat_one _ _ (aS9 x y ra1 rb1 ca.1 cb.1 ad hb q)
end
noncomputable def kok (n:Nat):KasT (Array Nat)->Bool
 | .ret p=>p.toList.length==n&&p.toList.all (· <n)
 | .ask i j k=>decide (i<n)&&decide (j<n)&&kok n (k true)&&kok n (k false)
noncomputable def a32 (lt:Nat->Nat->Bool):KasT (Array Nat)->Array Nat
 | .ret p=>p
 | .ask i j k=>a32 lt (k<|lt i j)
theorem vF {n:Nat}{lt:Nat->Nat->Bool}: ∀t:KasT (Array Nat),kok n t=true->(a32 lt t).toList.length=n/\ ∀i∈(a32 lt t).toList,i<n
 | .ret p,h=>by
  simp only[kok,c8,oK,gN,fJ]at h;exact h
 | .ask i j k,h=>by
  simp only[kok,c8]at h;simp only[a32];cases lt i j
  ·exact vF _ h.2
  ·exact vF _ h.1.2
theorem aM6 {n:Nat}{lt:Nat->Nat->Bool}{s:Shared}{cmp:Nat->Nat->(Bool->Shared->Prop)->Shared->Prop}{Q:Array Nat->Shared->Prop}(hc: ∀i j,i<n->j<n-> ∀C:Bool->Shared->Prop,C (lt i j) s->cmp i j C s) :
  ∀t:KasT (Array Nat),kok n t=true->Q (a32 lt t) s->t.kasWp cmp Q s
 | .ret p,h,q=>q
 | .ask i j k,h,q=>by
  simp only[kok,c8,fJ]at h;simp only[a32]at q;refine hc i j h.1.1.1 h.1.1.2 _ ?_;cases e:lt i j
  ·rw[e]at q;exact aM6 hc _ h.2 q
  ·rw[e]at q;exact aM6 hc _ h.1.2 q
noncomputable def fB (lt:Nat->Nat->Bool)(n:Nat):List Nat:=if n<2 then List.range n else(a32 lt<|kas_sort n).toList
theorem yG: ∀n,n<=5->2<=n->kok n (kas_sort n)=true:=by
 intro n h1 h2
 match n,h1,h2 with
 | 2,_,_=>decide +kernel
 | 3,_,_=>decide +kernel
 | 4,_,_=>decide +kernel
 | 5,_,_=>decide +kernel
section
variable {prog:Program}{w:World}{A:Around}{E:Value->Shared->Prop}{s:Shared}
theorem bL5 {a:Addr}{vs:List Value}{n:Nat}{lt:Nat->Nat->Bool}{P:PySem.Fin->Shared->Prop}(h4:vs.length<=5)(ho:s.heap.get? a=some (seqObj "list" vs.toArray n))
  (hy:2<=vs.length-> ∀h':Heap,(∀b o,b≠a->s.heap.get? b=some o->h'.get? b=some o)-> ∃κ:SortKind,
   (∀Q:SortKind->Shared->Prop,Q κ {s with heap:=h'}->wpAny (model prog w) A (keyKind' vs.toArray) Q (λ_ _=>False) {s with heap:=h'})/\
   (∀i j,i<vs.length->j<vs.length-> ∀Q:Bool->Shared->Prop,Q (lt i j) {s with heap:=h'}->wpAny (model prog w) A (keyLt' κ (vs.getD i .none)<|vs.getD j .none) Q (λ_ _=>False) {s with heap:=h'}))
  (fi:P (.done<|.ret .none) {s with heap:=sortedHeap s.heap a vs ((fB lt vs.length).map λi=>vs.getD i .none).toArray}) :
  wpAny (model prog w) A (Builtin.«list.sort» ⟨[.ref a],[]⟩) P E s:=by
 rw[list_sort_plain];have la:a<s.heap.objs.size:=aM ho;have hz:vs.toArray.size<=sizeLine:=by rw[aU];exact aV h4 ac
 refine a9 (listItems_at ho rfl ?_)
 refine a9 (oG ho rfl ?_ hz (cO _))
 obtain⟨c1,h1⟩: ∃c1,(s.heap.update a<|Obj.mapSeq λ_=> #[]).get? a=some (seqObj "list" #[] c1):=⟨_,get?_update_seq ho λ_=> #[]⟩
 refine a9 (oJ h1 rfl ?_)
 refine a9 (wpAny_newTuple ?_<|by simpa using hz)
 refine a9 (sE ?_<|cO _)
 refine e9 ?_
 have h6:(((s.heap.update a<|Obj.mapSeq λ_=> #[]).push<|seqObj "tuple" vs.toArray 0).push<|seqObj "list" #[] 0).get? a=some (seqObj "list" #[] c1):=by
  rw[fI _ _ _ (by rw[lF,gO];exact aW (fT la))]
  rw[fI _ _ _ (by rw[gO];exact aW la)]
  exact h1
 have kp: ∀b o,b≠a->s.heap.get? b=some o->(((s.heap.update a<|Obj.mapSeq λ_=> #[]).push<|seqObj "tuple" vs.toArray 0).push<|seqObj "list" #[] 0).get? b=some o:=λb o ne q=>by
  have lb:b<s.heap.objs.size:=aM q;rw[fI _ _ _ (by rw[lF,gO];exact aW (fT lb))]
  rw[fI _ _ _ (by rw[gO];exact aW lb),rL _ _ _ _ ne]
  exact q
 show wpAny (model prog w) A _ P E {s with heap:=((s.heap.update a<|Obj.mapSeq λ_=> #[]).push<|seqObj "tuple" vs.toArray 0).push (seqObj "list" #[] 0)}
 dsimp only
 by_cases n2:vs.toArray.size<2
 ·rw[a8 n2,a8 n2];refine a9 (aF ?_);refine a9 (aF ?_);have e0:vs.toArray=((fB lt vs.length).map λi=>vs.getD i .none).toArray:=by
   rw[aU]at n2;unfold fB;rw[a8 n2]
   congr 1
   apply i9
   ·simp
   ·intro i h1 h2;simp[aQ,h1]
  have e4:(arrOf<|SortSt.mk' general' (vs.toArray.zip vs.toArray) #[] 7 none).map (·.2)=((fB lt vs.length).map λi=>vs.getD i .none).toArray:=by
   rw[<-e0];show(vs.toArray.zip vs.toArray).map (·.2)=_;apply Array.ext
   ·simp
   ·intro i h1 h2;simp
  dsimp only;rw[e4];refine a9 (oJ h6 rfl ?_);refine a9 (oG h6 rfl ?_ (cO _) (by rw[<-e0];exact Nat.le_succ_of_le hz))
  simp only[wP,i6,dR];exact aF fi
 ·rw[a7 n2,a7 n2];rw[aU]at n2;obtain⟨κ,y1,y2⟩:=hy ad _ kp
  have hk:=yG vs.length h4 ad
  obtain⟨hl1,hl2⟩:=vF (lt:=lt) _ hk;have eP:fB lt vs.length=(a32 lt<|kas_sort vs.length).toList:=by unfold fB;rw[a7 n2]
  refine a9 (bR (y1 (λk s'=>k=κ/\s'={s with heap:=((s.heap.update a<|Obj.mapSeq λ_=> #[]).push<|seqObj "tuple" vs.toArray 0).push (seqObj "list" #[] 0)}) ⟨rfl,rfl⟩) ?_ λ_ _ z=>z.elim)
  rintro k s' ⟨rfl,rfl⟩;refine a9 (bR (PySem.W.kat_run (ks:=vs) (vs:=vs) (Q:=λst' s'=>s'={s with heap:=((s.heap.update a<|Obj.mapSeq λ_=> #[]).push<|seqObj "tuple" vs.toArray 0).push (seqObj "list" #[] 0)}/\failedOf st'=none/\(arrOf st').map (·.2)=((fB lt vs.length).map λi=>vs.getD i .none).toArray)
   (G:=λp s'=>s'={s with heap:=((s.heap.update a<|Obj.mapSeq λ_=> #[]).push<|seqObj "tuple" vs.toArray 0).push (seqObj "list" #[] 0)}/\p=a32 lt (kas_sort vs.length))
   rfl ad ad (λp st' s' _ e2 e3 ⟨e4,e5⟩=>⟨e4,e3,?_⟩) ?_) ?_ λ_ _ z=>z)
  ·rw[PySem.W.kat_snds rfl e2,e5,eP]
  ·refine aM6 (n:=vs.length) (lt:=lt) (λi j hi hj C q=> ?_) _ hk ⟨rfl,rfl⟩
   exact y2 i j hi hj _ q
  ·rintro⟨⟨⟩,st'⟩ s' ⟨rfl,e3,e4⟩;dsimp only;rw[e4];refine a9 (oJ h6 rfl ?_);refine a9 (oG h6 rfl ?_ (cO _) (by rw[aU,aI,eP,hl1];exact aV h4 ac))
   rw[e3];simp only[wP,i6,dR];exact aF fi
theorem b06 {l:Addr}{vs:List Value}{lt:Nat->Nat->Bool}{Q:Value->Shared->Prop}(h4:vs.length<=5)(hl:s.heap.IsList l vs.toArray)
  (hy:2<=vs.length-> ∀(h':Heap) (A':Around),A'.units=A.units+2->(∀b o,s.heap.get? b=some o->h'.get? b=some o)-> ∃κ:SortKind,
   (∀Q:SortKind->Shared->Prop,Q κ {s with heap:=h'}->wpAny (model prog w) A' (keyKind' vs.toArray) Q (λ_ _=>False) {s with heap:=h'})/\
   (∀i j,i<vs.length->j<vs.length-> ∀Q:Bool->Shared->Prop,Q (lt i j) {s with heap:=h'}->wpAny (model prog w) A' (keyLt' κ (vs.getD i .none)<|vs.getD j .none) Q (λ_ _=>False) {s with heap:=h'}))
  (fi:Q (.ref<|s.heap.objs.size+1) {s with heap:=sortedAll s.heap vs ((fB lt vs.length).map λi=>vs.getD i .none).toArray}) :
  wpAny (model prog w) A (call (.builtin "sorted") [.ref l]) Q E s:=by
 have hz0:vs.toArray.size<=sizeLine:=by rw[aU];exact aV h4 ac
 refine Calls.call_function_entry kind_sorted plain_sorted entry_sorted (args_sorted1 _) ?_
 unfold Builtin.«sorted»;refine a9 (m:=checkCount "sorted" 1 1 _) (aF ?_);refine a9 (collect_list hl ?_ hz0);refine a9 (sE ?_<|by simpa using hz0)
 have hz:((s.heap.push<|seqObj "list" #[] 0).update s.heap.objs.size (Obj.mapSeq (· ++vs.toArray))).objs.size=s.heap.objs.size+1:=by rw[gO,lF]
 have hL:(((s.heap.push<|seqObj "list" #[] 0).update s.heap.objs.size (Obj.mapSeq (· ++vs.toArray))).push<|seqObj "list" vs.toArray 0).get? (s.heap.objs.size+1)=some (seqObj "list" vs.toArray 0):=by
  rw[<-hz];exact bK _ rfl
 have kp: ∀b o,s.heap.get? b=some o->(((s.heap.push<|seqObj "list" #[] 0).update s.heap.objs.size (Obj.mapSeq (· ++vs.toArray))).push<|seqObj "list" vs.toArray 0).get? b=some o:=λb o q=>by
  have lb:b<s.heap.objs.size:=aM q;rw[fI _ _ _ (by rw[hz];exact aW (fT lb))]
  rw[rL _ _ _ _<|aW lb,fI _ _ _<|aW lb];exact q
 show wpAny _ _ _ _ _ {s with heap:=((s.heap.push<|seqObj "list" #[] 0).update s.heap.objs.size (Obj.mapSeq (· ++vs.toArray))).push (seqObj "list" vs.toArray 0)}
 rw[hz];refine a9 (e9<|fK slot_list_sort ⟨_,hL,rfl⟩ entry_list_sort (bL5 (lt:=lt) h4 hL (λh2 h' k=> ?_) ⟨_,rfl,?_⟩)<|args_list_sort _)
 ·refine hy h2 h' _ ?_ λb o q=>k b o (aW<|fT<|aM q) (kp b o q)
  rw[wS,wS]
 ·exact aF ⟨_,rfl,fi⟩
end
theorem sW {h:Heap}: ∀{us:List Value} {l:List PyData} {as:List Addr} (i:Nat),ReadsAll h us l as->i<l.length-> ∃bs,Reads h (us.getD i .none) (l.getD i .none) bs
 | _,_,_,0,.cons r _,_=>⟨_,r⟩
 | _,_,_,i+1,.cons _ h,hi=>sW i h (rF hi)
theorem b63: ∀{l:List D} {ps:List PyData},pdL l=some ps->l.length=ps.length
 | [],ps,h=>by simp only[pdL]at h;cases h;rfl
 | d::r,ps,h=>by
  obtain⟨x,ys,rfl,e1,e2⟩:=yF h;simp only[cT,b63 e2]
theorem aM7: ∀{l:List D} {ps:List PyData} (i:Nat),pdL l=some ps->i<l.length->pd (l.getD i .non)=some (ps.getD i .none)
 | [],ps,i,h,hi=>absurd hi (wY _)
 | d::r,ps,i,h,hi=>by
  obtain⟨x,ys,rfl,e1,e2⟩:=yF h;cases i with
  | zero=>exact e1
  | succ i=>exact aM7 i e2 (rF hi)
theorem a79: ∀{ps:List PyData} (i:Nat),PyData.canLayAll0 ps=true->i<ps.length->(ps.getD i .none).canLay0=true
 | [],i,h,hi=>absurd hi (wY _)
 | x::r,i,h,hi=>by
  simp only[PyData.canLayAll0,c8]at h;cases i with
  | zero=>exact h.1
  | succ i=>exact a79 i h.2 (rF hi)
theorem aT0: ∀{ps:List PyData} (i:Nat),i<ps.length->(ps.getD i .none).depth<=PyData.depthAll ps
 | [],i,hi=>absurd hi (wY _)
 | x::r,i,hi=>by
  simp only[PyData.depthAll];cases i with
  | zero=>exact Nat.le_max_left _ _
  | succ i=>exact aV (aT0 i<|rF hi) (Nat.le_max_right _ _)
section
variable {X:Cx}{pins:List (Addr×Obj)}{s:Shared}{σ:L2.St}{H:Hp}{A:AS}{h':Heap}{N:Model}
theorem b64 (I:Inv X pins σ H s)(kp: ∀b o,s.heap.get? b=some o->h'.get? b=some o): ∀{l:List D} {vs:List V} {us:List Value},(∀x∈l,∃f r,x=D.tup (.tup f::r))->bI X.K A H l vs->Vals vs us-> ∃fs,PySem.W.KatTups h' us fs/\fs.length=us.length/\ ∀v∈fs,PySem.W.Looks N h' (typeOf v) (.type "tuple")
 | [],vs,us,hf,r,q=>by
  have:=r.unnil;subst this;cases q;exact⟨[],.nil,rfl,λv hv=>absurd hv ae⟩
 | d::l,vs,us,hf,r,q=>by
  obtain⟨v,vr,rfl,r1,rs⟩:=r.uncons;cases q with
  | cons q1 q2=>
   obtain⟨fs,t1,t2,t3⟩:=b64 I kp (λx hx=>hf x (b6 _ hx)) rs q2
   obtain⟨f,r,rfl⟩:=hf d (aP ..);simp only[Rep]at r1;obtain⟨a,ws,rfl,c,rl⟩:=r1;cases q1;obtain⟨its,rv,⟨o,ho,hc,n,hd⟩,_⟩:=I.tuple (c.imp bY id);obtain⟨w1,wr,rfl,g1,_⟩:=rl.uncons;cases rv with
   | cons g2 rv=>
    simp only[Rep]at g1;obtain⟨b,zs,rfl,c',_⟩:=g1;cases g2;obtain⟨its',_,⟨o',ho',hc',n',hd'⟩,_⟩:=I.tuple (c'.imp bY id);refine⟨_,.cons (kp _ _ ho) hc hd rfl t1,by simp[t2],λv hv=> ?_⟩
    rcases aR.mp hv with rfl|hv
    ·have:=show PySem.W.Looks N h' (typeOf<|.ref b) o'.cls from(PySem.W.Looks.ld<|kp _ _ ho').andThen .now
     rw[hc']at this;exact this
    ·exact t3 v hv
noncomputable def aE4 (ps:List PyData)(i j:Nat):Bool:=(ltQ (ps.getD i .none)<|ps.getD j .none).getD false
structure b07 (l:List D)(ps:List PyData):Prop where
 few:l.length<=5
 pd:pdL l=some ps
 tup: ∀x∈l,∃f r,x=D.tup (.tup f::r)
 dep:PyData.depthAll ps<=30
 all: ∀i j,i<l.length->j<l.length->(ltQ (ps.getD i .none)<|ps.getD j .none).isSome=true
theorem b08 (hu:X.A.units+64<cLine):m9 X (.builtin "sorted") (λxs H Q=> ∃(p:Addr) (A:AS) (l:List D) (ps:List PyData) (vs:List V),xs=[.ref p]/\SqL X.K H p vs/\bI X.K A H l vs/\b07 l ps/\
  ∀a,H a=none->Q (.ref a) (upd H a<|.lst<|(fB (aE4 ps) l.length).map λi=>vs.getD i .non)):=by
 intro pins s σ H xs us Q I r h;obtain⟨p,A,l,ps,vs,rfl,hq,rl,ok,q⟩:=h;obtain⟨u,rfl,rx⟩:=vals1 r;cases rx;obtain⟨its,rv,pl,hz⟩:=I.list hq;have e1:=rl.length;have e2:=rv.length;have e3:=b63 ok.pd;have ln:its.length=l.length:=ad
 have l4:=ok.few;obtain⟨as,ra⟩:=lH I l ok.pd rl rv;refine b06 (lt:=aE4 ps) ad pl.isList (λh2 h' A' hA kp=> ?_) ?_
 ·obtain⟨fs,t1,t2,t3⟩:=b64 (N:=model X.prog X.w) I kp ok.tup rl rv;refine⟨tuples'<|Value.type "tuple" != Value.type "tuple",λQ' q'=>PySem.W.kat_kind t1 ad t3 ac q',λi j hi hj Q' q'=> ?_⟩
  have e:(Value.type "tuple" != Value.type "tuple")=false:=ac
  rw[e];have hi':i<l.length:=ad
  have hj':j<l.length:=ad
  obtain⟨b1,r1⟩:=sW i ra ad
  obtain⟨b2,r2⟩:=sW j ra ad
  have p1:=aM7 i ok.pd hi';have p2:=aM7 j ok.pd hj';have c1:=a79 i (vE l ok.pd) ad
  have c2:=a79 j (vE l ok.pd) ad
  have d1:=aT0 (ps:=ps) i ad
  have dd:=ok.dep;have ha:=ok.all i j hi' hj';unfold aE4 at q';obtain⟨f1,x1,m1⟩:=ok.tup (l.getD i .non) (by rw[aQ,bJ hi'];exact fU hi')
  obtain⟨f2,x2,m2⟩:=ok.tup (l.getD j .non) (by rw[aQ,bJ hj'];exact fU hj')
  rw[m1]at p1;rw[m2]at p2;generalize ps.getD i .none=y1 at *;generalize ps.getD j .none=y2 at *;simp only[M.pd]at p1 p2;obtain⟨z1,_,rfl⟩:=jV p1;obtain⟨z2,_,rfl⟩:=jV p2;generalize its.getD i .none=v1 at *;generalize its.getD j .none=v2 at *;cases r1 with
  | tuple ho hc hd rr=>
  cases r2 with
  | tuple ho' hc' hd' rr'=>
  obtain⟨b,hb⟩:=w8.mp ha;rw[hb]at q';simp only[ltQ]at hb;simp only[PyData.canLay0]at c1 c2;simp only[PyData.depth]at d1;refine PySem.W.kat_lt (kp _ _ ho) hd (kp _ _ ho') hd' (aI4 z1 z2 (ReadsAll.keeps kp rr) (ReadsAll.keeps kp rr') c1 c2 ad ?_ hb q')
  have l1:=kA (s:=s) rr;have l2:=kA (s:=s) rr';rw[<-l1,<-l2,jL,jL]
 ·refine⟨.ref<|s.heap.objs.size+1,_,?_,rfl,q (s.heap.objs.size+1)<|I.hok.fresh<|sM _⟩
  obtain⟨c,hc⟩:=sortedAll_at s.heap its ((fB (aE4 ps) its.length).map λi=>its.getD i .none).toArray
  refine I.laid (t':=s.toks) (λb o e=>sortedAll_old e) (sM _) ?_
  have hs: ∀i∈fB (aE4 ps) its.length,i<its.length:=by
   intro i hi;unfold fB at hi;split at hi
   ·exact cC.mp hi
   ·exact(vF _<|yG its.length ad ad).2 i hi
  have hl:(fB (aE4 ps) its.length).length=its.length:=by
   unfold fB;split
   ·simp
   ·exact(vF _<|yG its.length ad ad).1
  refine⟨?_,(fB (aE4 ps) its.length).map λi=>its.getD i .none,c,?_,hc⟩
  ·rw[aI,<-ln,hl];exact aV ad (show 5<=sizeLine by decide)
  ·rw[<-ln];have go: ∀ks:List Nat,(∀i∈ks,i<its.length)->Vals (ks.map λi=>vs.getD i .non) (ks.map λi=>its.getD i .none):=by
    intro ks
    induction ks with
    | nil=>exact λ_=> .nil
    | cons i ks ih=>
     intro hk;refine .cons ?_ (ih λj hj=>hk j (b6 _ hj))
     have hi:i<its.length:=hk i (aP ..);obtain⟨u,e5,e6⟩:=rv.get (i:=i) (bJ ad)
     show RelV (vs.getD i .non) (its.getD i .none)
     rw[aQ,aQ,e5,bJ ad]
     exact e6
   exact go _ hs
theorem yH {lt:Nat->Nat->Bool}{n:Nat}(h4:n<=5): ∀i∈fB lt n,i<n:=by
 intro i hi;unfold fB at hi;split at hi
 ·exact cC.mp hi
 ·exact(vF _<|yG n h4 ad).2 i hi
noncomputable def aM8:List D->(B->Prop)->Prop:=g1 λd Q=> ∃(l:List D) (ps:List PyData),d= .lst l/\b07 l ps/\Q (.ow<|(fB (aE4 ps) l.length).map λi=>l.getD i .non)
theorem aT1 (hu:X.A.units+64<cLine):qO X (.builtin "sorted") aM8:=by
 intro A H ds vs Q0 Q hA r g k;obtain⟨d,v,rfl,rfl,rv,l,ps,rfl,ok,g'⟩:=uA g r;simp only[Rep]at rv;obtain⟨p,xs,rfl,np,hp,rl⟩:=rv;refine⟨_,b08 hu,p,A,l,ps,xs,rfl,.inl<|.inl hp,rl,ok,λa ha=>k _ _ _ g' (cZ ha _) ?_⟩
 have go: ∀ks:List Nat,(∀i∈ks,i<l.length)->bI X.K A H (ks.map λi=>l.getD i .non) (ks.map λi=>xs.getD i .non):=by
  intro ks
  induction ks with
  | nil=>exact λ_=> .nil
  | cons i ks ih=>
   intro hk;have hi:=hk i (aP ..);refine .cons ?_ (ih λj hj=>hk j (b6 _ hj))
   obtain⟨u,e5,e6⟩:=rl.get (bJ hi);show Rep _ _ _ (l.getD i .non) (xs.getD i .non);rw[aQ,aQ,e5,bJ hi];exact e6
 exact eM (.refl _) ha (go _<|yH ok.few)
noncomputable def a80 (b:Nat):Nat->List (List Nat)
 | 0=>[[]]
 | k+1=>(a80 b k).flatMap λl=>(List.range b).map (· ::l)
noncomputable def c01 (n:Nat)(r:List Nat):Bool:=
 let p:=fB (λi j=>decide (r.getD i 0<r.getD j 0)) n
 p.isPerm (List.range n)&&p.length==n&&(List.range n).all (λi=>p.contains i)&&(List.range<|n-1).all (λi=>decide (r.getD (p.getD i 0) 0<=r.getD (p.getD (i+1) 0) 0/\p.getD i 0≠p.getD (i+1) 0))
theorem bC3:(List.range 6).all (λn=>(a80 n n).all (c01 n))=true:=af
theorem a81 {b:Nat}: ∀(k:Nat) (l:List Nat),l.length=k->(∀x∈l,x<b)->l∈a80 b k
 | 0,l,h,_=>by rw[rD.mp h];simp[a80]
 | k+1,[],h,_=>by simp at h
 | k+1,x::l,h,hx=>by
  simp only[a80,List.mem_flatMap,eC,cC];exact⟨l,a81 k l (by simpa using h) λy hy=>hx y (b6 _ hy),x,hx x<|aP ..,rfl⟩
noncomputable def pI (f:Nat->Int)(n i:Nat):Nat:=((List.range n).filter λj=>decide (f j<f i)).length
theorem b09 {f:Nat->Int}{n i j:Nat}(h:f i<=f j):pI f n i<=pI f n j:=by
 unfold pI;rw[<-List.countP_eq_length_filter,<-List.countP_eq_length_filter];exact wJ λx _ hx=>bB (Int.lt_of_lt_of_le (iQ hx) h)
theorem aT2 {f:Nat->Int}{n i j:Nat}(hi:i<n)(h:f i<f j):pI f n i<pI f n j:=by
 unfold pI;have e: ∀l:List Nat,(l.filter λk=>decide (f k<f i)).length<=(l.filter λk=>decide (f k<f j)).length/\(i∈l->(l.filter λk=>decide (f k<f i)).length< (l.filter λk=>decide (f k<f j)).length):=by
  intro l
  induction l with
  | nil=>simp
  | cons x l ih=>
   obtain⟨h1,h2⟩:=ih
   by_cases c1:f x<f i
   ·have c2:f x<f j:=aa
    simp only[oA,bB c1,bB c2,eT,cT,aR];refine⟨aa,λhm=> ?_⟩
    rcases hm with rfl|hm
    ·omega
    ·have:=h2 hm;omega
   ·by_cases c2:f x<f j
    ·simp only[oA,bD c1,bB c2,eT,i6,dR,cT,aR];exact⟨aa,λ_=>aa⟩
    ·simp only[oA,bD c1,bD c2,i6,dR,aR];refine⟨h1,λhm=> ?_⟩
     rcases hm with rfl|hm
     ·omega
     ·exact h2 hm
 exact(e<|List.range n).2 (cC.mpr hi)
theorem b12 {f:Nat->Int}{n i:Nat}(hi:i<n):pI f n i<n:=by
 have:pI f n i< (List.range n).length:=by
  unfold pI;have e: ∀l:List Nat,(l.filter λk=>decide (f k<f i)).length<=l.length/\(i∈l->(l.filter λk=>decide (f k<f i)).length<l.length):=by
   intro l
   induction l with
   | nil=>simp
   | cons x l ih=>
    obtain⟨h1,h2⟩:=ih
    by_cases c1:f x<f i
    ·simp only[oA,bB c1,eT,cT,aR];refine⟨aa,λhm=> ?_⟩
     rcases hm with rfl|hm
     ·omega
     ·have:=h2 hm;omega
    ·simp only[oA,bD c1,i6,dR,cT,aR];exact⟨aa,λ_=>aa⟩
  exact(e<|List.range n).2 (cC.mpr hi)
 simpa using this
theorem xH {n:Nat}{lt lt':Nat->Nat->Bool}(h: ∀i j,i<n->j<n->lt i j=lt' i j): ∀t:KasT (Array Nat),kok n t=true->a32 lt t=a32 lt' t
 | .ret p,_=>rfl
 | .ask i j k,hk=>by
  simp only[kok,c8,fJ]at hk;simp only[a32];rw[h i j hk.1.1.1 hk.1.1.2];cases lt' i j
  ·exact xH h _ hk.2
  ·exact xH h _ hk.1.2
theorem a18 {n:Nat}(h4:n<=5){lt lt':Nat->Nat->Bool}(h: ∀i j,i<n->j<n->lt i j=lt' i j):fB lt n=fB lt' n:=by
 unfold fB;split
 ·rfl
 ·rw[xH h _<|yG n h4 ad]
theorem bC4 {n:Nat}(h4:n<=5){lt:Nat->Nat->Bool}{f:Nat->Int}(h: ∀i j,i<n->j<n->lt i j=decide (f i<f j)) :
  (fB lt n).Perm (List.range n)/\(fB lt n).length=n/\(∀i,i<n->i∈fB lt n)/\ ∀i,i+1<n->f ((fB lt n).getD i 0)<=f ((fB lt n).getD (i+1) 0)/\(fB lt n).getD i 0≠(fB lt n).getD (i+1) 0:=by
 have g:=gN.mp bC3 n (cC.mpr ad)
 have hr: ∀i,i<n->((List.range n).map<|pI f n).getD i 0=pI f n i:=λi hi=>by simp[aQ,hi]
 have g:=gN.mp g ((List.range n).map<|pI f n) (a81 _ _ ae<|by simpa using λi hi=>b12 hi)
 simp only[c01,c8,oK,gN,cC,List.contains_iff_mem,fJ,List.isPerm_iff]at g;have e:fB (λi j=>decide (((List.range n).map<|pI f n).getD i 0< ((List.range n).map<|pI f n).getD j 0)) n=fB lt n:=by
  refine a18 h4 λi j hi hj=> ?_
  rw[hr i hi,hr j hj,h i j hi hj]
  by_cases c:f i<f j
  ·rw[bB c,bB<|aT2 hi c]
  ·rw[bD c,bD<|Nat.not_lt.mpr<|b09 ad]
 rw[e]at g;refine⟨g.1.1.1,g.1.1.2,g.1.2,λi hi=> ?_⟩
 have g3:=g.2 i ad
 have m1:=yH (lt:=lt) h4 ((fB lt n).getD i 0) (by rw[aQ,bJ ad];exact fU _)
 have m2:=yH (lt:=lt) h4 ((fB lt n).getD (i+1) 0) (by rw[aQ,bJ ad];exact fU _)
 rw[hr _ m1,hr _ m2]at g3;exact⟨Int.not_lt.mp λz=>absurd (aT2 m2 z) (Nat.not_lt.mpr g3.1),g3.2⟩
end
end M
end
section
namespace L2
open PySem PySem.Spec PyProof.Rows
noncomputable def ItvL (K:Frag)(l:Addr)(n:Nat):It where
 go:=λi H=>i<n/\ ∃xs,SqL K H l xs/\xs.length=n
 yld:=λi H v H'=>H'=H/\ ∀xs,SqL K H l xs->xs[n-1-i]? =some v
 stop:=λi H=>i=n
theorem bC5 {P:Program}{w:World}{K:Frag}{tg:Expr}{it l:Addr}(n:Nat)(hz:n<=sizeLine):aL2 P w K tg (ItvL K l n) [it] it (λi h=>h.IsRevIter it l ((n:Int)-1-(i:Int))) where
 mem:=ae
 obj:=λi h st b hb=>by
  have e:b=it:=by simpa using hb
  subst e;obtain⟨o,ho,_,hd⟩:=st;exact⟨o,ho,λv z=>by rw[hd]at z;cases z⟩
 keep:=λi h h' st k=>st.at λo e=>k it ae _ e
 item:=by
  intro X hP hw hK hc i pins s σ H E I hf st hg;subst hP hw hK;obtain⟨f0,f1,f2,f3,f4,f5⟩:=hf it ae
  obtain⟨hi,xs,hq,hl⟩:=hg;obtain⟨its,r,p,_⟩:=I.list hq;have hlen:=r.length;have hx:xs[n-1-i]? =some (xs[n-1-i]'aa):=bJ aa
  obtain⟨u1,hu1,ru1⟩:=r.get hx;have e1:(n:Int)-1-(i:Int)=((n-1-i:Nat):Int):=aa
  have st':=st;rw[e1]at st';refine wpAny_pyNext_rev_item (items:=its.toArray) (x:=u1) st' p.isList (by simpa using hu1) λh' hr m=> ?_
  have I1:Inv X pins σ H {s with heap:=h'}:=I.turned (t':=s.toks) (λb o hb e=>m.extBut _ _ (by simpa using hb) e) f0 f1 f3 f4 f5
  have e2:((n-1-i:Nat):Int)-1=(n:Int)-1-((i+1:Nat):Int):=aa
  rw[e2]at hr;obtain⟨o,ho,hoc,hod⟩:=id hr;exact⟨_,rfl,aF8 (s:={s with heap:=h'}) (n:="list_reverseiterator") ho hoc hod ac ⟨xs[n-1-i]'aa,H,I1,ru1,⟨rfl,λys hy=>by rw[I.list_inj hy hq];exact hx⟩,hr,λb hb=>(hf b hb).1⟩⟩
 done:=by
  intro X hP hw hK hc i pins s σ H E I hf st hg;subst hP hw hK;obtain⟨f0,f1,f2,f3,f4,f5⟩:=hf it ae
  have hg':i=n:=hg;have st':=st;rw[hg',show(n:Int)-1-(n:Int)= -1 by omega]at st'
  exact wpAny_pyNext_rev_end (I.ok.hd hc) st' λh' eb=>⟨rfl,I.turned (t':=s.toks) (λb o hb e=>eb b o hb e) f0 f1 f3 f4 f5⟩
 self:=λ_ _ _ _ _ st h=>wpAny_pyIter_revIter st h
end L2
namespace M
open PySem PySem.Spec PyProof.Rows L2
section
variable {X:Cx}{A:AS}{H:Hp}{K:Frag}{pos:Pos}{a:Expr}
theorem bC6 {l1:Addr}{vs:List V}{l:List D}(c1:SqA K A H false l1 vs)(r1:bI K A H l vs):aM0 K A H (ItvL K l1 vs.length) l.length (λi=>l.getD (l.length-1-i) .non):=by
 have k1:=r1.length;refine⟨λA' H' i P hi=>⟨aa,vs,c1.sqv P,rfl⟩,λA' H' i x H'' P hA hi y=> ?_,λA' H' P=>k1⟩
 obtain⟨x1,e1,q1⟩:=r1.at (i:=l.length-1-i) aa
 obtain⟨e,ha⟩:=y;subst e;have ea:=ha vs (c1.sqv P);rw[<-k1,e1]at ea;cases ea;exact⟨.refl _,q1.mono P⟩
end
end M
end
section
namespace M
open PySem PySem.Spec PyProof.Rows L2
section
variable {X:Cx}{e a b:Expr}{te ta tb:UE}{t u:US}{sts:List Stmt}{pos:Pos}
theorem gE {op:CmpOp}{g:D->D->(B->Prop)->Prop}(ho:OpU X (compareOp op) g)(ha:PU X a ta)(hb:PU X b tb)(hm:behindInMarks op b=false:=by exact bF7 _):PUT X (.Compare a [op] [b] pos) (cS<|uOp g ta tb):=a49 ho ha hb hm
theorem b13 {op:CmpOp}{g:D->D->(B->Prop)->Prop}(ho:OpU X (compareOp op) g)(ha:PU X a ta)(hb:PU X b tb)(hm:behindInMarks op b=false:=by exact bF7 _):PU X (.Compare a [op] [b] pos) (uOp g ta tb):=pu_cmp ho ha hb hm
theorem cI {x:Str}{pos':Pos}(i:Nat)(hN:X.N.Nodup)(he:PU X e te)(r:pB X sts u)(hi:X.N[i]? =some x:=by rfl)(hx:Loc X.env.scope x:=by walk_at "z")(hs:swapsWith e (some<|.Name x pos') pos.line X.env=pure false:=by rfl)(hf:X.fn x=true\/X.env.scope.names.lookup x=some .local:=by walk_at "z")
  (hl: ∀pins σ H s,Inv X pins σ H s->i<σ.length:=by exact ilB rfl):pB X (.Assign [.Name x pos'] e pos::sts) (aX (cP i te) u):=cH (aE3 i hN he hi hx hs hf hl) r
theorem gF (h:PU X e te):pB X [.Return (some e) pos] (fA te):=bX (us_ret h)
theorem aE5 {c:Expr}{tc:UT}(hc:PUT X c tc)(ha:pB X sts t):PUS X (.If c sts [] pos) (gT tc t dP):=bZ8 hc ha us_nil
theorem gZ {c:Expr}{tc:UT}{r:List Stmt}(hc:PUT X c tc)(ha:pB X sts t)(hr:pB X r u):pB X (.If c sts [] pos::r) (aX (gT tc t dP) u):=cH (aE5 hc ha) hr
theorem sX {x:Str}{p:Pos}{iter:Expr}{ui:UI}(i:Nat)(hN:X.N.Nodup)(hi:PUI X (.Name x p) iter ui)(hb:pB X sts t)(hp:PassesOwn (model X.prog X.w) X.A X.env X.xe:=by exact oC)(hc:X.calm=true:=by rfl)(hx:X.N[i]? =some x:=by rfl)(hl:Loc X.env.scope x:=by walk_at "z")
  (hs: ∀x,foldedSetIterable iter X.env x=pure x:=by intro _;rfl) (hf:X.fn x=true\/X.env.scope.names.lookup x=some .local:=by walk_at "z"):PUS X (.For (.Name x p) iter sts [] pos) (jZ ui (dX i) t):=aZ0 hp hc hi (yA i<|cQ hN hx hl hf) hb hs
theorem yI {elt iter:Expr}{ifs:List Expr}{scope:Scope}{x:Str}{p:Pos}(N:List Str)(esc:List (Str×NameKind))(XN:List Str){js:List Nat}{cap:List (Option Nat)}{last i:Nat}{ui:UI}{tt:UT}(hi:PUI X (.Name x p) iter ui)(ht: ∀cl C s H fp pins,PTs (bM X N scope cl C s H fp pins) ifs<|lT X.K tt)(he: ∀cl C s H fp pins,PU (bM X N scope cl C s H fp pins) elt te)
  (he0:X.env.scope.names=esc:=by rfl) (hx0:X.N=XN:=by rfl) (lk:nV esc XN N cap scope last=true:=by decide +kernel) (hl:last<cap.length:=by decide) (hT:last ∉ [i]:=by decide) (hc:X.calm=true:=by rfl) (hN:N.Nodup:=by decide +kernel) (hx:N[i]? =some x:=by rfl) (hy: ∀cl C s H fp pins,Loc (bM X N scope cl C s H fp pins).env.scope x:=by intro _ _ _ _ _ _;first|exact Or.inl rfl|exact Or.inr rfl)
  (hs: ∀x,foldedSetIterable iter X.env x=pure x:=by intro _;rfl) (hf: ∀cl C s H fp pins,(bM X N scope cl C s H fp pins).fn x=true\/(bM X N scope cl C s H fp pins).env.scope.names.lookup x=some .local:=by intro _ _ _ _ _ _;first|exact .inl rfl|exact .inr rfl|assumption):PU X (.ListComp elt [⟨.Name x p,iter,ifs,0⟩] scope pos) (iJ js cap last ui (dX i) tt te):=
 a74 he0 hx0 lk hl hT hc hi (λ_ _ _ _ _ _=>yA i (cQ hN hx (hy ..)<|hf ..)) ht he hs
end
section
variable {X:Cx}{K:Frag}{ρ ρ':Ev}{σ σ':L2.St}{H H':Hp}
variable {o e e2:Expr}{te te2:UE}{x y:Str}{px py py2 apos cpos bpos fpos apos2 cpos2 epos:Pos}
end
end M
end
section
namespace L2
open PySem PySem.Spec PyProof.Rows
end L2
namespace M
open PySem PySem.Spec PyProof.Rows L2
section
variable {X:Cx}{K:Frag}{last:Nat}{ui ui2:UI}{g g2:UG}{T T2:List Nat}{tt tt2:UT}{te:UE}
variable {elt iter tg iter2 tg2:Expr}{ifs ifs2:List Expr}{scope:Scope}{pos spos py:Pos}{y:Str}{esc:List (Str×NameKind)}{N XN:List Str}{js:List Nat}{cap:List (Option Nat)}
end
end M
end
section
namespace M
open PySem PySem.Spec PyProof.Rows L2
abbrev GP:=List (Addr×List V)
def GP.has (g:GP)(x:Addr):Prop:= ∃l,(x,l)∈g
def inP (H0:Hp)(g:GP)(x:Addr)(o:HO):Prop:=(∃l,(x,l)∈g/\o= .lst l)\/(¬g.has x/\H0 x=some o)
open Classical in
noncomputable def b14 (H0:Hp) (g:GP):Hp:=λx=>if h: ∃o,inP H0 g x o then some h.choose else none
structure aM9 (g:GP)(H0:Hp):Prop where
 nd:(g.map Prod.fst).Nodup
 new: ∀x,g.has x->H0 x=none
theorem b15: ∀{g:GP},(g.map Prod.fst).Nodup-> ∀{x:Addr} {l l':List V},(x,l)∈g->(x,l')∈g->l=l'
 | [],_,_,_,_,h,_=>by cases h
 | p::g,nd,x,l,l',h,h'=>by
  rw[cD,oB]at nd;rcases aR.mp h with e|h1
  ·rcases aR.mp h' with e'|h2
   ·rw[<-e]at e';cases e';rfl
   ·exact absurd (eC.mpr ⟨_,h2,rfl⟩) (by rw[<-e]at nd;exact nd.1)
  ·rcases aR.mp h' with e'|h2
   ·exact absurd (eC.mpr ⟨_,h1,rfl⟩) (by rw[<-e']at nd;exact nd.1)
   ·exact b15 nd.2 h1 h2
section
variable {K:Frag}{C C':C0}{ρ ρ':Ev}{σ σ':L2.St}{H H' H0:Hp}{g g':GP}{ds:List (List D)}{r:Nat}
theorem cA (nd:(g.map Prod.fst).Nodup){x:Addr}{o:HO}:b14 H0 g x=some o↔inP H0 g x o:=by
 have uniq: ∀o o',inP H0 g x o->inP H0 g x o'->o=o':=λo o' h h'=>by
  rcases h with⟨l,m,rfl⟩| ⟨n,e⟩
  ·rcases h' with⟨l',m',rfl⟩| ⟨n',_⟩
   ·rw[b15 nd m m']
   ·exact absurd ⟨l,m⟩ n'
  ·rcases h' with⟨l',m',_⟩| ⟨_,e'⟩
   ·exact absurd ⟨l',m'⟩ n
   ·rw[e]at e';cases e';rfl
 unfold b14;constructor
 ·intro h;split at h
  ·rename_i hx
   cases h;exact hx.choose_spec
  ·cases h
 ·intro h;rw[dif_pos ⟨o,h⟩,uniq _ _ (Exists.choose_spec (⟨o,h⟩: ∃o,inP H0 g x o)) h]
theorem jW (nd:(g.map Prod.fst).Nodup){x:Addr}(h:b14 H0 g x=none): ¬g.has x/\H0 x=none:=by
 have no: ∀o,¬inP H0 g x o:=λo q=>by rw[(cA nd).mpr q]at h;cases h
 have n: ¬g.has x:=λ⟨l,m⟩=>no _ (.inl ⟨l,m,rfl⟩)
 refine⟨n,?_⟩
 cases e:H0 x with
 | none=>rfl
 | some o=>exact absurd (.inr ⟨n,e⟩) (no o)
noncomputable def C0.inp (C:C0) (g:GP):C0:=⟨b14 C.H0 g,λx=>C.A0 x\/g.has x⟩
def cK (g:GP):List D:=g.map λp=> .adr p.1
def RLp (K:Frag)(A:AS)(H:Hp):List (List D)->GP->Prop
 | [],[]=>True
 | d::ds,p::g=>bI K A H d p.2/\RLp K A H ds g
 | _,_=>False
theorem RLp.mono {A A':AS}(P:j9 A H A' H'): ∀{ds:List (List D)} {g:GP},RLp K A H ds g->RLp K A' H' ds g
 | [],[],h=>h
 | _::_,_::_,h=>⟨h.1.mono P,RLp.mono P h.2⟩
 | [],_::_,h=>h
 | _::_,[],h=>h
theorem RLp.snoc {A:AS}{d:List D}{p:Addr×List V}(q:bI K A H d p.2): ∀{ds:List (List D)} {g:GP},RLp K A H ds g->RLp K A H (ds++[d]) (g++[p])
 | [],[],_=>⟨q,trivial⟩
 | _::_,_::_,h=>⟨h.1,RLp.snoc q h.2⟩
 | [],_::_,h=>h.elim
 | _::_,[],h=>h.elim
theorem RLp.set {A:AS}{d:List D}{p:Addr×List V}(q:bI K A H d p.2): ∀{ds:List (List D)} {g:GP} (n:Nat),RLp K A H ds g->RLp K A H (ds.set n d) (g.set n p)
 | [],[],_,h=>h
 | _::_,_::_,0,h=>⟨q,h.2⟩
 | _::_,_::_,n+1,h=>⟨h.1,RLp.set q n h.2⟩
 | [],_::_,_,h=>h.elim
 | _::_,[],_,h=>h.elim
theorem RLp.get {A:AS}{d:List D}: ∀{ds:List (List D)} {g:GP} {n:Nat},RLp K A H ds g->ds[n]? =some d-> ∃p,g[n]? =some p/\bI K A H d p.2
 | [],[],_,_,e=>by cases e
 | x::_,p::_,0,h,e=>by cases e;exact⟨p,rfl,h.1⟩
 | _::_,_::_,n+1,h,e=>RLp.get (n:=n) h.2 e
 | [],_::_,_,h,_=>h.elim
 | _::_,[],_,h,_=>h.elim
theorem RLp.len {A:AS}: ∀{ds:List (List D)} {g:GP},RLp K A H ds g->ds.length=g.length
 | [],[],_=>rfl
 | _::_,_::_,h=>bC (· +1) (RLp.len h.2)
 | [],_::_,h=>h.elim
 | _::_,[],h=>h.elim
structure mS (K:Frag)(C:C0)(r:Nat)(g:GP)(ds:List (List D))(ρ:Ev)(σ:L2.St)(H:Hp):Prop where
 sl:ρ[r]? =some (some<|.ow<|ds.map .lst)
 gok:aM9 g C.H0
 nb:b05 ρ
 a0: ∀a,C.A0 a->C.H0 a≠none
 ok:EOk K (C.inp g) (ρ.set r<|some<|.ow<|cK g) σ H
 rl:RLp K (Av (C.inp g) (ρ.set r<|some<|.ow<|cK g) σ) H ds g
def aI5 (K:Frag)(C:C0)(r:Nat)(ρ:Ev)(σ:L2.St)(H:Hp):Prop:= ∃g ds,mS K C r g ds ρ σ H
theorem mS.lt (I:mS K C r g ds ρ σ H):r<ρ.length:=(fF.mp I.sl).1
theorem mS.at_r (I:mS K C r g ds ρ σ H):(ρ.set r<|some<|.ow<|cK g)[r]? =some (some<|.ow<|cK g):=bV I.lt
theorem oS: ∀{g:GP} {A:AS} {vs:List V},bI K A H (cK g) vs->vs=g.map λp=>V.ref p.1
 | [],_,_,h=>h.unnil
 | p::g,A,vs,h=>by
  obtain⟨v,vr,rfl,rv,rr⟩:=bI.uncons (l:=cK g) h;have:v= .ref p.1:=by simpa only[Rep]using rv
  rw[this,oS rr];rfl
theorem pY {A:AS}: ∀g:GP,bI K A H (cK g) (g.map λp=>V.ref p.1)
 | []=> .nil
 | p::g=> .cons (d:= .adr p.1) (by simp only[Rep]) (pY g)
theorem mS.inner (I:mS K C r g ds ρ σ H){x:Addr}{l:List V}(h:(x,l)∈g):H x=some (.lst l):=I.ok.ext x _ ((cA I.gok.nd).mpr<|.inl ⟨l,h,rfl⟩)
theorem mS.own (I:mS K C r g ds ρ σ H){a:Addr}(h:Own ρ σ a):Own (ρ.set r<|some<|.ow<|cK g) σ a:=by
 obtain⟨i,l,h1,h2⟩:=h
 by_cases e:r=i
 ·subst e;exact⟨r,_,I.at_r,h2⟩
 ·exact⟨i,l,by rw[get_set_ne e];exact h1,h2⟩
theorem mS.notOwn (I:mS K C r g ds ρ σ H){a:Addr}(h:g.has a): ¬Own (ρ.set r<|some<|.ow<|cK g) σ a:=by
 rintro⟨i,l,h1,h2⟩;obtain⟨a',vs,h3,h4,h5,_⟩:=I.ok.ow i l h1;rw[h2]at h3;cases h3;exact(jW I.gok.nd h5).1 h
theorem mS.av (I:mS K C r g ds ρ σ H){a:Addr}(h:Av C ρ σ a):Av (C.inp g) (ρ.set r<|some<|.ow<|cK g) σ a:=h.imp .inl I.own
theorem mS.free (I:mS K C r g ds ρ σ H){a:Addr}(h:g.has a): ¬Av C ρ σ a:=by
 rintro(z|z)
 ·exact I.a0 a z (I.gok.new a h)
 ·exact I.notOwn h (I.own z)
theorem a82 (I:mS K C r g ds ρ σ H): ∀{es:List (List D)} {g':GP},(∀p∈g',p∈g)->RLp K (Av (C.inp g) (ρ.set r<|some<|.ow<|cK g) σ) H es g'->bI K (Av C ρ σ) H (es.map .lst) (g'.map λp=>V.ref p.1)
 | [],[],_,_=> .nil
 | [],_::_,_,h=>h.elim
 | _::_,[],_,h=>h.elim
 | d::es,p::g',h,q=>by
  refine .cons (d:= .lst d) ?_ (a82 I (λq hq=>h q (b6 _ hq)) q.2)
  have hp:=h p (aP ..);simp only[Rep];exact⟨p.1,p.2,rfl,I.free ⟨p.2,hp⟩,I.inner hp,q.1.mono<|.sub (.refl _) λa z=>I.av z⟩
theorem mS.out (I:mS K C r g ds ρ σ H):EOk K C ρ σ H:=by
 have sub: ∀a,Av C ρ σ a->Av (C.inp g) (ρ.set r<|some<|.ow<|cK g) σ a:=λa z=>I.av z
 refine⟨by have:=I.ok.len;rw[bT]at this;exact this,λi d h=> ?_,λi l h=> ?_,λi j l l' a h1 h2 h3 h4=> ?_,λi l h=>absurd h (I.nb i l),λb o e=> ?_,I.a0⟩
 ·have e:r≠i:=λz=>by subst z;rw[I.sl]at h;cases h
  obtain⟨v,h1,h2⟩:=I.ok.pu i d (by rw[get_set_ne e];exact h)
  exact⟨v,h1,h2.mono<|.sub (.refl _) sub⟩
 ·by_cases e:r=i
  ·subst e;rw[I.sl]at h;cases h;obtain⟨a,vs,h1,h2,h3,h4⟩:=I.ok.ow r _ I.at_r;have ev:=oS h4;subst ev;exact⟨a,_,h1,h2,(jW I.gok.nd h3).2,a82 I (λ_ h=>h) I.rl⟩
  ·obtain⟨a,vs,h1,h2,h3,h4⟩:=I.ok.ow i l (by rw[get_set_ne e];exact h)
   exact⟨a,vs,h1,h2,(jW I.gok.nd h3).2,h4.mono<|.sub (.refl _) sub⟩
 ·have up: ∀{i:Nat} {l:List D},ρ[i]? =some (some<|.ow l)-> ∃l2,(ρ.set r<|some<|.ow<|cK g)[i]? =some (some<|.ow l2):=λ{i l} h=>by
   by_cases e:r=i
   ·subst e;exact⟨_,I.at_r⟩
   ·exact⟨l,by rw[get_set_ne e];exact h⟩
  obtain⟨_,q1⟩:=up h1;obtain⟨_,q2⟩:=up h2;exact I.ok.inj i j _ _ a q1 q2 h3 h4
 ·refine I.ok.ext b o ((cA I.gok.nd).mpr<|.inr ⟨λz=> ?_,e⟩)
  rw[I.gok.new b z]at e;cases e
theorem mS.same (I:mS K C r g ds ρ σ H)(s:gC H H'):mS K C r g ds ρ σ H':=⟨I.sl,I.gok,I.nb,I.a0,I.ok.same s,I.rl.mono<|.same s⟩
theorem bW5:C.inp []=C:=by
 obtain⟨H0,A0⟩:=C;have e1:b14 H0 []=H0:=by
  funext x
  cases e:H0 x with
  | none=>
   cases e2:b14 H0 [] x with
   | none=>rfl
   | some o=>
    rcases(cA (g:=[]) nodup_nil).mp e2 with⟨l,m,_⟩| ⟨_,h⟩
    ·cases m
    ·rw[e]at h;cases h
  | some o=>exact(cA (g:=[]) nodup_nil).mpr (.inr ⟨λ⟨l,m⟩=>(by cases m),e⟩)
 have e2:(λx=>A0 x\/GP.has [] x)=A0:=by
  funext x
  exact propext ⟨λh=>h.elim id λ⟨l,m⟩=>(by cases m),.inl⟩
 show C0.mk (b14 H0 []) (λx=>A0 x\/GP.has [] x)=⟨H0,A0⟩
 rw[e1,e2]
theorem EOk.addP {a:Addr}{l:List V}(I:EOk K (C.inp g) ρ σ H)(ok:aM9 g C.H0)(s:gC H H')(n:H a=none)(e:H' a=some (.lst l)) :
  EOk K (C.inp<|g++[(a,l)]) ρ σ H'/\aM9 (g++[(a,l)]) C.H0:=by
 have hi: ∀{x:Addr} {o:HO},(C.inp g).H0 x=some o->H x=some o:=λ{x o} h=>I.ext x o h
 have na: ¬g.has a:=λ⟨l',m⟩=>by
  have:=hi ((cA ok.nd).mpr<|.inl ⟨l',m,rfl⟩);rw[n]at this;cases this
 have n0:C.H0 a=none:=by
  cases q:C.H0 a with
  | none=>rfl
  | some o=>
   have:=hi ((cA ok.nd).mpr<|.inr ⟨na,q⟩);rw[n]at this;cases this
 have has': ∀x,GP.has (g++[(a,l)]) x↔g.has x\/x=a:=λx=>by
  constructor
  ·rintro⟨l',m⟩;rcases cB.mp m with m|m
   ·exact .inl ⟨l',m⟩
   ·cases d7.mp m;exact .inr rfl
  ·rintro(⟨l',m⟩|rfl)
   ·exact⟨l',iP _ m⟩
   ·exact⟨l,cL _<|d7.mpr rfl⟩
 have ok':aM9 (g++[(a,l)]) C.H0:=by
  refine⟨?_,λx h=> ?_⟩
  ·rw[bU,List.nodup_append];refine⟨ok.nd,ae,λx hx y hy=> ?_⟩
   have:y=a:=by simpa using hy
   subst this;intro z;subst z;obtain⟨p,hp,rfl⟩:=eC.mp hx;exact na ⟨p.2,hp⟩
  ·rcases(has' x).mp h with h|rfl
   ·exact ok.new x h
   ·exact n0
 have up: ∀{x:Addr} {o:HO},inP C.H0 g x o->H x=some o->inP C.H0 (g++[(a,l)]) x o:=λ{x o} h hx=>by
  rcases h with⟨l',m,rfl⟩| ⟨nh,q⟩
  ·exact .inl ⟨l',iP _ m,rfl⟩
  ·exact .inr ⟨λz=>((has' x).mp z).elim nh λz=>(by subst z;rw[n]at hx;cases hx),q⟩
 have P:j9 (Av (C.inp g) ρ σ) H (Av (C.inp<|g++[(a,l)]) ρ σ) H':=λb o nb q=>⟨by
  rintro((z|z)|z)
  ·exact nb (.inl<|.inl z)
  ·rcases(has' b).mp z with z|rfl
   ·exact nb (.inl<|.inr z)
   ·rw[n]at q;cases q
  ·exact nb (.inr z),s b o q⟩
 refine⟨⟨I.len,λi d h=> ?_,λi m h=> ?_,I.inj,λi m h=> ?_,λb o q=> ?_,λb h=> ?_⟩,ok'⟩
 ·obtain⟨v,h1,h2⟩:=I.pu i d h;exact⟨v,h1,h2.mono P⟩
 ·obtain⟨b,vs,h1,h2,h3,h4⟩:=I.ow i m h;refine⟨b,vs,h1,s _ _ h2,?_,h4.mono P⟩;cases q:(C.inp<|g++[(a,l)]).H0 b with
  | none=>rfl
  | some o=>
   obtain⟨nh,h0⟩:=jW ok.nd h3;rcases(cA ok'.nd).mp q with⟨l',mm,_⟩| ⟨_,q'⟩
   ·rcases(has' b).mp ⟨l',mm⟩with z|rfl
    ·exact absurd z nh
    ·rw[n]at h2;cases h2
   ·rw[h0]at q';cases q'
 ·obtain⟨b,vs,h1,h2,h3,h4⟩:=I.bo i m h;exact⟨b,vs,h1,h2.imp id λz=>(has' b).mpr (.inl z),(cA ok'.nd).mpr<|up ((cA ok.nd).mp h3)<|hi h3,h4.mono P⟩
 ·rcases(cA ok'.nd).mp q with⟨l',m,rfl⟩| ⟨nh,q'⟩
  ·rcases cB.mp m with m|m
   ·exact s _ _ (hi<|(cA ok.nd).mpr<|.inl ⟨l',m,rfl⟩)
   ·cases d7.mp m;exact e
  ·exact s _ _ (hi<|(cA ok.nd).mpr<|.inr ⟨λz=>nh ((has' b).mpr<|.inl z),q'⟩)
 ·intro z;obtain⟨nh,h0⟩:=jW ok'.nd z;rcases h with h|h
  ·cases q:(C.inp g).H0 b with
   | none=>exact I.a0 b (.inl h) q
   | some o=>
    rcases(cA ok.nd).mp q with⟨l',m,_⟩| ⟨_,q'⟩
    ·exact nh ((has' b).mpr<|.inl ⟨l',m⟩)
    ·rw[h0]at q';cases q'
  ·exact nh h
theorem EOk.enterP {Dn:Addr}(I:EOk K C ρ σ H)(s:gC H H')(nD:H Dn=none)(eD:H' Dn=some (.lst<|g.map λp=>V.ref p.1))(ok:aM9 g H)(hD: ¬g.has Dn)(hg: ∀x l,(x,l)∈g->H' x=some (.lst l))(nb:b05 ρ)(hr:r<ρ.length)(rl:RLp K (λb=>(Av C ρ σ b\/g.has b)\/b=Dn) H' ds g) :
  mS K C r g ds (ρ.set r<|some<|.ow<|ds.map .lst) (σ.set r<|some<|.ref Dn) H':=by
 have hr':r<σ.length:=by rw[<-I.len];exact hr
 have n0: ∀{x:Addr},H x=none->C.H0 x=none:=λ{x} h=>by
  cases q:C.H0 x with
  | none=>rfl
  | some o=>rw[I.ext x o q]at h;cases h
 have ok':aM9 g C.H0:=⟨ok.nd,λx h=>n0 (ok.new x h)⟩
 have setset:(ρ.set r<|some<|.ow<|ds.map .lst).set r (some<|.ow<|cK g)=ρ.set r (some<|.ow<|cK g):=l9 ..;have sub: ∀a,Own (ρ.set r<|some<|.ow<|cK g) (σ.set r<|some<|.ref Dn) a->Own ρ σ a\/a=Dn:=by
  rintro a ⟨j,l,h1,h2⟩;rcases aN h1 with⟨rfl,h3,_⟩| ⟨ne,h3⟩
  ·rw[bV hr']at h2;cases h2;exact .inr rfl
  ·rw[get_set_ne ne]at h2;exact .inl ⟨j,l,h3,h2⟩
 have P:j9 (Av C ρ σ) H (Av (C.inp g) (ρ.set r<|some<|.ow<|cK g)<|σ.set r<|some<|.ref Dn) H':=λb o nb q=>⟨(by
  rintro((z|z)|z)
  ·exact nb (.inl z)
  ·rw[ok.new b z]at q;cases q
  ·rcases sub b z with z|rfl
   ·exact nb (.inr z)
   ·rw[nD]at q;cases q),s b o q⟩
 have rl':RLp K (Av (C.inp g) (ρ.set r<|some<|.ow<|cK g)<|σ.set r<|some<|.ref Dn) H' ds g:=rl.mono (.sub (.refl _) λa z=>by
  rcases z with(z|z)|z
  ·exact .inl (.inl<|.inl z)
  ·exact .inl (.inr z)
  ·rcases sub a z with z|rfl
   ·exact .inl (.inl<|.inr z)
   ·exact .inr rfl)
 refine⟨bV hr,ok',λi l h=> ?_,I.a0,?_,by rw[setset];exact rl'⟩
 ·rcases aN h with⟨rfl,h3,_⟩| ⟨ne,h3⟩
  ·cases h3
  ·exact nb i l h3
 rw[setset];refine⟨by rw[bT,bT];exact I.len,λi d h=> ?_,λi m h=> ?_,λj k l l' a h1 h2 h3 h4=> ?_,λi m h=> ?_,λb o q=> ?_,λb h z=> ?_⟩
 ·rcases aN h with⟨rfl,h3,_⟩| ⟨ne,h3⟩
  ·cases h3
  ·obtain⟨v,h1,h2⟩:=I.pu i d h3;exact⟨v,by rw[get_set_ne ne];exact h1,h2.mono P⟩
 ·have no: ∀{b:Addr},H b≠none\/b=Dn->C.H0 b=none->(C.inp g).H0 b=none:=λ{b} hb h0=>by
   cases q:(C.inp g).H0 b with
   | none=>rfl
   | some o=>
    rcases(cA ok.nd).mp q with⟨l',mm,_⟩| ⟨_,q'⟩
    ·rcases hb with hb|rfl
     ·exact absurd (ok.new b ⟨l',mm⟩) hb
     ·exact absurd ⟨l',mm⟩ hD
    ·rw[h0]at q';cases q'
  rcases aN h with⟨rfl,h3,_⟩| ⟨ne,h3⟩
  ·cases h3;exact⟨Dn,_,bV hr',eD,no (.inr rfl)<|n0 nD,pY g⟩
  ·obtain⟨b,vs,h1,h2,h3',h4⟩:=I.ow i m h3;exact⟨b,vs,by rw[get_set_ne ne];exact h1,s _ _ h2,no (.inl (by rw[h2];simp)) h3',h4.mono P⟩
 ·have old: ∀{j:Nat} {l:List D},ρ[j]? =some (some<|.ow l)->σ[j]? ≠some (some<|.ref Dn):=λ{j l} h z=>by
   obtain⟨b,vs,h4,h5,_⟩:=I.ow j l h;rw[z]at h4;cases h4;rw[nD]at h5;cases h5
  rcases aN h1 with⟨rfl,z,_⟩| ⟨ne,z⟩
  ·rw[bV hr']at h3;cases h3;rcases aN h2 with⟨rfl,z',_⟩| ⟨ne',z'⟩
   ·rfl
   ·rw[get_set_ne ne']at h4;exact absurd h4 (old z')
  ·rw[get_set_ne ne]at h3;rcases aN h2 with⟨rfl,z',_⟩| ⟨ne',z'⟩
   ·rw[bV hr']at h4;cases h4;exact absurd h3 (old z)
   ·rw[get_set_ne ne']at h4;exact I.inj j k l l' a z z' h3 h4
 ·rcases aN h with⟨rfl,h3,_⟩| ⟨ne,h3⟩
  ·cases h3
  ·exact absurd h3 (nb i m)
 ·rcases(cA ok.nd).mp q with⟨l',m,rfl⟩| ⟨_,q'⟩
  ·exact hg b l' m
  ·exact s b o (I.ext b o q')
 ·obtain⟨nh,h0⟩:=jW ok.nd z;rcases h with h|h
  ·exact I.a0 b h h0
  ·exact nh h
end
section
variable {X:Cx}{K:Frag}{C C':C0}{ρ ρ':Ev}{σ σ':L2.St}{H H' H0:Hp}{g g':GP}{ds:List (List D)}{r:Nat}{st:Stmt}{sts:List Stmt}{e:Expr}{pos:Pos}{t u:US}{te ti tj:UE}{tc:UT}
structure DOkP (K:Frag)(C:C0)(r:Nat)(D0:UD)(D:aX7):Prop where
 nx: ∀ρ σ H,D0.nx ρ->aI5 K C r ρ σ H->D.nx σ H
 rt: ∀b v H,D0.rt b->gC C.H0 H->pA K C.A0 C.H0 H b v->D.rt v H
def lPN (K:Frag)(r:Nat)(t:US):TS:=λD σ H=> ∃C ρ D0,aI5 K C r ρ σ H/\t D0 ρ/\DOkP K C r D0 D
def bW6 (X:Cx)(r:Nat)(st:Stmt)(t:US):Prop:=PS X st (lPN X.K r t)
def b65 (X:Cx)(r:Nat)(sts:List Stmt)(t:US):Prop:=PSs X sts (lPN X.K r t)
theorem up_nil:b65 X r [] dP:=a69 b40 λD σ H ⟨C,ρ,D0,I,h,k⟩=>k.nx ρ σ H h I
theorem up_one (h1:bW6 X r st t):b65 X r [st] t:=b41 h1
theorem bW7 (h1:bW6 X r st t)(h2:pB X sts u):PSs X (st::sts) (λD σ H=> ∃C ρ D0,aI5 X.K C r ρ σ H/\aX t u D0 ρ/\DOk X.K C D0 D):=
 a69 (a63 h1 h2) λD σ H ⟨C,ρ,D0,I,h,k⟩=>⟨C,ρ,{D0 with nx:=u D0},I,h,⟨λρ' σ' H' q ⟨g,ds,I'⟩=>⟨C,ρ',D0,I'.out,q,k⟩,k.rt⟩⟩
def c02 (K:Frag)(r:Nat)(t:US):TS:=λD σ H=> ∃C ρ D0,EOk K C ρ σ H/\t D0 ρ/\ ∀ρ' σ' H',D0.nx ρ'->aI5 K C r ρ' σ' H'->D.nx σ' H'
theorem bC7 (h1:PS X st (c02 X.K r t))(h2:PSs X sts (λD σ H=> ∃C ρ D0,aI5 X.K C r ρ σ H/\u D0 ρ/\DOk X.K C D0 D)):pB X (st::sts) (aX t u):=
 a69 (a63 h1 h2) λD σ H ⟨C,ρ,D0,I,h,k⟩=>⟨C,ρ,{D0 with nx:=u D0},I,h,λρ' σ' H' q I'=>⟨C,ρ',D0,I',q,k⟩⟩
def uIfP (c:UT)(t u:US):US:=λD ρ=>c ρ λb _=>if b=true then t D ρ else u D ρ
theorem up_if {c:Expr}{a b:List Stmt}(hc:PUT X c tc)(ha:b65 X r a t)(hb:b65 X r b u):bW6 X r (.If c a b pos) (uIfP tc t u):=
 qP (bZ3 hc ha hb) λD σ H ⟨C,ρ,D0,⟨g,ds,I⟩,h,k⟩=>⟨C,ρ,_,I.out,h,λc ρ1 H1 q f s=>by
  have I1:aI5 X.K C r ρ σ H1:=⟨g,ds,I.same s⟩;cases c with
  | true=>
   dsimp only at q⊢;rw[a8 rfl]at q⊢;exact⟨C,ρ,D0,I1,q,k⟩
  | false=>
   dsimp only at q⊢;rw[a7 aY]at q⊢;exact⟨C,ρ,D0,I1,q,k⟩⟩
theorem yJ {n:Nat}{b:Addr}{l l':List V}(h:g[n]? =some (b,l))(x:Addr):GP.has (g.set n (b,l')) x↔g.has x:=by
 have hn:=(fF.mp h).1;constructor
 ·rintro⟨m,hm⟩;rcases List.mem_or_eq_of_mem_set hm with hm|e
  ·exact⟨m,hm⟩
  ·cases e;exact⟨l,gM h⟩
 ·rintro⟨m,hm⟩;obtain⟨i,hi⟩:=List.getElem?_of_mem hm
  by_cases e:n=i
  ·subst e;rw[h]at hi;cases hi;exact⟨l',gM<|bV hn⟩
  ·exact⟨m,gM (i:=i) (by rw[get_set_ne e];exact hi)⟩
theorem aT3 {n:Nat}{b:Addr}{l l':List V}(h:g[n]? =some (b,l)):(g.set n (b,l')).map Prod.fst=g.map Prod.fst:=by
 rw[List.map_set];apply rP;intro i
 by_cases e:n=i
 ·subst e;rw[bV (by rw[aI];exact(fF.mp h).1),dD,h]
  rfl
 ·rw[get_set_ne e]
theorem mS.setCell {b:Addr}{l l':List V}{d':List D}{n:Nat}(I:mS K C r g ds ρ σ H)(hb:g[n]? =some (b,l))(hl:bI K (Av (C.inp g) (ρ.set r<|some<|.ow<|cK g) σ) H d' l') :
  mS K C r (g.set n (b,l')) (ds.set n d') (ρ.set r<|some<|.ow<|(ds.set n d').map .lst) σ (upd H b<|.lst l'):=by
 have hn:=(fF.mp hb).1;have hm:(b,l)∈g:=gM hb;have nd2:((g.set n (b,l')).map Prod.fst).Nodup:=by rw[aT3 hb];exact I.gok.nd
 have ok2:aM9 (g.set n (b,l')) C.H0:=⟨nd2,λx h=>I.gok.new x ((yJ hb x).mp h)⟩
 have ea:cK (g.set n (b,l'))=cK g:=by
  have:=bC (List.map D.adr) (aT3 (l':=l') hb);rw[cE,cE]at this;exact this
 have J:=I.ok;have P:j9 (Av (C.inp g) (ρ.set r<|some<|.ow<|cK g) σ) H (Av (C.inp<|g.set n (b,l')) (ρ.set r<|some<|.ow<|cK g) σ) (upd H b<|.lst l'):=λx o nx q=>
  ⟨λz=>nx (z.imp (λz=>z.imp id (yJ hb x).mp) id),by rw[dG λz=>nx (.inl<|.inr ⟨l,by rw[z];exact hm⟩)];exact q⟩
 refine⟨bV I.lt,ok2,aS8 I.nb,I.a0,?_,by rw[l9,ea];exact(I.rl.mono P).set (p:=(b,l')) (hl.mono P) n⟩
 rw[l9,ea];refine⟨J.len,λi d h=> ?_,λi m h=> ?_,J.inj,λi m h=>absurd h (aS8 I.nb i m),λx o q=> ?_,λx h=> ?_⟩
 ·obtain⟨v,h1,h2⟩:=J.pu i d h;exact⟨v,h1,h2.mono P⟩
 ·obtain⟨a,vs,h1,h2,h3,h4⟩:=J.ow i m h;obtain⟨nh,h0⟩:=jW I.gok.nd h3;refine⟨a,vs,h1,?_,?_,h4.mono P⟩
  ·rw[dG λz=>nh ⟨l,by rw[z];exact hm⟩];exact h2
  ·cases q:(C.inp<|g.set n (b,l')).H0 a with
   | none=>rfl
   | some o=>
    rcases(cA nd2).mp q with⟨l2,mm,_⟩| ⟨_,q'⟩
    ·exact absurd ((yJ hb a).mp ⟨l2,mm⟩) nh
    ·rw[h0]at q';cases q'
 ·have hb2:(b,l')∈g.set n (b,l'):=gM (bV hn)
  by_cases e:x=b
  ·subst e;rcases(cA nd2).mp q with⟨l2,mm,rfl⟩| ⟨nh,_⟩
   ·rw[b15 nd2 mm hb2,lZ]
   ·exact absurd ⟨l',hb2⟩ nh
  ·rw[dG e];rcases(cA nd2).mp q with⟨l2,mm,rfl⟩| ⟨nh,q'⟩
   ·rcases List.mem_or_eq_of_mem_set mm with mm|z
    ·exact J.ext _ _ ((cA I.gok.nd).mpr<|.inl ⟨l2,mm,rfl⟩)
    ·cases z;exact absurd rfl e
   ·exact J.ext _ _ ((cA I.gok.nd).mpr<|.inr ⟨λz=>nh ((yJ hb x).mpr z),q'⟩)
 ·intro z;obtain⟨nh,h0⟩:=jW nd2 z;exact h.elim (λh=>I.a0 x h h0) nh
def aN0 (r:Nat)(te ti tj:UE):US:=λD ρ=>te ρ λb _=> ∃v:Int,b= .pu (.int v)/\ti ρ λx _=> ∃(n:Nat) (ls:List (List M.D)) (row:List M.D),x= .pu (.int (n:Int))/\ρ[r]? =some (some<|.ow<|ls.map .lst)/\ls[n]? =some row/\tj ρ λy _=> ∃m:Nat,y= .pu (.int (m:Int))/\m<row.length/\D.nx (ρ.set r<|some<|.ow<|(ls.set n<|row.set m<|.int v).map .lst)
theorem b66: ∀{a b:List (List D)},a.map D.lst=b.map D.lst->a=b
 | [],[],_=>rfl
 | [],_::_,h=>by cases h
 | _::_,[],h=>by cases h
 | x::a,y::b,h=>by
  rw[cD,cD]at h
  injection h with h1 h2
  injection h1 with h1
  rw[h1,b66 h2]
theorem bW8 {x:Str}{p p1 tpos:Pos}{ix jx:Expr}(hx:PE X (.Name x p) (a26 r))(he:PU X e te)(hi:PU X ix ti)(hj:PU X jx tj)(hpi:a48 ix)
  (ha: ∀v,assign (.Subscript (.Subscript (.Name x p) ix p1) jx tpos) X.env v=(do
   let ov<-holding [v] (eval (.Subscript (.Name x p) ix p1) X.env)
   let iv<-holding [v,ov] (eval jx X.env)
   standAt tpos
   holding [v,ov,iv] (setItem ov iv v)
   release [v,ov,iv] []):=by intro _;rfl)
  (hs:swapsWithSole [.Subscript (.Subscript (.Name x p) ix p1) jx tpos] e pos.line X.env=pure false:=by rfl) (hw:swappedStores [.Subscript (.Subscript (.Name x p) ix p1) jx tpos] e X.env=pure none:=by rfl)
  (h1:(assignEach [.Subscript (.Subscript (.Name x p) ix p1) jx tpos] X.env).map (·.2)=[assign (.Subscript (.Subscript (.Name x p) ix p1) jx tpos) X.env]:=by rfl):bW6 X r (.Assign [.Subscript (.Subscript (.Name x p) ix p1) jx tpos] e pos) (aN0 r te ti tj):=
 qP (aX9 he (bF2 (bZ5 b46 hx hi hpi) hj a67 ha) hs hw h1) λD σ H ⟨C,ρ,D0,⟨g,ds,I⟩,h,k⟩=>⟨C,ρ,_,I.out,h,λb ρ1 v H1 q f s rb=>by
  obtain⟨v0,rfl,q⟩:=q;have hv:v= .int v0:=bF (K:=X.K) (A:=Av C ρ1 σ) (H:=H1) rb;subst hv;obtain⟨Dn,vs,h1,h2,h3,h4⟩:=I.ok.ow r _ I.at_r;have ev:=oS h4;subst ev;refine⟨.ref Dn,h1,C,ρ,_,(I.same s).out,q,λx1 ρ2 w H2 q2 f2 s2 r2=> ?_⟩
  obtain⟨n,ls,row,rfl,hr,hrow,q2⟩:=q2;have hw:w= .int (n:Int):=bF (K:=X.K) (A:=Av C ρ2 σ) (H:=H2) r2;subst hw;have I2:=(I.same s).same s2;rw[I.sl]at hr;have el:=b66 (B.ow.inj<|dZ<|dZ hr);subst el;obtain⟨⟨b,l⟩,hb,_⟩:=I2.rl.get hrow;refine⟨Dn,_,(n:Int),.ref b,rfl,rfl,SqL.of<|s2 _ _<|s _ _ h2,c6 (by rw[dD,hb];rfl),C,ρ,_,I2.out,q2,λy ρ3 w3 H3 q3 f3 s3 r3=> ?_⟩
  obtain⟨m,rfl,hm,q3⟩:=q3;have hw3:w3= .int (m:Int):=bF (K:=X.K) (A:=Av C ρ3 σ) (H:=H3) r3;subst hw3;have I3:=I2.same s3;obtain⟨⟨b',l2⟩,hb',rl3⟩:=I3.rl.get hrow;rw[hb]at hb';cases hb';have:=I3.setCell (l':=l.set m (.int v0)) hb (rl3.set m (d:= .int v0) (v:= .int v0)<|by simp only[Rep])
  exact⟨b,_,(m:Int),m,rfl,rfl,I3.inner<|gM hb,bW3 (by rw[<-rl3.length];exact hm),k.nx _ _ _ q3 ⟨_,_,this⟩⟩⟩
def aN1 (r:Nat)(cap:List (Option Nat))(last:Nat)(ui:UI)(te:UE):US:=λD ρ=>ui ρ λn it ρ1=>b05 ρ1/\r<ρ1.length/\n<=1000/\0<cap.length/\ ∃dF:Nat->List M.D,(∀(i:Nat) (l:List M.D) (Q:B->Ev->Prop),i<n->Q (.ow<|dF i) (((iI ρ1 cap last).set 0<|some<|.pu<|it i).set last<|some<|.ow l)->te (((iI ρ1 cap last).set 0<|some<|.pu<|it i).set last<|some<|.ow l) Q)/\D.nx (ρ1.set r<|some<|.ow<|((List.range n).map dF).map .lst)
theorem bC8 {x:Addr}{l:List V}(J:EOk K (C.inp g) ρ σ H)(nd:(g.map Prod.fst).Nodup)(h:(x,l)∈g):H x=some (.lst l):=J.ext x _ ((cA nd).mpr<|.inl ⟨l,h,rfl⟩)
theorem bL6 {elt iter tg:Expr}{scope:Scope}{spos py:Pos}{y:Str}{esc:List (Str×NameKind)}{N:List Str}{XN:List Str}{cap:List (Option Nat)}{last:Nat}{ui:UI}(l0:0<last)(he0:X.env.scope.names=esc)(hx0:X.N=XN)(lk:nV esc XN N cap scope last=true)(hl:last<cap.length)(hc:X.calm=true)(hi:PUI X tg iter ui)
  (hg: ∀cl C s H fp pins,PUG (bM X N scope cl C s H fp pins) tg [0]<|dX 0) (he: ∀cl C s H fp pins,PU (bM X N scope cl C s H fp pins) elt te)
  (hy:PG X (.Name y py) (u7 r)) (hsw:swapsWith (.ListComp elt [⟨tg,iter,[],0⟩] scope pos) (some<|.Name y py) spos.line X.env=pure true:=by rfl)
  (hs: ∀x,foldedSetIterable iter X.env x=pure x:=by intro _;rfl):PS X (.Assign [.Name y py] (.ListComp elt [⟨tg,iter,[],0⟩] scope pos) spos) (c02 X.K r<|aN1 r cap last ui te):=by
 refine qP (a73 (g:=lG X.K [0] (dX 0)) (tt:=lT X.K λρ Q=>Q true ρ) (tem:=tPut (lE X.K te)) (last:=last) (λ_ _ _=>rfl) hc hi (cW.of he0<|hx0▸lk).1 (cW.of he0<|hx0▸lk).2 hg (λcl C s H fp pins=>j4) (λcl C s H fp pins=>aM4 (he cl C s H fp pins)) hy hsw hs) λD σ H ⟨C,ρ,D0,I,h,k⟩=> ?_
 refine⟨C,ρ,_,I,h,λn it ρ1 J H1 q f s ok Dn nD=> ?_⟩
 obtain⟨nb,hr,n1,_,dF,hte,q⟩:=q;have I1:EOk X.K C ρ1 σ H1:=(I.frz f).same s;obtain⟨E0,e0⟩: ∃E0,E0=iI ρ1 cap last:=⟨_,rfl⟩;have E0l:last<E0.length:=by rw[e0];unfold iI;rw[bT,aI];exact hl
 have I2:EOk X.K ((⟨H1,Av C ρ1 σ⟩:C0).inp []) (E0.set last<|some<|.ow<|cK []) (mD σ cap last Dn) (upd H1 Dn<|.lst []):=by
  rw[bW5,e0];have:=bJ2 (cap:=cap) (last:=last) I1 hl nD;have e:(iI ρ1 cap last).set last (some<|.ow<|cK [])=iI ρ1 cap last:=by
   unfold iI;rw[l9];rfl
  rw[e];exact this
 have own0: ∀{g:GP} {ρ':Ev} {σ':L2.St} {H':Hp},aM9 g H1->EOk X.K ((⟨H1,Av C ρ1 σ⟩:C0).inp g) ρ' σ' H'->j9 (Av C ρ1 σ) H1 (Av ((⟨H1,Av C ρ1 σ⟩:C0).inp g) ρ' σ') H':=λ{g ρ' σ' H'} gok J' b o nb e=>by
  have ng: ¬g.has b:=λz=>by rw[gok.new b z]at e;cases e
  have e':((⟨H1,Av C ρ1 σ⟩:C0).inp g).H0 b=some o:=(cA gok.nd).mpr (.inr ⟨ng,e⟩);refine⟨?_,J'.ext b o e'⟩;rintro((z|z)| ⟨i,l,h1,h2⟩)
  ·exact nb z
  ·exact ng z
  ·obtain⟨a,vs,h3,h4,h5,_⟩:=J'.ow i l h1;rw[h2]at h3;cases h3;rw[h5]at e';cases e'
 have sal:(mD σ cap last Dn)[last]? =some (some<|.ref Dn):=by
  unfold mD;exact bV (by rw[aI];exact hl)
 let W:Nat->L2.St->Hp->Prop:=λi σ' H'=>σ'[last]? =some (some<|.ref Dn)/\ ∃(E:Ev) (g:GP),(E=E0\/ ∃x,E=E0.set 0 (some x))/\aM9 g H1/\ ¬g.has Dn/\RLp X.K (Av ((⟨H1,Av C ρ1 σ⟩:C0).inp g) (E.set last<|some<|.ow<|cK g) σ') H' ((List.range i).map dF) g/\EOk X.K ((⟨H1,Av C ρ1 σ⟩:C0).inp g) (E.set last<|some<|.ow<|cK g) σ' H'
 refine⟨λi m σ' H'=>m=n-i/\i<=n/\W i σ' H',⟨_,rfl,cO _,sal,E0,[],.inl rfl,⟨nodup_nil,λx ⟨l,m⟩=>by cases m⟩,λ⟨l,m⟩=>(by cases m),trivial,I2⟩,?_⟩
 rintro i m σ' H' ⟨rfl,hi,hlast,E,g,hE,gok,nDg,hrl,J'⟩;have El:last<E.length:=by
  rcases hE with rfl| ⟨x,rfl⟩
  ·exact E0l
  ·rw[bT];exact E0l
 have P:=own0 gok J'
 by_cases hlt:i<n
 ·refine .inr ⟨ok.go _ _ i P hlt,W<|i+1,λσ2 H2 z=>⟨n-(i+1),aa,rfl,hlt,z⟩,λy H2 hy=> ?_⟩
  obtain⟨s2,r2⟩:=ok.yld _ _ i y H2 P (λa z=>J'.avSome z) hlt hy
  have eE:(E.set last<|some<|.ow<|cK g).set 0 (some<|.pu<|it i)=(E0.set 0<|some<|.pu<|it i).set last (some<|.ow<|cK g):=by
   rw[List.set_comm _ _ aa]
   rcases hE with rfl| ⟨x,rfl⟩
   ·rfl
   ·rw[l9]
  obtain⟨Jr,sub⟩:=J'.rz;refine⟨_,E.set last<|some<|.ow<|cK g,.pu<|it i,H',λρ3=>ρ3=(E0.set 0<|some<|.pu<|it i).set last (some<|.ow<|cK g),Jr,s2,r2,⟨by rw[bT];omega,eE⟩,λρ3 σ3 H3 q3 J3r same3=> ?_⟩
  have hrl3:=hrl.mono (b51 J3r);have J3:=J3r.lower sub rfl J'.a0;subst q3;have l3:σ3[last]? =some (some<|.ref Dn):=(same3 last (by simp;omega)).trans hlast
  refine⟨_,_,λc ρ4=>c=true/\ρ4=(E0.set 0<|some<|.pu<|it i).set last (some<|.ow<|cK g),J3,⟨rfl,rfl⟩,λc ρ4 H4 q4 f4 s4=> ?_⟩
  obtain⟨rfl,rfl⟩:=q4;rw[a8 rfl];have J4:=J3.same s4;refine⟨_,_,λb ρ5=>b= .ow (dF i)/\ρ5=(E0.set 0<|some<|.pu<|it i).set last (some<|.ow<|cK g),J4,by rw[e0];exact hte i (cK g) _ hlt ⟨rfl,rfl⟩,λb ρ5 v H5 q5 f5 s5 r5=> ?_⟩
  obtain⟨rfl,rfl⟩:=q5;obtain⟨a,vs,rfl,na,ea,rl⟩:=r5;have n0: ∀b,Av ((⟨H1,Av C ρ1 σ⟩:C0).inp g) ((E0.set 0<|some<|.pu<|it i).set last<|some<|.ow<|cK g) σ3 b->b≠a:=λb z e=>by
   subst e;exact J4.avSome z na
  obtain⟨J5,gok5⟩:=J4.addP gok s5 na ea;have has5: ∀b,GP.has (g++[(a,vs)]) b->g.has b\/b=a:=by
   rintro b ⟨l',m⟩;rcases cB.mp m with m|m
   ·exact .inl ⟨l',m⟩
   ·cases d7.mp m;exact .inr rfl
  have l0':last< ((E0.set 0<|some<|.pu<|it i).set last<|some<|.ow<|cK g).length:=by rw[bT,bT];exact E0l
  have atl:((E0.set 0<|some<|.pu<|it i).set last<|some<|.ow<|cK g)[last]? =some (some<|.ow<|cK g):=bV (by rw[bT];exact E0l)
  obtain⟨a',vs',g1,g2,g3,g4⟩:=J5.ow last (cK g) atl;rw[l3]at g1;cases g1;have ev:=oS g4;subst ev;have P5:j9 (Av ((⟨H1,Av C ρ1 σ⟩:C0).inp g) ((E0.set 0<|some<|.pu<|it i).set last<|some<|.ow<|cK g) σ3) H4 (Av ((⟨H1,Av C ρ1 σ⟩:C0).inp<|g++[(a,vs)]) ((E0.set 0<|some<|.pu<|it i).set last<|some<|.ow<|cK g) σ3) H5:=λb o nb q=>⟨by
   rintro((z|z)|z)
   ·exact nb (.inl<|.inl z)
   ·rcases has5 b z with z|rfl
    ·exact nb (.inl<|.inr z)
    ·rw[na]at q;cases q
   ·exact nb (.inr z),s5 b o q⟩
  have rl5:RLp X.K (Av ((⟨H1,Av C ρ1 σ⟩:C0).inp<|g++[(a,vs)]) ((E0.set 0<|some<|.pu<|it i).set last<|some<|.ow<|cK g) σ3) H5 ((List.range<|i+1).map dF) (g++[(a,vs)]):=by
   rw[fL,bU];refine RLp.snoc (p:=(a,vs)) (rl.mono<|.sub (.refl _) ?_) ((hrl3.mono<|.same s4).mono P5);rintro b ((z|z)|z)
   ·exact .inl (.inl<|.inl z)
   ·rcases has5 b z with z|rfl
    ·exact .inl (.inl<|.inr z)
    ·exact .inr rfl
   ·exact .inl (.inr z)
  have Dav:Av ((⟨H1,Av C ρ1 σ⟩:C0).inp<|g++[(a,vs)]) ((E0.set 0<|some<|.pu<|it i).set last<|some<|.ow<|cK g) σ3 Dn:= .inr ⟨last,_,atl,l3⟩;have J6:=J5.write (i:=last) (l:=cK g) (l':=cK (g++[(a,vs)])) atl l3 (pY (K:=X.K) (H:=H5) (A:=Av ((⟨H1,Av C ρ1 σ⟩:C0).inp<|g++[(a,vs)]) ((E0.set 0<|some<|.pu<|it i).set last<|some<|.ow<|cK g) σ3)<|g++[(a,vs)]);rw[bU,l9]at J6
  refine⟨_,g2,?_,l3,E0.set 0<|some<|.pu<|it i,g++[(a,vs)],.inr ⟨_,rfl⟩,gok5,?_,?_,J6⟩
  ·rw[aI,<-hrl.len,aI,iR];exact kW (show i<=1000 by omega) ac
  ·rintro z;rcases has5 _ z with z|e
   ·exact nDg z
   ·obtain⟨b',vs',k1,k2,_⟩:=J4.ow last (cK g) atl;rw[l3]at k1;cases k1;rw[e,na]at k2;cases k2
  ·refine(rl5.mono<|.upd Dav).mono (.sub (.refl _) ?_)
   rintro b (z| ⟨j,l,h1,h2⟩)
   ·exact .inl z
   ·refine .inr ?_
    rcases aN h1 with⟨rfl,h3,_⟩| ⟨ne,h3⟩
    ·exact⟨last,_,atl,h2⟩
    ·exact⟨j,l,by rw[get_set_ne ne];exact h3,h2⟩
 ·have e:i=n:=aa
  subst e;have atl:(E.set last<|some<|.ow<|cK g)[last]? =some (some<|.ow<|cK g):=bV El;obtain⟨a,vs,g1,g2,g3,g4⟩:=J'.ow last (cK g) atl;rw[hlast]at g1;cases g1;have ev:=oS g4;subst ev;refine .inl ⟨ok.stop _ _ P,k _ _ _ q ⟨g,(List.range i).map dF,?_⟩⟩;have sH:gC H1 H':=λb o e=>J'.ext b o ((cA gok.nd).mpr<|.inr ⟨λz=>(by rw[gok.new b z]at e;cases e),e⟩)
  refine I1.enterP (r:=r) sH nD g2 gok nDg (λx l m=>bC8 J' gok.nd m) nb hr (hrl.mono<|.sub (.refl _) ?_)
  rintro b ((z|z)|rfl)
  ·exact .inl (.inl z)
  ·exact .inl (.inr z)
  ·exact .inr ⟨last,_,atl,hlast⟩
end
end M
end
section
namespace L2
open PySem PySem.Spec PyProof.Rows
section
variable {prog:Program}{w:World}{A:Around}{E:Value->Shared->Prop}{s:Shared}
theorem aI6 {it t:Addr}{items:Array Value}(hne:t≠it): ∀(n i:Nat) (s:Shared) (Q:List Value->Shared->Prop),s.heap.IsListIter it t i->s.heap.IsList t items->i+n<=items.size->
  (∀h',h'.IsListIter it t (i+n)->SameBut it s.heap h'->Q ((items.toList.drop i).take n) {s with heap:=h'})->wpAny (model prog w) A (draw (.ref it) n) Q E s
 | 0,i,s,Q,hit,_,_,hQ=>by
  show wpAny _ _ (pure []) Q E s
  exact aF (by simpa using hQ s.heap hit (Heap.SameBut.refl ..))
 | n+1,i,s,Q,hit,ht,hle,hQ=>by
  have hlt:i<items.size:=aa
  show wpAny _ _ (pyNext (.ref it) >>= _) Q E s
  refine a9 (wpAny_pyNext_list_item hit ht (x:=items[i]) (by simp[hlt]) λh₁ hit₁ hs₁=> ?_)
  refine a9 (e9<|aI6 hne n (i+1) _ _ hit₁ (ht.extBut hs₁.extBut hne) aa λh₂ hit₂ hs₂=>aF ?_)
  have hd:items.toList.drop i=items[i]::items.toList.drop (i+1):=by simp[List.drop_eq_getElem_cons,hlt]
  have:=hQ h₂ (by rw[show i+(n+1)=i+1+n by omega];exact hit₂) (hs₁.trans hs₂)
  rw[hd,List.take_succ_cons]at this;exact this
theorem zW {t:Addr}{items:Array Value}{Q:List Value->Shared->Prop}(hh:A.handled=none)(ht:s.heap.IsList t items)
  (hQ: ∀h',ExtBut s.heap.objs.size s.heap h'->Q items.toList {s with heap:=h'}):wpAny (model prog w) A (unpackItems (.ref t) items.size none) Q E s:=by
 have hlt:t≠s.heap.objs.size:=by obtain⟨o,ho,_⟩:=ht;exact aW (aM ho)
 unfold unpackItems;refine a9 ?_
 ·unfold notIterableAtAll;refine a9 (wX ht.typeIs F.slot_list_iter.lookup ?_);refine aF ?_;simp only[i6,dR];refine a9 (e9<|o9 ht ?_);refine a9 (e9<|aI6 hlt items.size 0 _ _ ⟨_,bK _ rfl,rfl,rfl⟩ (ht.push _) aa λh₁ hit₁ hs₁=> ?_)
  have hall:List.take items.size (List.drop 0 items.toList)=items.toList:=by
   rw[List.drop_zero];exact wH ae
  rw[hall];rw[a7 ae]
  have ht₁:h₁.IsList t items:=(ht.push _).extBut hs₁.extBut hlt;refine a9 (e9<|wpAny_pyNext_list_end hh hit₁ ht₁ ae λh₂ he₂=> ?_)
  simp only[Option.isSome_none,i6,dR];refine aF (hQ h₂ λb o hb e=>he₂ b o hb (hs₁.extBut b o hb<|aO _ e))
theorem yK {env:Env}{elts:List Expr}{x1}{pos:Pos}{t:Addr}{items:Array Value}{Q:Unit->Shared->Prop}(hh:A.handled=none)(ht:s.heap.IsList t items)
  (hn:(assignEach elts env).length=items.size) (hstar:(assignEach elts env).findIdx? (·.1)=none)
  (h: ∀h',ExtBut s.heap.objs.size s.heap h'->wpAny (model prog w) A (assignInOrder ((assignEach elts env).map (·.2)) items.toList) Q E {s with heap:=h'}) :
  wpAny (model prog w) A (assign (.Tuple elts x1 pos) env<|.ref t) Q E s:=by
 rw[assign_Tuple];refine a9 (sB ?_);unfold unpack;rw[hn,hstar];exact a9 (e9<|zW hh ht h)
end
section
variable {X:Cx}{pos:Pos}
def gTupL (K:Frag)(n:Nat)(t:TGs):TG:=λv σ H Q=> ∃a xs,v= .ref a/\SqL K H a xs/\xs.length=n/\t xs σ H Q
theorem bW9 {es:List Expr}{k:Nat}{t:TGs}{n:Nat}(hc:X.calm=true)(h:PGs X es t)
  (hn:(assignEach es X.env).length=n:=by rfl) (hst:(assignEach es X.env).findIdx? (·.1)=none:=by rfl):PG X (.Tuple es k pos) (gTupL X.K n t):=by
 intro pins s σ H v u Q I r hw;obtain⟨a,xs,e1,hq,hl,hw⟩:=hw;subst e1;cases r;obtain⟨its,rv,pl,hz⟩:=I.list hq;refine yK (I.ok.hd hc) pl.isList (by simp[hn,<-hl,rv.length]) hst λh' hx=> ?_
 have I1:Inv X pins σ H {s with heap:=h'}:=I.kept (t':=s.toks) λb o e=>hx b o (aW<|aM e) e
 exact h pins _ σ H xs _ Q I1 (by simpa using rv) hw
end
end L2
namespace M
open PySem PySem.Spec PyProof.Rows L2
section
variable {X:Cx}{pos:Pos}
def a83 (u:UGs):UG:=λb ρ Q=>match b.d with
 | .lst ds=>u ds ρ Q
 | _=>False
theorem b67 {es:List Expr}{u:UGs}{T:List Nat}{n k:Nat}(hc:X.calm=true)(h:bH9 X es T u)(hu: ∀ds ρ Q,u ds ρ Q->ds.length=n)
  (hn:(assignEach es X.env).length=n:=by rfl) (hst:(assignEach es X.env).findIdx? (·.1)=none:=by rfl):PUG X (.Tuple es k pos) T (a83 u):=
 bH8 (bW9 hc h hn hst) λv σ H Q z=>by
  obtain⟨C,ρ,b,H00,Q0,I,s,r,g,k⟩:=z;have R:=r.rep λa z=>I.avSome z
  unfold a83 at g;split at g
  ·rename_i ds e
   rw[e]at R;simp only[Rep]at R;obtain⟨a,vs,rfl,n0,c,rs⟩:=R;exact⟨a,vs,rfl,SqL.of c,by rw[<-rs.length];exact hu _ _ _ g,C,ρ,ds,Q0,I.same s,rs,g,k⟩
  ·exact g.elim
theorem a84 {h:Heap}: ∀{vs:List Value} {a b:List Int} {as bs:List Addr},ReadsAll h vs (a.map .int) as->ReadsAll h vs (b.map .int) bs->a=b
 | [],[],[],_,_,_,_=>rfl
 | [],_::_,_,_,_,h,_=>by cases h
 | [],[],_::_,_,_,_,h=>by cases h
 | _::_,[],_,_,_,h,_=>by cases h
 | _::_,_::_,[],_,_,_,h=>by cases h
 | v::vs,x::a,y::b,as,bs,h,g=>by
  cases h with
  | cons h1 h2=>
   cases g with
   | cons g1 g2=>
    cases h1;cases g1;rw[a84 h2 g2]
theorem aI7 {h:Heap}{v:Value}{a b:List Int}{as bs:List Addr}(r:Reads h v (.tuple<|a.map .int) as)(q:Reads h v (.tuple<|b.map .int) bs):a=b:=by
 cases r with
 | tuple o1 c1 d1 r1=>
  cases q with
  | tuple o2 c2 d2 r2=>
   rw[o1]at o2;cases o2;rw[d1]at d2;cases d2;exact a84 r1 r2
def b68 (d e:D)(Q:B->Prop):Prop:= ∃(r:List Int) (rs:List (List Int)),d= .tup (r.map .int)/\e= .lst (rs.map λr=> .tup (r.map .int))/\Q (.pu<|.bl<|!decide (r∈rs))
theorem aT4: ∀rs:List (List Int),pdL (rs.map λr=>D.tup (r.map .int))=some (rs.map λr=>PyData.tuple (r.map .int))
 | []=>by simp[pdL]
 | r::rs=>by simp[pdL,a51,aT4 rs]
open Classical in
theorem bC9 (hu:X.A.units+64<cLine):OpU X (compareOp .NotIn) b68:=by
 intro A H d e v w Q0 Q hA r1 r2 g k;obtain⟨r,rs,rfl,rfl,g⟩:=g;refine⟨λx y H Q=> ∃A:AS,Rep X.K A H (.tup<|r.map .int) x/\Rep X.K A H (.lst<|rs.map λr=> .tup (r.map .int)) y/\Q (.bl<|!decide (r∈rs)) H,?_,A,r1,r2,k _ _ H g (.refl _) jA⟩
 rintro pins s σ H x y v u Q I rx ry ⟨A,r1,r2,h⟩;obtain⟨as,ra⟩:=nX I _ (a51 r) r1 rx;simp only[Rep]at r2;obtain⟨a,vs,rfl,n0,c,rl⟩:=r2;cases ry;obtain⟨its,rv,pl,hz⟩:=I.list (SqL.of c);obtain⟨bs,rb⟩:=lH I _ (aT4 rs) rl rv
 have all: ∀{us:List Value} {qs:List (List Int)} {cs:List Addr},ReadsAll s.heap us (qs.map λr=>PyData.tuple (r.map .int)) cs->(∀u∈us,∃(q:List Int) (as:List Addr),Reads s.heap u (.tuple<|q.map .int) as)/\(us.any λu=>decide (∃as,Reads s.heap u (.tuple<|r.map .int) as))=decide (r∈qs):=by
  intro us
  induction us with
  | nil=>
   intro qs cs h;cases qs with
   | nil=>exact⟨λu hu=>by simp at hu,ae⟩
   | cons q qs=>cases h
  | cons u us ih=>
   intro qs cs h;cases qs with
   | nil=>cases h
   | cons q qs=>
    cases h with
    | cons h1 h2=>
     obtain⟨i1,i2⟩:=ih h2;refine⟨λz hz=> ?_,?_⟩
     ·rcases aR.mp hz with rfl|hz
      ·exact⟨q,_,h1⟩
      ·exact i1 z hz
     ·rw[sC,i2]
      by_cases e:r=q
      ·subst e;have:decide (∃as,Reads s.heap u (.tuple<|r.map .int) as)=true:=bB ⟨_,h1⟩;rw[this];simp
      ·have:decide (∃as,Reads s.heap u (.tuple<|r.map .int) as)=false:=bD λ⟨as,z⟩=>e (aI7 z h1)
       rw[this];simp[e]
 obtain⟨al,an⟩:=all rb;refine SeqAt.notIn_listAt (λu=>decide (∃as,Reads s.heap u (.tuple<|r.map .int) as)) pl.isList (λu hu'=> ?_) ⟨.bl _,H,I,rfl,?_⟩
 ·obtain⟨q,cs,rq⟩:=al u (by simpa using hu')
  have:=SeqAt.eqAt_reads _ _ X.A.in1 s _ _ _ _ rq ra (xF _<|a51 q) (xF _<|a51 r) (by
   have d1:(PyData.tuple<|q.map .int).depth<=2:=by simp[PyData.depth,aI1]
   have:X.A.in1.units<=X.A.units+1:=by show X.A.units+1<=X.A.units+1;exact aC _
   omega)
  have e:(PyData.tuple<|q.map .int).eqv (.tuple<|r.map .int)=decide (∃as,Reads s.heap u (.tuple<|r.map .int) as):=by
   simp only[PyData.eqv];rw[PySem.W.ked_eqvAll q r]
   by_cases e:q=r
   ·subst e;rw[bB rfl,bB ⟨_,rq⟩]
   ·rw[bD e,bD λ⟨as,z⟩=>e (aI7 rq z)]
  rw[e]at this;exact this
 ·rw[show(its.toArray.any λu=>decide (∃as,Reads s.heap u (.tuple<|r.map .int) as))=its.any λu=>decide (∃as,Reads s.heap u (.tuple<|r.map .int) as)by simp,an]
  exact h
end
end M
namespace L2
open PySem PySem.Spec PyProof.Rows
section
variable {X:Cx}{tg:Expr}
def iRev2 (K:Frag)(ta:TA):TI:=λσ H R=>ta σ H λvs H1=> ∃l xs,vs=[.ref l]/\((SqT K H1 l xs/\R (Itv K l xs.length) H1)\/(SqL K H1 l xs/\R (ItvL K l xs.length) H1))
theorem bX0 {a:Expr}{ta:TA}{p pos:Pos}(hg:Gl X "reversed")(hm:X.mg "reversed"=none)(ha:PA X [a] ta)(hs:starEach [a] X.env=[(false,eval a X.env)]:=by rfl) :
  PI X tg (.Call (.Name "reversed" p) [a] [] pos) (iRev2 X.K ta):=by
 intro pins s σ H R I h;refine Call_ (oN I hg hm w4<|gL (thn (ha pos pins s σ H _ I h) λus s1 ⟨vs,H1,I1,r1,q1⟩=> ?_) hs rfl)
 obtain⟨l,xs,e,q1⟩:=q1;subst e;obtain⟨u,rfl,r⟩:=vals1 r1;cases r;rcases q1 with⟨q1,q⟩| ⟨q1,q⟩
 ·obtain⟨its,rv,p1,hz⟩:=I1.tuple q1;have hl:=rv.length;have big:(sizeLine:Int)<2^63:=ac
  refine aS3 p1 (by rw[aU];lia) ?_
  have hi:mR (s1.heap.push {cls:= .type "reversed",data:= .fields #[.ref l,rawInt<|(its.toArray.size:Int)-1]}) s1.heap.objs.size l ((xs.length:Int)-1-((0:Nat):Int)):=⟨_,bK _ rfl,rfl,by
   rw[aU,hl];simp⟩
  refine xG (s:={s1 with heap:=s1.heap.push {cls:= .type "reversed",data:= .fields #[.ref l,rawInt<|(its.toArray.size:Int)-1]},toks:=s1.toks+1+1}) hi ?_
  refine⟨_,[s1.heap.objs.size],_,_,H1,rfl,I1.kept (t':=s1.toks+1+1) λb o e=>aO _ e,aS4 xs.length hz,hi,λb hb=> ?_,q⟩
  have e:b=s1.heap.objs.size:=by simpa using hb
  subst e;exact I1.fpOk (aC _) (I1.hok.fresh<|aC _)
 ·obtain⟨its,rv,p1,hz⟩:=I1.list q1;have hl:=rv.length;refine call_reversed_list p1.isList ?_;have hi:(s1.heap.push<|revObj l<|(its.toArray.size:Int)-1).IsRevIter s1.heap.objs.size l ((xs.length:Int)-1-((0:Nat):Int)):=⟨_,bK _ rfl,rfl,by
   show Data.fields #[Value.ref l,rawInt<|(its.toArray.size:Int)-1]=_
   rw[aU,hl];simp⟩
  refine wpAny_pyIter_revIter (s:={s1 with heap:=s1.heap.push (revObj l<|(its.toArray.size:Int)-1)}) hi ?_
  refine⟨_,[s1.heap.objs.size],_,_,H1,rfl,I1.kept (t':=s1.toks) λb o e=>aO _ e,bC5 xs.length hz,hi,λb hb=> ?_,q⟩
  have e:b=s1.heap.objs.size:=by simpa using hb
  subst e;exact I1.fpOk (aC _) (I1.hok.fresh<|aC _)
end
end L2
namespace M
open PySem PySem.Spec PyProof.Rows L2
section
variable {X:Cx}{pos:Pos}{a:Expr}
def bL7 (ta:UA):UI:=λρ Q=>ta ρ λds ρ1=>match ds with
 | [.tup l]=>Q l.length (λi=>l.getD (l.length-1-i) .non) ρ1
 | [.lst l]=>Q l.length (λi=>l.getD (l.length-1-i) .non) ρ1
 | _=>False
theorem bX1 {tg:Expr}{p:Pos}{ta:UA}(hg:Gl X "reversed")(hm:X.mg "reversed"=none)(ha:PUA X [a] ta)(hs:starEach [a] X.env=[(false,eval a X.env)]:=by rfl) :
  PUI X tg (.Call (.Name "reversed" p) [a] [] pos) (bL7 ta):=
 yB (bX0 hg hm ha hs) λσ H R ⟨C,ρ,Q0,I,h,k⟩=>⟨C,ρ,_,I,h,λds ρ1 vs H1 q f s r=>by
  split at q
  ·rename_i l
   obtain⟨v,vr,rfl,rv,rr⟩:=r.uncons;have:=rr.unnil;subst this;simp only[Rep]at rv;obtain⟨a1,us,rfl,c1,s1⟩:=rv;have c2:SqA _ _ _ true a1 us:=c1;exact⟨a1,us,rfl,.inl ⟨c2.sqv .self,k _ _ ρ1 _ H1 q f s<|aH9 c2 s1⟩⟩
  ·rename_i l
   obtain⟨v,vr,rfl,rv,rr⟩:=r.uncons;have:=rr.unnil;subst this;simp only[Rep]at rv;obtain⟨a1,us,rfl,c0,c1,s1⟩:=rv;have c2:SqA X.K _ _ false a1 us:= .inl ⟨c0,.inl c1⟩;exact⟨a1,us,rfl,.inr ⟨c2.sqv .self,k _ _ ρ1 _ H1 q f s<|bC6 c2 s1⟩⟩
  ·exact q.elim⟩
end
end M
end
section
namespace L2
open PySem PySem.Spec PyProof.Rows
def Tr (h:Heap)(e T:Addr):Prop:= ∃oe vs,h.get? e=some oe/\oe.data= .fields vs/\vs[1]? =some (.ref T)
section
variable {base h:Heap}{l:List Env}{e T:Addr}{cls a0 fl:Value}
noncomputable def hid (h:Heap)(l:List Env)(e T:Addr):Heap:=PySem.W.hideAll h (frs l++[e,T])
end
structure Fly (base:Heap)(l:List Env)(e C:Addr)(H:Hp)(h:Heap):Prop where
 fl: ∃a0,Heap.FlyingW base l e (.ref C) a0 h
 he:H e=none
 ht: ∀T,Tr h e T->H T=none
structure Newer (g:Heap)(e:Addr)(h:Heap):Prop where
 he:g.get? e=none
 ht: ∀T,Tr h e T->g.get? T=none
def XAt (h:Heap)(a:Addr)(o:Option Addr):Prop:= ∀d,o=some d-> ∃oe,h.get? a=some oe/\oe.dict=some d
noncomputable def CXr (P:Program)(w:World)(base:Heap):CXT:=λouter H s E e s'=> ∃a C o H',e= .ref a/\s'.os=s.os/\AllBare s'.gens/\Un (frs outer) [] H H' s.heap s'.heap/\HOk P w H' s'.heap/\Fly base outer a C H' s'.heap/\Newer s.heap a s'.heap/\XAt s'.heap a o/\E (.ref C) o H'
section
variable {prog:Program}{w:World}{A:Around}{E:Value->Shared->Prop}{hp:Heap}{gn:Array GenState}{dr:Drawn}{tn:Nat}{os:OsState}
variable {nm qn:Str}{C N:Addr}{bs bm bmB:List Value}{hdd:Bool}{sn:List Str}{sub:List Value}{ab:Bool}{col:Option Bool}{dd:Option Addr}{k0 k1 k2 k3 k5:Option Value}{B newId initId:String}
end
end L2
end
section
namespace L2
open PySem PySem.Spec PyProof.Rows
open Builtin Builtin.ObjectAttr
end L2
end
section
namespace L2
open PySem PySem.Spec PyProof.Rows
section
variable {M:Model}{A:Around}{E:Value->Shared->Prop}{s:Shared}{env:Env}
variable {nm qn:Str}{C N:Addr}{bs bm:List Value}{hdd:Bool}{sn:List Str}{sub:List Value}{ab:Bool}{col:Option Bool}{dd:Option Addr}{k0 k1 k2 k3 k5:Option Value}{newId:String}
end
end L2
end
section
namespace M
open PySem PySem.Spec PyProof.Rows L2
abbrev XP:=Str->List D->Prop
abbrev ΦX:=List D->(B->Prop)->XP->Prop
noncomputable def bL8 (n:Str):List Str:=if n="FallsApart" then ["left","right"]else if n="NotWhole" then ["prime","number"]else []
noncomputable def XR (K:Frag)(A:AS)(H:Hp)(n:Str)(ds:List D):Option Addr->Prop
 | none=>bL8 n=[]
 | some d=> ∃vs,¬A d/\H d=some (.xd<|(bL8 n).zip vs)/\(bL8 n).length=vs.length/\bI K A H ds vs
noncomputable def spX (K:Frag)(mg:Str->Option Value)(φ:ΦX):Sp:=λvs H Q E=> ∃A ds Q0 Ex,(∀a,A a->H a≠none)/\bI K A H ds vs/\φ ds Q0 Ex/\(∀b v H',Q0 b->gC H H'->pA K A H H' b v->Q v H')/\ ∀n C es o H',Ex n es->mg n=some (.ref C)->gC H H'->XR K A H' n es o->E (.ref C) o H'
structure FnX (P:Program)(w:World)(K:Frag)(mg:Str->Option Value)(base:Heap)(x:Str)(ps:List Str)(k:Nat)(φ:ΦX):Prop where
 ex: ∃f fd,xA P w K mg base (CXr P w base) k f fd ps (spX K mg φ)/\Binds K fd ps []/\keepIn K (.ref f)=true/\mg x=some (.ref f)
abbrev USX:=XP->US
def lSX (K:Frag)(mg:Str->Option Value)(E:XK)(t:USX):TS:=λD σ H=> ∃C ρ D0 Ex,EOk K C ρ σ H/\t Ex D0 ρ/\DOk K C D0 D/\ ∀n Cl es o H',Ex n es->mg n=some (.ref Cl)->gC C.H0 H'->XR K C.A0 H' n es o->E (.ref Cl) o H'
def bL9 (X:Cx)(E:XK)(sts:List Stmt)(t:USX):Prop:=PSs X sts (lSX X.K X.mg E t)
section
variable {X:Cx}{E:XK}{st:Stmt}{sts:List Stmt}{t u:USX}{e:Expr}{es:List Expr}{pos:Pos}
theorem bM0 {P:Program}{w:World}{K:Frag}{mg:Str->Option Value}{base:Heap}{x qual:Str}{st:Stmt}{f:Addr}{fd:FuncData}{N ps:List Str}{k:Nat}{φ:ΦX}(F:Fun K x qual st f fd)(S:bW N ps (aJ st))
  (len: ∀ds Q Ex,φ ds Q Ex->ds.length=ps.length) {t:USX}
  (der: ∀(cdv:Value) (A:Around) (outer:List Env) (s:Shared) (H:Hp) (E:XK),jS k (A.deeper<|envOfC qual (aJ st) s.heap.objs.size f cdv)->bL9 (zQ (CXr P w base) P w K mg base N qual (aJ st) f cdv A outer s H E) E (gW st) t)
  (rd: ∀ds Q Ex,φ ds Q Ex->t Ex {nx:=λ_=>Q (.pu .non),rt:=Q} (init N ds)) :
  xA P w K mg base (CXr P w base) (k+1) f fd ps (spX K mg φ):=by
 obtain⟨oc,od,kV,doc,pm,an,cdv,ct,osl,rfl,lk,hcd⟩:=F.ex;refine bZ4 lk hcd S (λvs H Q E h=> ?_) λA outer s H vs Q E hr h=> ?_
 ·obtain⟨A,ds,Q0,Ex,_,r,h,_⟩:=h;rw[<-r.length];exact len ds Q0 Ex h
 ·obtain⟨A',ds,Q0,Ex,hA,r,h,q,qx⟩:=h;refine⟨_,der cdv A outer s H E hr,⟨H,A'⟩,init N ds,_,Ex,b55 hA r,rd ds Q0 Ex h,⟨λρ σ H' z I=> ?_,λb v H' z s r=>q b v H' z s r,λ_ _ _ z=>z.elim,λ_ _ _ z=>z.elim⟩,qx⟩
  exact q _ _ H' z I.ext (show Rep _ _ _ _ _ by simp only[Rep])
theorem FnX.mk' {P:Program}{w:World}{K:Frag}{mg:Str->Option Value}{base:Heap}{x qual:Str}{st:Stmt}{f:Addr}{fd:FuncData}{N ps:List Str}{k:Nat}{φ:ΦX}(F:Fun K x qual st f fd)(m:mg x=some (.ref f))(b:Binds K fd ps [])(S:bW N ps (aJ st))
  (len: ∀ds Q Ex,φ ds Q Ex->ds.length=ps.length) {t:USX}
  (der: ∀(cdv:Value) (A:Around) (outer:List Env) (s:Shared) (H:Hp) (E:XK),jS k (A.deeper<|envOfC qual (aJ st) s.heap.objs.size f cdv)->bL9 (zQ (CXr P w base) P w K mg base N qual (aJ st) f cdv A outer s H E) E (gW st) t)
  (rd: ∀ds Q Ex,φ ds Q Ex->t Ex {nx:=λ_=>Q (.pu .non),rt:=Q} (init N ds)):FnX P w K mg base x ps (k+1) φ:=
 ⟨f,fd,bM0 F S len der rd,b,F.kp,m⟩
end
end M
end
section
namespace L2
open PySem PySem.Spec PyProof.Rows
end L2
end
section
namespace L2
open PySem PySem.Spec PyProof.Rows
end L2
namespace M
open PySem PySem.Spec PyProof.Rows L2
end M
end
section
namespace M
open PySem PySem.Spec PyProof.Rows L2
section
variable {P:Program}{w:World}{K:Frag}{mg:Str->Option Value}{base:Heap}
theorem Fn.mkA {x y qual:Str}{st:Stmt}{f:Addr}{fd:FuncData}{N ps:List Str}{k:Nat}{φ:Φ}(F:Fun K y qual st f fd)(m:mg x=some (.ref f))(b:Binds K fd ps [])(S:bW N ps (aJ st))
  (len: ∀ds Q,φ ds Q->ds.length=ps.length) {t:US}
  (der: ∀(cdv:Value) (A:Around) (outer:List Env) (s:Shared) (H:Hp) (E:XK),jS k (A.deeper<|envOfC qual (aJ st) s.heap.objs.size f cdv)->pB (zQ CX0 P w K mg base N qual (aJ st) f cdv A outer s H E).nox (gW st) t)
  (rd: ∀ds Q,φ ds Q->t {nx:=λ_=>Q (.pu .non),rt:=Q} (init N ds)):Fn P w K mg base x ps (k+1) φ:=
 ⟨f,fd,b56 F S len λcdv A outer s H E hr=>⟨t,der cdv A outer s H E hr,rd⟩,b,F.kp,m⟩
end
end M
end
section
open PySem L2 M
local macro_rules| `(tactic| walk_at "u")=> `(tactic| simp only[aX,cP,fA,tO,gT,cS,uOp,uC,aE,aR1,aS,b48,uV,uIx,gIx,kI,oP,aZ,aA,aL,dO,gD,zR,kK,a28,dJ,M.gSub,iV,bI3,gI,bB4,gI2,mC,iW,isB,B.d,aD9,uOr,uNot,bH4,uOrV,dX,dP,bB3,uSl,iU,eI,gSl,bU1,bI8,gMin,aZ2,iX,sT,g1,g2,bU0,aG9,uIf,bJ5,bU5,iI,pW,bJ0,Option.bind_some,Option.bind_none,map_some,Option.map_none,Option.join,List.getElem?_cons_zero,List.getElem?_cons_succ,List.set_cons_zero,List.set_cons_succ,cT,List.length_nil,fJ,gP,iA,rQ,wD,eT,dR,reduceCtorEq,aY8,pH,cV,jY,aS2,gSlT,kJ,aG8,b59,bK7,uZip,bK6,oQ,bL0,gAny,aS5,D.isN,b04,b61,a78,a83,bL7])
namespace M
def yL:Φ:=λds Q=> ∃c k p:Int,ds=[.int c,.int k,.int p]/\0<=k/\k<4294967296/\0<p/\ ∀r:Int,0<=r->r<p->Q (.pu<|.int r)
def a85:US:=(aX (cP 3<|uOp gI (uOp iV (uOp dJ (uOp dJ (uOp dJ (aE 0)<|uOp iV (uOp iV (uC<|.int 7)<|aE 1)<|aE 1)<|uOp iV (uC<|.int 13)<|aE 1)<|uC<|.int 5)<|uC<|.int 48271)<|uC<|.int 2147483647)<|aX (cP 3<|uOp gI (uOp iV (aE 3)<|aE 3)<|uC<|.int 2147483629)<|fA<|uOp gI (uOp iV (aE 3)<|uC<|.int 39373)<|aE 2)
theorem bN (i:Int){j:Int}(h:0<j):i.fmod j=i%j:=Int.fmod_eq_emod_of_nonneg i (Int.le_of_lt h)
theorem aT5 (i:Int){j:Int}(h:0<j):i.fdiv j=i/j:=Int.fdiv_eq_ediv_of_nonneg i (Int.le_of_lt h)
theorem cmR {i j:Int}(h1: -18446744073709551616<j)(h2:j<18446744073709551616):aY2 i j\/(Sm i/\Sm j):= .inl (.inr ⟨h1,h2⟩)
theorem cmL {i j:Int}(h1: -18446744073709551616<i)(h2:i<18446744073709551616):aY2 i j\/(Sm i/\Sm j):= .inl (.inl ⟨h1,h2⟩)
theorem bM1: ∀ds Q,yL ds Q->a85 {nx:=λ_=>Q (.pu .non),rt:=Q} (init ["c","k","p","f"] ds):=by
 rintro ds Q ⟨c,k,p,rfl,h0,h1,hp,h⟩;unfold a85;show(aX _ _:US) _ [some<|.pu<|.int c,some<|.pu<|.int k,some<|.pu<|.int p,none];walk_at "u";rw[bN _ (by decide:(0:Int)<2147483647),bN _ (by decide:(0:Int)<2147483629),bN _ hp]
 refine⟨cmL ac ac,cmR aa aa,cmL ac ac,cmR ac ac,ac,cmR aa aa,ac,cmR ac ac,aa,?_⟩
 exact h _ (b9 _ aa) (b7 _ hp)
theorem cG {ui:UI}{g:UG}{tb:US}{D:UD}{ρ:Ev}(n:Nat)(it:Nat->M.D)(ρ1:Ev)(hui: ∀Q:Nat->(Nat->M.D)->Ev->Prop,Q n it ρ1->ui ρ Q)(Pv:Nat->Ev->Prop)(h0:Pv 0 ρ1)
  (hs: ∀i ρ,i<n->Pv i ρ->g (.pu<|it i) ρ λρ2=>tb {D with nx:=Pv (i+1),ct:=Pv (i+1),bk:=D.nx} ρ2) (hd: ∀ρ,Pv n ρ->D.nx ρ):jZ ui g tb D ρ:=hui _ ⟨Pv,h0,hs,hd⟩
theorem b69 {ws:List Int}{i:Nat}(h:i<ws.length):atI (ws.map D.int) (0+(i:Int))=some (.int ws[i]):=by
 rw[cN];exact c6 (by rw[dD,bJ h];rfl)
def Below (xs ws:List Int):Prop:=xs.length=ws.length/\ ∀(j:Nat) (x w:Int),xs[j]? =some x->ws[j]? =some w->0<=x/\x<w
theorem cpl {i j:Int}(h1:0<=j)(h2:j<=1000000)(h3:i.natAbs<2^64):bS4 i j:=⟨h1,h2,h3⟩
def uK:Φ:=λds Q=> ∃(c:Int) (ws:List Int) (p:Int),ds=[.int c,.lst<|ws.map .int,.int p]/\ws.length<=1000/\0<p/\(∀w∈ws,0<w/\w<18446744073709551616)/\ ∀xs:List Int,Below xs ws->Q (.ow<|xs.map .int)
def a86:US:=(aX (cP 3<|uC<|.int 0)<|aX (gT (cS<|uOp (mC λi j=>decide (j<=i)) (aE 0)<|uOp bB4 (uC<|.int 10)<|uC<|.int 18) (cP 3<|uOp M.gSub (aE 0)<|uOp bB4 (uC<|.int 10)<|uC<|.int 18) dP)<|aX (cP 4<|dO aL)<|aX (jZ (kJ<|aA (kI<|aS 1) aL) (dX 5)<|gT (cS<|uOp (mC λi j=>decide (j<i)) (aE 3)<|uC<|.int 1) (aX (zR 4<|uOp gI (aE 3)<|uIx (aS 1)<|aE 5)<|cP 3<|uOp bI3 (aE 3)<|uIx (aS 1)<|aE 5)<|zR 4<|uOp gI (aZ yL<|aA (aE 0)<|aA (aE 5)<|aA (aE 2) aL)<|uIx (aS 1)<|aE 5)<|tO 4)
theorem sm64 {i:Int}(h1: -18446744073709551616<i)(h2:i<18446744073709551616):Sm i:=by
 unfold Sm;have h3:i.natAbs<18446744073709551616:=aa
 exact bO h3 af
theorem a87 {xs ws:List Int}{x:Int}(h: ∀(j:Nat) (x w:Int),xs[j]? =some x->ws[j]? =some w->0<=x/\x<w)(hl:xs.length<ws.length)(h0:0<=x)(h1:x<ws[xs.length]) :
  ∀(j:Nat) (y w:Int),(xs++[x])[j]? =some y->ws[j]? =some w->0<=y/\y<w:=by
 intro j y w e1 e2
 by_cases hj:j<xs.length
 ·rw[rB hj]at e1;exact h j y w e1 e2
 ·rw[nY ad]at e1
  by_cases hj':j=xs.length
  ·subst hj';simp at e1;subst e1;rw[bJ hl]at e2;cases e2;exact⟨h0,h1⟩
  ·have:j-xs.length≠0:=ad
   cases e:j-xs.length with
   | zero=>lia
   | succ n=>rw[e]at e1;simp at e1
theorem bM2: ∀ds Q,uK ds Q->a86 {nx:=λ_=>Q (.pu .non),rt:=Q} (init ["c","w","p","l","f","k"] ds):=by
 rintro ds Q ⟨c,ws,p,rfl,hlen,hp,hw,h⟩;unfold a86;have tail: ∀left:Int,(aX (cP 4<|dO aL) (aX (jZ (kJ<|aA (kI<|aS 1) aL) (dX 5)<|gT (cS<|uOp (mC λi j=>decide (j<i)) (aE 3)<|uC<|.int 1) (aX (zR 4<|uOp gI (aE 3)<|uIx (aS 1)<|aE 5)<|cP 3<|uOp bI3 (aE 3)<|uIx (aS 1)<|aE 5)<|zR 4<|uOp gI (aZ yL<|aA (aE 0)<|aA (aE 5)<|aA (aE 2) aL)<|uIx (aS 1)<|aE 5)<|tO 4):US)
   {nx:=λ_=>Q (.pu .non),rt:=Q} [some<|.pu<|.int c,some<|.pu<|.lst<|ws.map .int,some<|.pu<|.int p,some<|.pu<|.int left,none,none]:=by
  intro left;rw[aX];walk_at "u";refine⟨ac,?_⟩
  refine cG ws.length (λi=> .int (0+i)) [some<|.pu<|.int c,some<|.pu<|.lst<|ws.map .int,some<|.pu<|.int p,some<|.pu<|.int left,some<|.ow [],none] ?_
   (λi ρ=> ∃(l:Int) (xs:List Int) (kk:Option B),ρ=[some<|.pu<|.int c,some<|.pu<|.lst<|ws.map .int,some<|.pu<|.int p,some<|.pu<|.int l,some<|.ow<|xs.map .int,kk]/\xs.length=i/\ ∀(j:Nat) (x w:Int),xs[j]? =some x->ws[j]? =some w->0<=x/\x<w)
   ⟨left,[],none,rfl,rfl,λj x w e=>by simp at e⟩ ?_ ?_
  ·intro Q q;simp only[kJ];walk_at "u";rw[aI];refine⟨⟨ad,ad⟩,?_⟩
   rw[fH];exact q
  ·rintro i ρ hi ⟨l,xs,kk,rfl,hl,hb⟩;subst hl;obtain⟨w0,w1⟩:=hw _ (fU hi);walk_at "u";refine⟨ac,?_⟩
   by_cases hc:1<l
   ·rw[a8 hc];simp only[b69 hi];rw[bN _ w0,aT5 _ w0];refine⟨ad,?_,⟨ad,sm64 ad w1⟩,_,xs++[l%ws[xs.length]],_,by rw[bU];rfl,ae,a87 hb hi (b9 _ ad)<|b7 _ w0⟩
    rw[aI];exact bO hi (aV hlen ac)
   ·rw[a7 hc];refine⟨c,(0+(xs.length:Int)),p,rfl,ad,ad,hp,λr r0 r1=> ?_⟩
    simp only[b69 hi];rw[bN _ w0];refine⟨ad,?_,l,xs++[r%ws[xs.length]],_,by rw[bU];rfl,ae,a87 hb hi (b9 _ ad)<|b7 _ w0⟩
    rw[aI];exact bO hi (aV hlen ac)
  ·rintro ρ ⟨l,xs,kk,rfl,hl,hb⟩;walk_at "u";exact h xs ⟨hl,hb⟩
 show(aX _ _:US) _ [some<|.pu<|.int c,some<|.pu<|.lst<|ws.map .int,some<|.pu<|.int p,none,none,none]
 refine(show bS4 10 18/\(if decide ((10:Int)^(18:Int).toNat<=c)=true then _ else _)from⟨cpl ac ac ac,?_⟩)
 split
 ·exact⟨cpl ac ac ac,tail _⟩
 ·exact tail _
theorem bM3 {d:D}{l:List D}:atI (d::l) 0=some d:=c6 (j:=0) rfl
theorem bM4 (k:Nat)(z:Int):(replicate k [D.int z]).flatten=(replicate k z).map .int:=by
 induction k with
 | zero=>rfl
 | succ k ih=>rw[i5,jO,ih,i5];rfl
def yM:Φ:=λds Q=> ∃(ns:List Int) (k:Int),ds=[.rol<|ns.map .int,.int k]/\ns.length<=63/\0<=k/\k<4294967296/\ ∀r:Int,Q (.pu<|.int r)
def aN2:US:=(aX (gT (cS<|uOp (iW false) (kI<|aS 0)<|uC<|.int 0) (fA<|uOp iV (uC<|.int 7919)<|uOp dJ (aE 1)<|uC<|.int 1) dP)<|aX (gT (cS<|uOp (mC λi j=>decide (i<j)) (aE 1)<|kI<|aS 0) (fA<|uIx (aS 0)<|aE 1) dP)<|fA<|uOp dJ (uIx (aS 0)<|uOp gI (aE 1)<|kI<|aS 0)<|uOp iV (uC<|.int 104729)<|aE 1)
theorem bM5 {ns:List Int}{k:Int}(h0:0<=k)(h1:k<ns.length): ∃z,atI (ns.map D.int) k=some (.int z):=by
 obtain⟨i,rfl⟩: ∃i:Nat,k=(i:Int):=⟨k.toNat,ad⟩
 have hi:i<ns.length:=ad
 exact⟨ns[i],c6 (by rw[dD,bJ hi];rfl)⟩
theorem bX2: ∀ds Q,yM ds Q->aN2 {nx:=λ_=>Q (.pu .non),rt:=Q} (init ["s","k"] ds):=by
 rintro ds Q ⟨ns,k,rfl,hl,k0,k1,h⟩;unfold aN2;show(aX _ _:US) _ [some<|.pu<|.rol<|ns.map .int,some<|.pu<|.int k];walk_at "u";rw[aI];split
 ·exact⟨cmL ac ac,h _⟩
 ·split
  ·obtain⟨z,hz⟩:=bM5 (ns:=ns) k0 ad
   rw[hz];exact h z
  ·refine⟨ad,?_⟩
   rw[bN _ ad]
   obtain⟨z,hz⟩:=bM5 (ns:=ns) (k:=k%ns.length) (b9 _ ad) (b7 _ ad)
   rw[hz];exact⟨cmL ac ac,h _⟩
theorem bM6:bootBuiltins "abs"=some (.builtin "abs"):=af
theorem b16:bootBuiltins "max"=some (.builtin "max"):=af
theorem bt_min:bootBuiltins "min"=some (.builtin "min"):=af
theorem bt_int:bootBuiltins "int"=some (.type "int"):=af
theorem kB:bootBuiltins "tuple"=some (.type "tuple"):=af
theorem yN:bootBuiltins "list"=some (.type "list"):=af
theorem bX3: ∀ds Q,aH0 ds Q->ds.length=1:=by rintro ds Q ⟨i,rfl,_⟩;rfl
theorem sY (t:UE)(D:UD)(ρ:Ev):fA t D ρ=t ρ (λb _=>D.rt b):=rfl
theorem jG (φ:Φ)(t:UA)(ρ:Ev)(Q:B->Ev->Prop):aZ φ t ρ Q=t ρ λds ρ1=>φ ds λb=>Q b ρ1:=rfl
theorem jH (t:UE)(u:UA)(ρ:Ev)(Q:List D->Ev->Prop):aA t u ρ Q=t ρ λx ρ1=>u ρ1 λxs ρ2=>Q (x.d::xs) ρ2:=rfl
theorem bG (t u:US)(D:UD)(ρ:Ev):aX t u D ρ=t {D with nx:=u D} ρ:=rfl
theorem vG (i:Nat)(t:UE)(D:UD)(ρ:Ev):cP i t D ρ=t ρ λb ρ1=>D.nx (ρ1.set i<|some b):=rfl
theorem j5 {js:List Nat}{cap:List (Option Nat)}{last t0:Nat}{ui:UI}{te:UE}{ρ:Ev}{Q:B->Ev->Prop}(n:Nat)(it:Nat->D)(ρ1:Ev)(hui: ∀Q:Nat->(Nat->D)->Ev->Prop,Q n it ρ1->ui ρ Q)(hn:n<=1000000)
  (G:Option B->List D->Ev) (x0:Option B) (h0:iI (pW ρ1 js) cap last=G x0 []) (h1: ∀x l b,(G x l).set t0 (some b)=G (some b) l) (h1': ∀x l,t0< (G x l).length) (h2: ∀x l (Q:List D->Prop),Q l->kK (G x l) last Q) (h3: ∀x l l',(G x l).set last (some<|.ow l')=G x l')
  (f:Nat->D) (hte: ∀i l (Q':B->Ev->Prop),i<n->Q' (.pu<|f i) (G (some<|.pu<|it i) l)->te (G (some<|.pu<|it i) l) Q') (hq:Q (.ow<|(List.range n).map f) (pW ρ1 js)) :
  iJ js cap last ui (dX t0) (λρ Q=>Q true ρ) te ρ Q:=by
 refine hui _ ⟨λi ρ'=> ∃x,ρ'=G x ((List.range i).map f),⟨x0,h0⟩,?_,?_⟩
 ·rintro i ρ' hi ⟨x,rfl⟩;refine⟨h1' _ _,?_⟩;rw[h1];dsimp only;rw[a8 rfl];refine hte i _ _ hi (h2 _ _ _ ⟨?_,some<|.pu<|it i,?_⟩)
  ·rw[aI,iR];exact bO hi (aV hn ac)
  ·rw[h3,fL,bU];rfl
 ·rintro ρ' ⟨x,rfl⟩;exact h2 _ _ _ hq
noncomputable def bL (r:List Int):D:= .tup (r.map .int)
theorem uL (l:List D)(i:Nat)(h:i<=l.length):cutD l none (some (i:Int))=l.take i:=by
 unfold cutD;rw[HT.sIx_none,HT.sIx_nat,wZ h];simp
theorem kC (l:List D)(i:Nat)(h:i<=l.length):cutD l (some (i:Int)) none=l.drop i:=by
 unfold cutD;rw[HT.sIx_none,HT.sIx_nat,wZ h];rw[wH (by rw[rT];exact aC _)]
theorem Sm.pow {i:Int}{k:Nat}(h:i.natAbs<=2^k)(hk:k<9000):Sm i:=kW h (Nat.pow_lt_pow_right ac hk)
structure bX4 (p:List Int):Prop where
 lo:3<=p.length
 hi:p.length<=5
 small: ∀x∈p,x.natAbs<=499
theorem b17 {l:List Int}{b:Nat}(h: ∀x∈l,x.natAbs<=b)(i:Nat):(l.getD i 0).natAbs<=b:=by
 rw[aQ];cases e:l[i]? with
 | none=>exact cO _
 | some x=>exact h x (gM e)
structure oT (p:List Int):Prop where
 ok:bX4 p
 one: ∃q,p=q++[1]
noncomputable def aT6 (c:Int):Bool:=decide ((if c<0 then -c else c)<=499)
noncomputable def bM7 (p:List Int):Bool:=decide (3<=p.length)&&(decide (p.length<=5)&&(decide (p.getD (p.length-1) 0=1)&&p.all aT6))
theorem zX: ∀(q:List Int) (x:Int),(q++[x]).getD ((q++[x]).length-1) 0=x:=λq x=>by
 rw[fG,aQ,nY ae]
 simp
theorem aT7 (p:List Int):bM7 p=true↔oT p:=by
 unfold bM7;simp only[c8,fJ,gN];constructor
 ·rintro⟨h1,h2,h3,h4⟩;refine⟨⟨h1,h2,λx hx=> ?_⟩,?_⟩
  ·have:=iQ (h4 x hx);split at this<;>lia
  ·rcases List.eq_nil_or_concat p with rfl| ⟨q,x,rfl⟩
   ·simp at h1
   ·rw[List.concat_eq_append]at h3⊢;rw[zX]at h3;exact⟨q,by rw[h3]⟩
 ·intro h;refine⟨h.ok.lo,h.ok.hi,?_,λx hx=>bB ?_⟩
  ·obtain⟨q,rfl⟩:=h.one;exact zX q 1
  ·have:=h.ok.small x hx;split<;>lia
theorem bX5 {p:List Int}(h: ¬oT p):bM7 p=false:=Bool.eq_false_iff.mpr λz=>h ((aT7 p).mp z)
theorem bD0 {p:List Int}(h:0<p.length):atI (p.map D.int) (-1)=some (.int<|p.getD (p.length-1) 0):=by
 rcases List.eq_nil_or_concat p with rfl| ⟨q,x,rfl⟩
 ·simp at h
 ·rw[List.concat_eq_append,zX,bU];exact bG4 _ _
def kD:Φ:=λds Q=> ∃p:List Int,ds=[bL p]/\p.length<=1000/\Q (.pu<|.bl<|bM7 p)
def oU:US:=(fA<|aZ bJ5<|aA (iJ [] [none,none] 1 (oQ<|aE 0) (dX 0) (λρ Q=>Q true ρ)<|uOp (mC λi j=>decide (i<=j)) (aZ bU1<|aA (aE 0) aL)<|uC<|.int 499) aL)
def kE:US:=(aX (gT (uOr (cS<|uOp (mC λi j=>decide (i<j)) (kI<|aS 0)<|uC<|.int 3)<|uOr (cS<|uOp (mC λi j=>decide (j<i)) (kI<|aS 0)<|uC<|.int 5)<|cS<|uOp (iW true) (uIx (aS 0)<|a28<|uC<|.int 1)<|uC<|.int 1) (fA<|uC<|.bl false) dP) oU)
theorem yO: ∀ds Q,kD ds Q->kE {nx:=λ_=>Q (.pu .non),rt:=Q} (init ["r"] ds):=by
 rintro ds Q ⟨p,rfl,hn,h⟩;have lp:(p.map D.int).length=p.length:=aI _;unfold kE;simp only[bL];show(aX _ _:US) _ [some<|.pu<|.tup<|p.map .int];rw[bG];walk_at "u";rw[lp];unfold bM7 at h
 by_cases h3:(p.length:Int)<3
 ·rw[a8 h3];rw[bD ad]at h
  exact h
 rw[a7 h3];rw[bB<|show 3<=p.length by lia,Bool.true_and]at h
 by_cases h5:(5:Int)< (p.length:Int)
 ·rw[a8 h5];rw[bD<|show ¬p.length<=5 by lia]at h
  exact h
 rw[a7 h5];rw[bB<|show p.length<=5 by lia,Bool.true_and]at h
 rw[bD0 ad]
 dsimp only
 by_cases h1:p.getD (p.length-1) 0=1
 ·rw[bB h1,Bool.true_and]at h;rw[a7 λz=>z h1]
  unfold oU;rw[sY,jG,jH];refine j5 (t0:=0) p.length (λk=>(p.map D.int).getD k .non) [some<|.pu<|.tup<|p.map .int] ?_ ad (λx l=>[x,some<|.ow l]) none rfl (λ_ _ _=>rfl) (λ_ _=>cM _) (λ_ _ _ q=>q) (λ_ _ _=>rfl) (λk=> .bl (aT6<|p.getD k 0)) ?_ ?_
  ·intro Q' q;simp only[oQ];walk_at "u";rw[lp];exact q
  ·intro k l Q' hk q;have ek:(p.map D.int).getD k .non= .int (p.getD k 0):=by
    rw[aQ,dD,aQ,bJ hk];rfl
   rw[ek]at q⊢;walk_at "u";exact q
  ·have e:((List.range p.length).map λk=>D.bl (aT6<|p.getD k 0))=(p.map aT6).map D.bl:=by
    rw[cE];refine i9 ae λi h1 h2=> ?_
    simp at h1
    simp[h1]
   rw[e];walk_at "u";rw[sV];show Q (.pu<|.bl<|(p.map aT6).all id);rw[List.all_map];exact h
 ·rw[bD h1]at h;rw[a8 h1];exact h
noncomputable def rts3 (a b c:Int):List Int:=[-(a*b*c),a*b+a*c+b*c,-a-b-c]
noncomputable def bX6 (row:List Int)(r:Int):Nat->List Int
 | 0=>0::row
 | k+1=>(bX6 row r k).set k ((bX6 row r k).getD k 0-r*row.getD k 0)
noncomputable def c03 (rs:List Int):List Int:=rs.foldl (λrow r=>bX6 row r row.length) [1]
theorem fr3 (a b c:Int):c03 [a,b,c]=rts3 a b c++[1]:=by
 simp[c03,bX6,rts3]
 grind
theorem b18 {js:List Nat}{cap:List (Option Nat)}{last t0 t1:Nat}{ui:UI}{te:UE}{ρ:Ev}{Q:B->Ev->Prop}(n:Nat)(i1 i2:Nat->D)(ρ1:Ev)(hui: ∀Q:Nat->(Nat->D)->Ev->Prop,Q n (λi=> .tup [i1 i,i2 i]) ρ1->ui ρ Q)(hn:n<=1000000)
  (G:Option B->Option B->List D->Ev) (x0 y0:Option B) (h0:iI (pW ρ1 js) cap last=G x0 y0 []) (h1: ∀x y l b c,((G x y l).set t0<|some b).set t1 (some c)=G (some b) (some c) l) (h1': ∀x y l,t0< (G x y l).length/\t1< (G x y l).length)
  (h2: ∀x y l (Q:List D->Prop),Q l->kK (G x y l) last Q) (h3: ∀x y l l',(G x y l).set last (some<|.ow l')=G x y l')
  (f:Nat->D) (hte: ∀i l (Q':B->Ev->Prop),i<n->Q' (.pu<|f i) (G (some<|.pu<|i1 i) (some<|.pu<|i2 i) l)->te (G (some<|.pu<|i1 i) (some<|.pu<|i2 i) l) Q') (hq:Q (.ow<|(List.range n).map f) (pW ρ1 js)) :
  iJ js cap last ui (pH<|cV t0<|cV t1 jY) (λρ Q=>Q true ρ) te ρ Q:=by
 refine hui _ ⟨λi ρ'=> ∃x y,ρ'=G x y ((List.range i).map f),⟨x0,y0,h0⟩,?_,?_⟩
 ·rintro i ρ' hi ⟨x,y,rfl⟩;refine⟨(h1' _ _ _).1,by rw[bT];exact(h1' _ _ _).2,rfl,?_⟩
  rw[h1];dsimp only;rw[a8 rfl];refine hte i _ _ hi (h2 _ _ _ _ ⟨?_,some<|.pu<|i1 i,some<|.pu<|i2 i,?_⟩)
  ·rw[aI,iR];exact bO hi (aV hn ac)
  ·rw[h3,fL,bU];rfl
 ·rintro ρ' ⟨x,y,rfl⟩;exact h2 _ _ _ _ hq
noncomputable def rwF (n:Nat)(f:Nat->Int):List Int:=(List.range n).map f
theorem nP (n:Nat)(f:Nat->Int):(rwF n f).length=n:=by simp[rwF]
theorem a52 {n i:Nat}{f:Nat->Int}(h:i<n):(rwF n f)[i]? =some (f i):=by simp[rwF,h]
theorem bS (n:Nat)(f:Nat->Int):((rwF n f).map D.int).length=n:=by simp[rwF]
theorem qR {n i:Nat}{f:Nat->Int}(h:i<n):((rwF n f).map D.int)[i]? =some (.int<|f i):=by simp[rwF,h]
theorem mE {n i:Nat}{f:Nat->Int}(h:i<n):((rwF n f).map D.int).getD i .non= .int (f i):=by rw[aQ,qR h];rfl
theorem sZ {n i:Nat}{f:Nat->Int}(h:i<n):atI ((rwF n f).map D.int) (i:Int)=some (.int<|f i):=c6 (qR h)
theorem aN3 {n j:Nat}{f:Nat->Int}{v:Int}(h:j<n):((rwF n f).map D.int).set j (.int v)=(rwF n λx=>if x=j then v else f x).map D.int:=by
 apply rP
 intro k
 by_cases hk:k<n
 ·rw[qR hk]
  by_cases e:j=k
  ·subst e;rw[bV (by rw[bS];exact hk),a8 rfl]
  ·rw[get_set_ne e,qR hk,a7 λz=>e z.symm]
 ·rw[iO (by rw[bT,bS];omega),iO (by rw[bS];omega)]
theorem hJ {n:Nat}{f g:Nat->Int}(h: ∀i,i<n->f i=g i):rwF n f=rwF n g:=by
 unfold rwF;apply kR;intro i hi;exact h i (cC.mp hi)
theorem rwF_of (r:List Int):r=rwF r.length (λj=>r.getD j 0):=by
 apply rP
 intro k
 by_cases hk:k<r.length
 ·rw[a52 hk,bJ hk,aQ,bJ hk];rfl
 ·rw[iO aa,iO (by rw[nP];omega)]
theorem aT8 (n:Nat)(f:Nat->Int):(List.range n).map (λk=>D.int (f k))=(rwF n f).map D.int:=by
 unfold rwF;rw[cE];rfl
theorem b19 {n i:Nat}(h:i<n):ixN n (i:Int)=some i:=by
 unfold ixN;have h2:(i:Int)< (n:Int):=aa
 simp[h,h2]
theorem aN4 (t:UE)(ρ:Ev)(Q:Bool->Ev->Prop):cS t ρ Q=t ρ (isB Q):=rfl
theorem a88 (g:D->D->(B->Prop)->Prop)(ta tb:UE)(ρ:Ev)(Q:B->Ev->Prop):uOp g ta tb ρ Q=ta ρ λx ρ1=>tb ρ1 λy ρ2=>g x.d y.d λb=>Q b ρ2:=rfl
theorem fP (c:UT)(t u:US)(E:UD)(ρ:Ev):gT c t u E ρ=c ρ λb ρ1=>if b=true then t E ρ1 else u E ρ1:=rfl
theorem aT9: ∀r:List Int,pdL (r.map D.int)=some (r.map PyData.int)
 | []=>by simp[pdL]
 | a::r=>by simp[pdL,pd,aT9 r]
theorem b21 (r:List Int):pd (bL r)=some (.tuple<|r.map .int):=by simp[bL,pd,aT9]
theorem a89: ∀r:List Int,PyData.depthAll (r.map PyData.int)=0
 | []=>by simp[PyData.depthAll]
 | a::r=>by simp[PyData.depthAll,PyData.depth,a89 r]
theorem bX7 (r:List Int):(PyData.tuple<|r.map .int).depth<=60:=by simp[PyData.depth,a89]
theorem aN5 (a b:List Int):(PyData.tuple<|a.map .int).eqv (.tuple<|b.map .int)=decide (a=b):=by simp only[PyData.eqv];exact PySem.W.ked_eqvAll a b
theorem aU0 {neg:Bool}{a b:List Int}{Q:B->Prop}(h:Q (.pu<|.bl<|neg ^^ decide (a=b))):aM5 neg (bL a) (bL b) Q:=⟨_,_,b21 a,b21 b,bX7 a,by rw[aN5];exact h⟩
noncomputable def fQ (f:Nat->Int):Nat->Nat
 | 0=>0
 | n+1=>if f n=0 then fQ f n else n+1
theorem yP (f:Nat->Int): ∀n,fQ f n<=n
 | 0=>aC _
 | n+1=>by
  unfold fQ;split
  ·have:=yP f n;lia
  ·exact aC _
theorem aI8 (f:Nat->Int): ∀n,fQ f n=0\/f (fQ f n-1)≠0
 | 0=> .inl rfl
 | n+1=>by
  unfold fQ;split
  ·exact aI8 f n
  ·rename_i h
   exact .inr (by simpa using h)
theorem aI9 (f:Nat->Int): ∀n m,fQ f n<=m->m<n->f m=0
 | n+1,m,h1,h2=>by
  unfold fQ at h1;split at h1
  ·rename_i h
   by_cases e:m=n
   ·rw[e];exact h
   ·exact aI9 f n m h1 ad
  ·lia
theorem pJ {f:Nat->Int}{k:Nat}: ∀{n:Nat},k<=n->(∀m,k<=m->m<n->f m=0)->(k=0\/f (k-1)≠0)->fQ f n=k
 | 0,h,_,_=>by have:k=0:=ad
               rw[this];rfl
 | n+1,h,hz,hl=>by
  unfold fQ
  by_cases e:k=n+1
  ·subst e;rw[a7];rcases hl with h0|h0
   ·lia
   ·simpa using h0
  ·rw[a8<|hz n ad ad]
   exact pJ ad (λm h1 h2=>hz m h1 ad) hl
theorem a90 {f g:Nat->Int}: ∀{n:Nat},(∀m,m<n->f m=g m)->fQ f n=fQ g n
 | 0,_=>rfl
 | n+1,h=>by
  unfold fQ;rw[h n<|Nat.lt_succ_self n,a90 λm hm=>h m (fT hm)]
theorem bM8 (n k:Nat)(f:Nat->Int)(h:k<=n):(rwF n f).take k=rwF k f:=by
 unfold rwF;rw[<-kZ,List.take_range,wZ h]
def uM:Φ:=λds Q=> ∃(n:Nat) (f:Nat->Int),ds=[bL<|rwF n f]/\n<=1000/\Q (.pu<|bL<|rwF (fQ f n) f)
def a91:US:=(aX (cP 1<|kI<|aS 0)<|aX (aY9 (aD9 (cS<|uOp (mC λi j=>decide (j<i)) (aE 1)<|uC<|.int 0)<|cS<|uOp (iW false) (uIx (aS 0)<|uOp M.gSub (aE 1)<|uC<|.int 1)<|uC<|.int 0)<|bB3 1 (gI2 λi j Q=>Q (.pu<|.int<|i-j))<|uC<|.int 1)<|fA<|aS2 (aE 0) eI<|iU<|aE 1)
theorem bM9: ∀ds Q,uM ds Q->a91 {nx:=λ_=>Q (.pu .non),rt:=Q} (init ["r","s"] ds):=by
 rintro ds Q ⟨n,f,rfl,hn,h⟩;unfold a91;simp only[bL];show(aX _ _:US) _ [some<|.pu<|.tup<|(rwF n f).map .int,none];rw[bG];walk_at "u";rw[bS];refine⟨λm ρ=>ρ=[some<|.pu<|.tup<|(rwF n f).map .int,some<|.pu<|.int (m:Int)]/\m<=n/\fQ f m=fQ f n,⟨n,rfl,aC _,rfl⟩,?_⟩
 rintro m ρ ⟨rfl,hm,hc⟩;walk_at "u";have fin:fQ f m=m->Q (.pu<|.tup<|cutD ((rwF n f).map D.int) none<|some (m:Int)):=λe=>by
  rw[uL _ _ (by rw[bS];exact hm),<-kZ,bM8 _ _ _ hm]
  rw[<-hc,e]at h;exact h
 split
 ·rename_i h0
  obtain⟨m',rfl⟩: ∃m',m=m'+1:=⟨m-1,ad⟩
  rw[show((m'+1:Nat):Int)-1=(m':Int)by lia,sZ<|show m'<n by lia]
  dsimp only;split
  ·rename_i h1
   refine⟨m',ad,?_,ad,?_⟩
   ·simp
   ·rw[<-hc];show _=if f m'=0 then fQ f m' else m'+1;rw[a8 h1]
  ·rename_i h1
   refine fin ?_
   show(if f m'=0 then fQ f m' else m'+1)=m'+1
   rw[a7 h1]
 ·have:m=0:=ad
  subst this;exact fin rfl
noncomputable def shF (b:Nat->Int)(n m:Nat):Int:=if n<=m then b (m-n)else 0
noncomputable def divS (b:Nat->Int)(d n:Nat)(f:Nat->Int):Nat->Int:=λm=>f m-f (n+d)*shF b n m
noncomputable def divL (b:Nat->Int)(d:Nat):Nat->(Nat->Int)->Nat->Int
 | 0,f=>f
 | n+1,f=>divL b d n (divS b d n f)
noncomputable def divQ (b:Nat->Int)(d:Nat):Nat->(Nat->Int)->Nat->Int
 | 0,_=>λ_=>0
 | n+1,f=>λx=>if x=n then f (n+d)else divQ b d n (divS b d n f) x
structure PartOk (L d a e:Nat)(f b:Nat->Int):Prop where
 L9:L<=100
 d9:d<=100
 one:b d=1
 beyond: ∀j,d<j->b j=0
 fb: ∀m,m<L->(f m).natAbs<=2^a
 bb: ∀j,(b j).natAbs<=2^e
 room:a+(e+1)*L<8000
 e8:e<8000
theorem b22 {b f:Nat->Int}{d n a e L:Nat}(hn:n+d<L)(hf: ∀m,m<L->(f m).natAbs<=2^a)(hb: ∀j,(b j).natAbs<=2^e): ∀m,m<L->(divS b d n f m).natAbs<=2^(a+(e+1)):=by
 intro m hm;unfold divS;have h1:=hf m hm;have h2:=hf (n+d) hn;have h3:(shF b n m).natAbs<=2^e:=by
  unfold shF;split
  ·exact hb _
  ·simp
 have h4:(f (n+d)*shF b n m).natAbs<=2^a*2^e:=by rw[Int.natAbs_mul];exact oE h2 h3
 have h5:=Int.natAbs_sub_le (f m) (f (n+d)*shF b n m);have e1:2^(a+(e+1))=2^a*2^e+2^a*2^e:=by rw[<-l6,pow_succ,pow_add];lia
 have h6:2^a<=2^a*2^e:=Nat.le_mul_of_pos_right _ (Nat.pow_pos ac)
 lia
theorem aJ0 (k:Nat):(replicate k [D.int 0]).flatten=(rwF k λ_=>0).map .int:=by
 rw[bM4]
 congr 1
 apply i9<;>simp[rwF]
def lJ:Φ:=λds Q=> ∃(L d a e:Nat) (f b:Nat->Int),ds=[bL<|rwF L f,bL<|rwF (d+1) b]/\PartOk L d a e f b/\
 Q (.pu<|.tup [bL<|rwF (fQ (divQ b d (L-d) f)<|L-d)<|divQ b d (L-d) f,bL<|rwF (fQ (divL b d (L-d) f) L)<|divL b d (L-d) f])
def pK:US:=(fA<|gD<|aA (aZ uM<|aA (aZ iX<|aA (aE 5) aL) aL)<|aA (aZ uM<|aA (aZ iX<|aA (aE 4) aL) aL) aL)
def pL:US:=(aX (jZ (bK7<|aA (aE 3) aL) (dX 6)<|aX (cP 7<|uIx (aS 4)<|uOp dJ (aE 6)<|aE 2)<|aX (aG9 5 (aE 7)<|aE 6)<|jZ (bK6<|aA (aE 1) aL) (pH<|cV 8<|cV 9 jY)<|bK3 4 (λi j=>i-j) (uOp dJ (aE 6)<|aE 8)<|uOp iV (aE 7)<|aE 9) pK)
def lK:US:=(aX (cP 2<|uOp M.gSub (kI<|aS 1)<|uC<|.int 1)<|aX (cP 3<|aZ bI8<|aA (uC<|.int 0)<|aA (uOp M.gSub (kI<|aS 0)<|aE 2) aL)<|aX (cP 4<|aZ sT<|aA (aE 0) aL)<|aX (cP 5<|uOp iV (dO<|aA (uC<|.int 0) aL)<|aE 3) pL)
theorem zY: ∀ds Q,lJ ds Q->lK {nx:=λ_=>Q (.pu .non),rt:=Q} (init ["f","g","d","s","l","q","a","m","j","c"] ds):=by
 rintro ds Q ⟨L,d,a,e,f,b,rfl,ok,h⟩;have L9:=ok.L9;have d9:=ok.d9;have room:=ok.room;unfold lK;simp only[bL]at h⊢;show(aX _ _:US) _ [some<|.pu<|.tup<|(rwF L f).map .int,some<|.pu<|.tup<|(rwF (d+1) b).map .int,none,none,none,none,none,none,none,none];walk_at "u";rw[bS,bS];obtain⟨N,hN⟩: ∃N:Nat,N=L-d:=⟨_,rfl⟩;have e1:((d+1:Nat):Int)-1=(d:Int):=ad
 have e2:(if(L:Int)-(d:Int)>0 then(L:Int)-(d:Int)else 0)=(N:Int):=by split<;>lia
 rw[e1,e2,fH,aJ0];refine⟨ac,⟨ad,ad,aV (show 1*N<=100 by lia) ac⟩,?_⟩
 unfold pL;rw[bG];rw[<-hN]at h;refine cG N (λk=> .int (((N:Int))-1-k)) [some<|.pu<|.tup<|(rwF L f).map .int,some<|.pu<|.tup<|(rwF (d+1) b).map .int,some<|.pu<|.int (d:Int),some<|.pu<|.int (N:Int),some<|.ow<|(rwF L f).map .int,some<|.ow<|(rwF N λ_=>0).map .int,none,none,none,none] ?_
  (λk ρ=> ∃g q z6 z7 z8 z9,ρ=[some<|.pu<|.tup<|(rwF L f).map .int,some<|.pu<|.tup<|(rwF (d+1) b).map .int,some<|.pu<|.int (d:Int),some<|.pu<|.int (N:Int),some<|.ow<|(rwF L g).map .int,some<|.ow<|(rwF N q).map .int,z6,z7,z8,z9]/\
   divL b d (N-k) g=divL b d N f/\(∀x,x<N->divQ b d N f x=if x<N-k then divQ b d (N-k) g x else q x)/\ ∀m,m<L->(g m).natAbs<=2^(a+(e+1)*k))
  ⟨f,λ_=>0,none,none,none,none,rfl,rfl,λx hx=>by rw[sub_zero,a8 hx],λm hm=>by simpa using ok.fb m hm⟩ ?_ ?_
 ·intro Q' q;walk_at "u";refine⟨⟨ad,ad⟩,?_⟩
  rw[fH];exact q
 ·rintro k ρ hk ⟨g,q,z6,z7,z8,z9,rfl,hL,hQ,hb⟩;obtain⟨i,hi⟩: ∃i:Nat,i=N-1-k:=⟨_,rfl⟩;have ei:(N:Int)-1-(k:Int)=(i:Int):=ad
  have hiN:i<N:=ad
  have hid:i+d<L:=ad
  rw[ei];have c1:(i:Int)+(d:Int)=((i+d:Nat):Int):=ad
  walk_at "u"
  rw[c1,sZ hid];dsimp only;rw[bS,b19 hiN];dsimp only;rw[aN3 hiN];refine⟨ae,?_⟩
  have smg:Sm (g<|i+d):=Sm.pow (hb _ hid) (by
   have:(e+1)*k<=(e+1)*L:=kS _ ad
   lia)
  refine cG (d+1) (λj=> .tup [.int (j:Int),((rwF (d+1) b).map D.int).getD j .non]) [some<|.pu<|.tup<|(rwF L f).map .int,some<|.pu<|.tup<|(rwF (d+1) b).map .int,some<|.pu<|.int (d:Int),some<|.pu<|.int (N:Int),some<|.ow<|(rwF L g).map .int,some<|.ow<|(rwF N λx=>if x=i then g (i+d)else q x).map .int,some<|.pu<|.int (i:Int),some<|.pu<|.int<|g<|i+d,z8,z9] ?_
   (λj ρ=> ∃z8 z9,ρ=[some<|.pu<|.tup<|(rwF L f).map .int,some<|.pu<|.tup<|(rwF (d+1) b).map .int,some<|.pu<|.int (d:Int),some<|.pu<|.int (N:Int),some<|.ow<|(rwF L λm=>if m<i+j then divS b d i g m else g m).map .int,some<|.ow<|(rwF N λx=>if x=i then g (i+d)else q x).map .int,some<|.pu<|.int (i:Int),some<|.pu<|.int<|g<|i+d,z8,z9]) ⟨z8,z9,?_⟩ ?_ ?_
  ·intro Q' qq;walk_at "u";rw[bS];exact qq
  ·have:(rwF L λm=>if m<i+0 then divS b d i g m else g m)=rwF L g:=by
    apply hJ
    intro m hm
    by_cases c:m<i+0
    ·rw[a8 c];unfold divS shF;rw[a7 ad]
     lia
    ·rw[a7 c]
   rw[this]
  ·rintro j ρ hj ⟨z8,z9,rfl⟩;rw[mE hj];have hij:i+j<L:=ad
   have c2:(i:Int)+(j:Int)=((i+j:Nat):Int):=ad
   simp only[bK3];walk_at "u";rw[c2,bS];refine⟨ae,ae,trivial,_,i+j,g<|i+j,rfl,b19 hij,by rw[qR hij,a7 ad],.inr ⟨smg,Sm.pow (ok.bb j) (by have:=ok.e8;lia)⟩,_,rfl,some<|.pu<|.int (j:Int),some<|.pu<|.int<|b j,?_⟩
   rw[aN3 hij];have:(rwF L λx=>if x=i+j then g (i+j)-g (i+d)*b j else if x<i+j then divS b d i g x else g x)=rwF L λm=>if m<i+(j+1)then divS b d i g m else g m:=by
    apply hJ
    intro m hm
    by_cases c:m=i+j
    ·subst c;rw[a8 rfl,a8 ad]
     unfold divS shF;rw[a8 ad,show i+j-i=j by lia]
    ·rw[a7 c]
     by_cases c3:m<i+j
     ·rw[a8 c3,a8 ad]
     ·rw[a7 c3,a7 ad]
   rw[this]
  ·rintro ρ ⟨z8,z9,rfl⟩;have eg:(rwF L λm=>if m<i+(d+1)then divS b d i g m else g m)=rwF L (divS b d i g):=by
    apply hJ
    intro m hm
    by_cases c:m<i+(d+1)
    ·rw[a8 c]
    ·rw[a7 c];unfold divS shF;rw[a8 ad,ok.beyond _ ad]
     lia
   rw[eg];have en:N-k=i+1:=ad
   have en2:N-(k+1)=i:=ad
   rw[en]at hL hQ;refine⟨_,_,_,_,_,_,rfl,by rw[en2];exact hL,λx hx=> ?_,?_⟩
   ·rw[en2,hQ x hx]
    by_cases c:x<i
    ·rw[a8 c,a8 ad]
     show(if x=i then _ else divQ b d i (divS b d i g) x)=_
     rw[a7 ad]
    ·rw[a7 c]
     by_cases c2:x=i
     ·subst c2;rw[a8 ad,a8 rfl]
      show(if x=x then _ else _)=_
      rw[a8 rfl]
     ·rw[a7 ad,a7 c2]
   ·have:=b22 hid hb ok.bb;rw[show a+(e+1)*(k+1)=a+(e+1)*k+(e+1)by rw[mul_succ];lia]
    exact this
 ·rintro ρ ⟨g,q,z6,z7,z8,z9,rfl,hL,hQ,hb⟩;dsimp only;unfold pK;rw[sub_self]at hL hQ;have hg:g=divL b d N f:=hL;have hq: ∀x,x<N->divQ b d N f x=q x:=λx hx=>by rw[hQ x hx,a7 ad]
  walk_at "u"
  refine⟨N,q,rfl,ad,?_⟩
  refine⟨L,g,rfl,ad,?_⟩
  walk_at "u"
  refine⟨ac,?_⟩
  have e3:fQ (divQ b d N f) N=fQ q N:=a90 λm hm=>hq m hm
  have e4:rwF (fQ q N) (divQ b d N f)=rwF (fQ q N) q:=hJ λm hm=>hq m (by have:=yP q N;lia)
  rw[e3,e4,<-hg]at h;exact h
noncomputable def conv (u b:Nat->Int):Nat->Nat->Int
 | 0,_=>0
 | n+1,m=>conv u b n m+u n*shF b n m
theorem jX {u b:Nat->Int}{d:Nat}(hb: ∀j,d<j->b j=0): ∀(n m:Nat),n+d<=m->conv u b n m=0
 | 0,m,_=>rfl
 | n+1,m,h=>by
  show conv u b n m+u n*shF b n m=0
  rw[jX hb n m ad]
  unfold shF;rw[a8 ad,hb _ ad]
  lia
theorem aU1 {u b low:Nat->Int}{d:Nat}(h1:b d=1)(hb: ∀j,d<j->b j=0)(hl: ∀m,d<=m->low m=0): ∀(n:Nat),divL b d n (λm=>conv u b n m+low m)=low/\ ∀x,x<n->divQ b d n (λm=>conv u b n m+low m) x=u x
 | 0=>⟨by funext m;show 0+low m=low m;lia,λx hx=>ad⟩
 | n+1=>by
  have top:conv u b (n+1) (n+d)+low (n+d)=u n:=by
   show conv u b n (n+d)+u n*shF b n (n+d)+low (n+d)=u n
   rw[jX hb n _<|aC _,hl _ ad]
   unfold shF;rw[a8 ad,show n+d-n=d by lia,h1]
   lia
  have st:divS b d n (λm=>conv u b (n+1) m+low m)=λm=>conv u b n m+low m:=by
   funext m
   show(conv u b (n+1) m+low m)-(conv u b (n+1) (n+d)+low (n+d))*shF b n m=_
   rw[top];show conv u b n m+u n*shF b n m+low m-u n*shF b n m=_
   lia
  obtain⟨i1,i2⟩:=aU1 (u:=u) h1 hb hl n;refine⟨?_,λx hx=> ?_⟩
  ·show divL b d n (divS b d n _)=low
   rw[st];exact i1
  ·show(if x=n then _ else divQ b d n (divS b d n _) x)=u x
   rw[st]
   by_cases c:x=n
   ·rw[a8 c,c];exact top
   ·rw[a7 c];exact i2 x ad
theorem aU2 {n:Nat}{f:Nat->Int}(h:0<n):atI ((rwF n f).map D.int) (-1)=some (.int<|f<|n-1):=by
 unfold L2.atI;have e:ixN ((rwF n f).map D.int).length (-1)=some (n-1):=by
  unfold ixN;rw[bS,a7 ac,a8 ad]
  congr 1
  lia
 rw[e];exact qR ad
theorem b23 {f:Nat->Int}{n:Nat}(hf: ∀m,n<=m->f m=0): ∀m,fQ f n<=m->f m=0:=λm hm=>by
 by_cases c:m<n
 ·exact aI9 f n m hm c
 ·exact hf m ad
noncomputable def md (p:Int)(f:Nat->Int):Nat->Int:=λj=>f j%p
noncomputable def a92 (c p:Int):Nat->Int
 | 0=>1
 | n+1=>a92 c p n*c%p
theorem a93 {c p:Int}(hp:2<=p): ∀n,0<=a92 c p n/\a92 c p n<p
 | 0=>⟨by show(0:Int)<=1;lia,by show(1:Int)<p;lia⟩
 | n+1=>⟨b9 _ ad,b7 _ ad⟩
structure Pr (p:Int):Prop where
 lo:2<=p
 hi:p<200
 inv: ∀c:Int,0<c->c<p->a92 c p (p.toNat-2)*c%p=1
def Cg (p:Int)(f g:Nat->Int):Prop:= ∀m,f m%p=g m%p
theorem Cg.divS {p:Int}{b f g:Nat->Int}{d n:Nat}(h:Cg p f g):Cg p (divS b d n f) (divS b d n g):=λm=>by
 show(f m-f (n+d)*shF b n m)%p=(g m-g (n+d)*shF b n m)%p
 have h1:=h m;have h2:f (n+d)*shF b n m%p=g (n+d)*shF b n m%p:=by rw[eQ,h<|n+d,<-eQ]
 rw[oI,h1,h2,<-oI]
theorem Cg.divL {p:Int}{b:Nat->Int}{d:Nat}: ∀(n:Nat) {f g:Nat->Int},Cg p f g->Cg p (divL b d n f) (divL b d n g)
 | 0,_,_,h=>h
 | n+1,_,_,h=>Cg.divL n h.divS
theorem Cg.divQ {p:Int}{b:Nat->Int}{d:Nat}: ∀(n:Nat) {f g:Nat->Int},Cg p f g->Cg p (divQ b d n f) (divQ b d n g)
 | 0,_,_,h=>λ_=>rfl
 | n+1,f,g,h=>λx=>by
  show(if x=n then f (n+d)else M.divQ b d n (M.divS b d n f) x)%p=(if x=n then g (n+d)else M.divQ b d n (M.divS b d n g) x)%p
  by_cases c:x=n
  ·rw[a8 c,a8 c];exact h _
  ·rw[a7 c,a7 c];exact Cg.divQ n h.divS x
theorem a19 {b:Nat->Int}{d:Nat}: ∀(n:Nat) (f:Nat->Int) (x:Nat),n<=x->divQ b d n f x=0
 | 0,_,_,_=>rfl
 | n+1,f,x,h=>by
  show(if x=n then f (n+d)else divQ b d n (divS b d n f) x)=0
  rw[a7 ad]
  exact a19 n _ x ad
theorem a53 {p:Int}{u u' b b':Nat->Int}(h: ∀i j,u' i*b' j%p=u i*b j%p): ∀n,Cg p (conv u' b' n) (conv u b n)
 | 0,_=>rfl
 | n+1,m=>by
  show(conv u' b' n m+u' n*shF b' n m)%p=(conv u b n m+u n*shF b n m)%p
  have h1:=a53 h n m;have h2:u' n*shF b' n m%p=u n*shF b n m%p:=by
   unfold shF
   by_cases c:n<=m
   ·rw[a8 c,a8 c];exact h _ _
   ·rw[a7 c,a7 c,bQ,bQ]
  rw[fV,h1,h2,<-fV]
theorem aU3 {u b:Nat->Int}{d U:Nat}(hb: ∀j,d<j->b j=0):conv u b (U+1) (U+d)=u U*b d:=by
 show conv u b U (U+d)+u U*shF b U (U+d)=_
 rw[jX hb U _<|aC _];unfold shF;rw[a8 ad,show U+d-U=d by lia]
 lia
theorem bN0 {p t:Int}{B0 u low A:Nat->Int}{d U n:Nat}(hp:2<=p)(hB: ∀j,d<j->B0 j=0)(hU:U=0\/u (U-1)≠0)(uR: ∀j,0<=u j/\u j<p)(uz: ∀j,U<=j->u j=0)(lz: ∀j,d<=j->low j=0)(lR: ∀j,0<=low j/\low j<p)
  (ht:t*B0 d%p=1) (hA: ∀m,A m=(conv u B0 U m+low m)%p) (hn:U+d<=n) :
  let b:=λj=>t*B0 j%p
  let LA:=fQ A n
  LA<=U+d/\(∀j,t*divQ b d (LA-d) A j%p=u j)/\(∀j,divL b d (LA-d) A j%p=low j)/\(∀m,LA<=m->divL b d (LA-d) A m%p=0):=by
 intro b LA;have b1:b d=1:=ht;have bz: ∀j,d<j->b j=0:=λj hj=>by
  show t*B0 j%p=0
  rw[hB j hj,bQ,c9]
 have tc: ∀x:Int,t*(B0 d*x)%p=x%p:=λx=>by
  rw[<-jQ,eQ,ht,sN,gQ]
 have cg:Cg p A (λm=>conv (λi=>B0 d*u i) b U m+low m):=λm=>by
  rw[hA m,gQ];have:=a53 (p:=p) (u:=u) (b:=B0) (u':=λi=>B0 d*u i) (b':=b) (λi j=>by
   show B0 d*u i*(t*B0 j%p)%p=u i*B0 j%p
   rw[eQ,gQ,<-eQ];have e:B0 d*u i*(t*B0 j)=t*(B0 d*(u i*B0 j)):=by
    simp only[sJ,Int.mul_left_comm,jQ]
   rw[e,tc]) U m
  show(conv u B0 U m+low m)%p=(conv (λi=>B0 d*u i) b U m+low m)%p
  rw[fV,<-this,<-fV]
 obtain⟨e1,e2⟩:=aU1 (u:=λi=>B0 d*u i) (low:=low) b1 bz lz U
 have Az: ∀m,U+d<=m->A m=0:=λm hm=>by
  rw[hA m,jX hB U m hm,lz m ad]
  exact c9 _
 have hL:(U=0/\LA<=d)\/(0<U/\LA=U+d):=by
  have hle:LA<=U+d:=by
   rcases aI8 A n with h|h
   ·show fQ A n<=U+d
    lia
   ·exact w6 λq=>h (Az _ (by show U+d<=LA-1;lia))
  by_cases c:U=0
  ·exact .inl ⟨c,ad⟩
  ·refine .inr ⟨ad,?_⟩
   refine pJ hn (λm m1 m2=>Az m m1) (.inr λq=> ?_)
   obtain⟨U',rfl⟩: ∃U',U=U'+1:=⟨U-1,ad⟩
   rw[show U'+1+d-1=U'+d by lia,hA,aU3 hB,lz _ ad,gR]at q
   have h1:=tc (u U');rw[eQ,show B0 d*u U'=u U'*B0 d from sJ _ _,q,bQ,c9,dE (uR _).1 (uR _).2]at h1
   rcases hU with h|h
   ·lia
   ·exact h (by simpa using h1.symm)
 have hN:LA-d=U:=ad
 have r: ∀j,divL b d U A j%p=low j:=λj=>by
  rw[Cg.divL U cg j,e1,dE (lR j).1 (lR j).2]
 refine⟨ad,λj=> ?_,λj=>by rw[hN];exact r j,λm hm=> ?_⟩
 ·rw[hN]
  by_cases c:j<U
  ·have h1:=Cg.divQ (b:=b) (d:=d) U cg j;rw[e2 j c]at h1;rw[eQ,h1,<-eQ];show t*(B0 d*u j)%p=u j;rw[tc,dE (uR _).1 (uR _).2]
  ·rw[a19 U A j ad,uz j ad,bQ,c9]
 ·rw[hN];rcases hL with⟨h1,h2⟩| ⟨h1,h2⟩
  ·subst h1;show A m%p=0;rw[b23 (λm hm=>Az m ad) m hm]
   exact c9 _
  ·rw[r m];exact lz m ad
def gU:Φ:=λds Q=> ∃(n:Nat) (f:Nat->Int) (p:Int),ds=[bL<|rwF n f,.int p]/\n<=1000/\0<p/\Q (.pu<|bL<|rwF (fQ (md p f) n)<|md p f)
def pZ:US:=(fA<|aZ uM<|aA (aZ iX<|aA (iJ [1] [none,some 1,none] 2 (oQ<|aE 0) (dX 0) (λρ Q=>Q true ρ)<|uOp gI (aE 0)<|aE 1) aL) aL)
theorem bX8 (Q:B->Ev->Prop)(n:Nat)(f:Nat->Int)(p:Int)(hn:n<=1000)(hp:0<p)(k:Nat->D)(eH:Ev)(x0:D)(hx:x0=bL (rwF n f)\/x0= .lst ((rwF n f).map .int))(h:Q (.ow<|(rwF n<|md p f).map .int) (some (.pu x0)::some (.pu<|.int p)::eH)) :
  (iJ [1] [none,some 1,none] 2 (oQ<|aE 0) (dX 0) (λρ Q=>Q true ρ) (uOp gI (aE 0)<|aE 1):UE) (some (.pu x0)::some (.pu<|.int p)::eH) Q:=by
 refine j5 (t0:=0) n (λk=>((rwF n f).map D.int).getD k .non) (some (.pu x0)::some (.pu<|.int p)::eH) ?_ ad (λx l=>[x,some<|.pu<|.int p,some<|.ow l]) none rfl (λ_ _ _=>rfl) (λ_ _=>cM _) (λ_ _ _ q=>q) (λ_ _ _=>rfl) (λk=> .int (md p f k)) ?_ ?_
 ·intro Q' q;rcases hx with rfl|rfl
  ·simp only[bL]at q⊢;walk_at "u";rw[bS];exact q
  ·walk_at "u"
   rw[bS];exact q
 ·intro k l Q' hk q;rw[mE hk]at q⊢;walk_at "u";refine⟨ad,?_⟩
  rw[bN _ hp];exact q
 ·rw[aT8];exact h
theorem aE6: ∀ds Q,gU ds Q->pZ {nx:=λ_=>Q (.pu .non),rt:=Q} (init ["r","p"] ds):=by
 rintro ds Q ⟨n,f,p,rfl,hn,hp,h⟩;unfold pZ;show(fA _:US) _ [some<|.pu<|bL<|rwF n f,some<|.pu<|.int p];rw[sY,jG,jH,jG,jH];refine bX8 _ n f p hn hp (λ_=> .non) [] _ (.inl rfl) ?_
 walk_at "u"
 exact⟨n,md p f,rfl,hn,h⟩
theorem b24 (u b:Nat->Int)(i N:Nat):(rwF N λm=>if m<i+0 then conv u b (i+1) m else conv u b i m)=rwF N (conv u b i):=by
 apply hJ
 intro m hm
 by_cases c:m<i+0
 ·rw[a8 c];show conv u b i m+u i*shF b i m=_;unfold shF;rw[a7 ad]
  lia
 ·rw[a7 c]
theorem b25 {u b:Nat->Int}{i V N:Nat}(hz: ∀j,V<=j->b j=0):(rwF N λm=>if m<i+V then conv u b (i+1) m else conv u b i m)=rwF N (conv u b (i+1)):=by
 apply hJ
 intro m hm
 by_cases c:m<i+V
 ·rw[a8 c]
 ·rw[a7 c];show _=conv u b i m+u i*shF b i m;unfold shF;rw[a8 ad,hz _ ad]
  lia
theorem b26 (u b:Nat->Int)(i j N:Nat):(rwF N λx=>if x=i+j then conv u b i (i+j)+u i*b j else if x<i+j then conv u b (i+1) x else conv u b i x)=rwF N λm=>if m<i+(j+1)then conv u b (i+1) m else conv u b i m:=by
 apply hJ
 intro m hm
 by_cases c:m=i+j
 ·subst c;rw[a8 rfl,a8 ad]
  show _=conv u b i (i+j)+u i*shF b i (i+j)
  unfold shF;rw[a8 ad,show i+j-i=j by lia]
 ·rw[a7 c]
  by_cases c3:m<i+j
  ·rw[a8 c3,a8 ad]
  ·rw[a7 c3,a7 ad]
theorem yQ {u b:Nat->Int}{U:Nat}: ∀n,(∀j,U<=j->j<n->u j=0)->U<=n-> ∀m,conv u b n m=conv u b U m
 | 0,h,h2,m=>by rw[show U=0 by lia]
 | n+1,h,h2,m=>by
  by_cases c:U=n+1
  ·rw[c]
  ·show conv u b n m+u n*shF b n m=_
   rw[h n ad ad,yQ n (λj a c=>h j a ad) ad m]
   lia
theorem md_nat {p:Int}(h1:2<=p)(h2:p<200)(f:Nat->Int)(j:Nat):(md p f j).natAbs<=2^8:=by
 unfold md;have a1:=b9 (f j) (show p≠0 by lia)
 have a2:=b7 (f j) (show 0<p by lia)
 show _<=256
 lia
def pM:Φ:=λds Q=> ∃(n:Nat) (f:Nat->Int) (k p:Int),ds=[bL<|rwF n f,.int k,.int p]/\n<=1000/\0<=k/\k<200/\0<p/\Q (.pu<|bL<|rwF (fQ (λj=>k*f j%p) n) λj=>k*f j%p)
def uN:US:=(fA<|aZ gU<|aA (aZ iX<|aA (iJ [1] [none,some 1,none] 2 (oQ<|aE 0) (dX 0) (λρ Q=>Q true ρ)<|uOp iV (aE 1)<|aE 0) aL)<|aA (aE 2) aL)
theorem aU4: ∀ds Q,pM ds Q->uN {nx:=λ_=>Q (.pu .non),rt:=Q} (init ["f","k","p"] ds):=by
 rintro ds Q ⟨n,f,k,p,rfl,hn,k0,k9,hp,h⟩;unfold uN;show(fA _:US) _ [some<|.pu<|bL<|rwF n f,some<|.pu<|.int k,some<|.pu<|.int p];rw[sY,jG,jH,jG,jH]
 refine j5 (t0:=0) n (λi=>((rwF n f).map D.int).getD i .non) [some<|.pu<|bL<|rwF n f,some<|.pu<|.int k,some<|.pu<|.int p] ?_ ad (λx l=>[x,some<|.pu<|.int k,some<|.ow l]) none rfl (λ_ _ _=>rfl) (λ_ _=>cM _) (λ_ _ _ q=>q) (λ_ _ _=>rfl) (λi=> .int (k*f i)) ?_ ?_
 ·intro Q' q;simp only[bL]at q⊢;walk_at "u";rw[bS];exact q
 ·intro i l Q' hk q;rw[mE hk]at q⊢;walk_at "u";exact⟨cmL ad ad,q⟩
 ·rw[aT8];walk_at "u";exact⟨n,λi=>k*f i,p,rfl,hn,hp,h⟩
def mT:Φ:=λds Q=> ∃c p:Int,ds=[.int c,.int p]/\0<=c/\c<p/\2<=p/\p<200/\Q (.pu<|.int<|a92 c p<|p.toNat-2)
def mU:US:=(aX (cP 2<|uC<|.int 1)<|aX (jZ (kJ<|aA (uOp M.gSub (aE 1)<|uC<|.int 2) aL) (dX 3)<|cP 2<|uOp gI (uOp iV (aE 2)<|aE 0)<|aE 1)<|tO 2)
theorem a33: ∀ds Q,mT ds Q->mU {nx:=λ_=>Q (.pu .non),rt:=Q} (init ["c","p","v","s"] ds):=by
 rintro ds Q ⟨c,p,rfl,c0,c1,p2,p9,h⟩;unfold mU;show(aX _ _:US) _ [some<|.pu<|.int c,some<|.pu<|.int p,none,none];walk_at "u";refine cG (p.toNat-2) (λk=> .int (0+k)) [some<|.pu<|.int c,some<|.pu<|.int p,some<|.pu<|.int 1,none] ?_
  (λk ρ=> ∃z,ρ=[some<|.pu<|.int c,some<|.pu<|.int p,some<|.pu<|.int<|a92 c p k,z]) ⟨none,rfl⟩ ?_ ?_
 ·intro Q' q;walk_at "u";refine⟨⟨ad,ad⟩,?_⟩
  rw[show(p-2).toNat=p.toNat-2 by lia]
  exact q
 ·rintro k ρ hk ⟨z,rfl⟩;have:=a93 (c:=c) p2 k;walk_at "u";refine⟨ae,cmL ad ad,ad,some<|.pu<|.int<|0+(k:Int),?_⟩
  rw[bN _ ad]
  rfl
 ·rintro ρ ⟨z,rfl⟩;walk_at "u";exact h
def mV:Φ:=λds Q=> ∃(n k d:Nat) (f g:Nat->Int) (p:Int),ds=[bL<|rwF n f,bL<|rwF k g,.int p]/\n<=50/\k<=50/\Pr p/\(∀j,k<=j->g j=0)/\d<k/\(∀j,d<j->md p g j=0)/\md p g d≠0/\
 ∀t,t*md p g d%p=1->0<=t->t<p->
  let b:=λj=>t*md p g j%p
  let LA:=fQ (md p f) n
  let q:=divQ b d (LA-d) (md p f)
  let r:=divL b d (LA-d) (md p f)
  Q (.pu<|.tup [bL<|rwF (fQ (λj=>t*q j%p)<|fQ q<|LA-d) λj=>t*q j%p,bL<|rwF (fQ (md p r)<|fQ r LA)<|md p r])
def qS:US:=(fA<|gD<|aA (aZ pM<|aA (aE 5)<|aA (aE 4)<|aA (aE 2) aL)<|aA (aZ gU<|aA (aE 6)<|aA (aE 2) aL) aL)
def lL:US:=(aX (aY8 (aZ lJ<|aA (aZ gU<|aA (aE 0)<|aA (aE 2) aL)<|aA (aZ pM<|aA (aE 3)<|aA (aE 4)<|aA (aE 2) aL) aL)<|pH<|cV 5<|cV 6 jY) qS)
def mW:US:=(aX (cP 3<|aZ gU<|aA (aE 1)<|aA (aE 2) aL)<|aX (cP 4<|aZ mT<|aA (uIx (aS 3)<|a28<|uC<|.int 1)<|aA (aE 2) aL) lL)
theorem a34: ∀ds Q,mV ds Q->mW {nx:=λ_=>Q (.pu .non),rt:=Q} (init ["a","b","p","l","t","q","r"] ds):=by
 rintro ds Q ⟨n,k,d,f,g,p,rfl,hn,hk,pp,gz,dk,dz,d0,h⟩;have p2:=pp.lo;have p9:=pp.hi;unfold mW;show(aX _ _:US) _ [some<|.pu<|bL<|rwF n f,some<|.pu<|bL<|rwF k g,some<|.pu<|.int p,none,none,none,none];have ed:fQ (md p g) k=d+1:=pJ ad (λm m1 m2=>dz m ad) (.inr<|by simpa using d0)
 have c1:=b9 (g d) (show p≠0 by lia)
 have c2:=b7 (g d) (show 0<p by lia)
 have c3:0<md p g d:=by
  have:md p g d=g d%p:=rfl
  lia
 have tR:=a93 (c:=md p g d) p2 (p.toNat-2);have ht:=pp.inv _ c3 c2;generalize et:a92 (md p g d) p (p.toNat-2)=t at tR ht;have bA: ∀j,0<=t*md p g j%p/\t*md p g j%p<p:=λj=>⟨b9 _ ad,b7 _ ad⟩
 have hc:fQ (λj=>t*md p g j%p) (d+1)=d+1:=pJ (aC _) (λm a b=>ad) (.inr (by
  show t*md p g d%p≠0
  rw[ht];decide))
 have LA9:=yP (md p f) n;have low:bL (rwF (fQ (md p g) k)<|md p g)= .tup ((rwF (d+1)<|md p g).map .int):=by rw[ed];rfl
 walk_at "u"
 refine⟨k,g,p,rfl,ad,ad,?_⟩
 rw[low];walk_at "u";rw[aU2 ad]
 walk_at "u"
 refine⟨md p g d,p,rfl,ad,c2,p2,p9,?_⟩
 rw[et];show lL _ [some<|.pu<|bL<|rwF n f,some<|.pu<|bL<|rwF k g,some<|.pu<|.int p,some<|.pu<|bL<|rwF (d+1)<|md p g,some<|.pu<|.int t,none,none];unfold lL;walk_at "u";refine⟨n,f,p,rfl,ad,ad,?_⟩
 refine⟨d+1,md p g,t,p,rfl,ad,ad,ad,ad,?_⟩
 rw[hc];refine⟨fQ (md p f) n,d,8,8,md p f,λj=>t*md p g j%p,rfl,⟨ad,ad,ht,λj hj=>by
  show t*md p g j%p=0
  rw[dz j hj,bQ,c9],λm _=>md_nat p2 p9 f m,λj=>by
   have:=bA j;show(t*md p g j%p).natAbs<=256
   lia,ad,ac⟩,?_⟩
 have hh:=h t ht tR.1 tR.2;have q9:=yP (divQ (λj=>t*md p g j%p) d (fQ (md p f) n-d)<|md p f) (fQ (md p f) n-d)
 have r9:=yP (divL (λj=>t*md p g j%p) d (fQ (md p f) n-d)<|md p f) (fQ (md p f) n)
 simp only[]at hh;walk_at "u";refine⟨ae,ae,trivial,?_⟩
 unfold qS;walk_at "u";refine⟨_,_,t,p,rfl,ad,ad,ad,ad,?_⟩
 refine⟨_,_,p,rfl,ad,ad,?_⟩
 walk_at "u"
 exact⟨ac,hh⟩
theorem yR {js:List Nat}{cap:List (Option Nat)}{last t0:Nat}{ui:UI}{tt:UT}{te:UE}{ρ:Ev}{Q:B->Ev->Prop}(n:Nat)(it:Nat->D)(ρ1:Ev)(hui: ∀Q:Nat->(Nat->D)->Ev->Prop,Q n it ρ1->ui ρ Q)(hn:n<=1000)
  (G:Option B->List D->Ev) (x0:Option B) (h0:iI (pW ρ1 js) cap last=G x0 []) (h1: ∀x l b,(G x l).set t0 (some b)=G (some b) l) (h1': ∀x l,t0< (G x l).length) (h2: ∀x l (Q:List D->Prop),Q l->kK (G x l) last Q) (h3: ∀x l l',(G x l).set last (some<|.ow l')=G x l')
  (c:Nat->Bool) (f:Nat->D) (htt: ∀i l (Q':Bool->Ev->Prop),i<n->Q' (c i) (G (some<|.pu<|it i) l)->tt (G (some<|.pu<|it i) l) Q')
  (hte: ∀i l (Q':B->Ev->Prop),i<n->Q' (.pu<|f i) (G (some<|.pu<|it i) l)->te (G (some<|.pu<|it i) l) Q') (hq:Q (.ow<|((List.range n).filter c).map f) (pW ρ1 js)) :
  iJ js cap last ui (dX t0) tt te ρ Q:=by
 refine hui _ ⟨λi ρ'=> ∃x,ρ'=G x (((List.range i).filter c).map f),⟨x0,h0⟩,?_,?_⟩
 ·rintro i ρ' hi ⟨x,rfl⟩;refine⟨h1' _ _,?_⟩;rw[h1];dsimp only;refine htt i _ _ hi ?_
  by_cases hc:c i=true
  ·rw[a8 hc];refine hte i _ _ hi (h2 _ _ _ ⟨?_,some<|.pu<|it i,?_⟩)
   ·rw[aI];exact kW (List.length_filter_le ..) (by rw[iR];exact bO hi (aV hn ac))
   ·rw[h3,fL,List.filter_append,bU];simp[hc];rfl
  ·rw[a7 hc];refine⟨some<|.pu<|it i,?_⟩;rw[fL,List.filter_append,bU];simp[hc]
 ·rintro ρ' ⟨x,rfl⟩;exact h2 _ _ _ hq
noncomputable def prB (i k:Nat):Bool:=if(2:Int)+(i:Int)=2+(k:Int)then true else !decide (((2:Int)+(i:Int))%(2+(k:Int))=0)
noncomputable def prC (i:Nat):Bool:=((List.range 13).map<|prB i).all id
noncomputable def prL:List Int:=((List.range 198).filter prC).map λi:Nat=>(2:Int)+(i:Int)
theorem aU5 {c p:Nat}(hp:2<=p): ∀n,a92 (c:Int) (p:Int) n=((c^n%p:Nat):Int)
 | 0=>by
  show(1:Int)=_
  rw[Nat.pow_zero,Nat.mod_eq_of_lt ad]
  rfl
 | n+1=>by
  show a92 (c:Int) (p:Int) n*(c:Int)%(p:Int)=_
  rw[aU5 hp n,<-Int.natCast_mul,<-Int.natCast_emod,pow_succ,Nat.mod_mul_mod]
theorem pr_all:prL.all (λp=>decide (2<=p)&&decide (p<200)&&(List.range p.toNat).all λc=>decide (c=0)||decide (c^(p.toNat-2)%p.toNat*c%p.toNat=1))=true:=af
theorem pr_len:prL.length=46:=af
theorem kF {p:Int}(h:p∈prL):Pr p:=by
 have h1:=gN.mp pr_all p h;simp only[c8,fJ,gN,cC,sA]at h1;obtain⟨⟨a,b⟩,c⟩:=h1;refine⟨a,b,λx x0 x1=> ?_⟩
 obtain⟨q,rfl⟩: ∃q:Nat,p=(q:Int):=⟨p.toNat,ad⟩
 obtain⟨y,rfl⟩: ∃y:Nat,x=(y:Int):=⟨x.toNat,ad⟩
 have h2:=c y ad
 rw[fH]at h2⊢;rw[aU5 ad,<-Int.natCast_mul,<-Int.natCast_emod]
 rcases h2 with h2|h2
 ·lia
 ·rw[h2];rfl
theorem zZ (N:Nat)(p:Int)(f:Nat->Int):rwF N (md p f)=(rwF N f).map λx=>x%p:=by
 unfold rwF;rw[cE];rfl
theorem aU6 (p:Int)(u b:Nat->Int)(i N:Nat):rwF N (md p λm=>if m<i+0 then conv u b (i+1) m else conv u b i m)=rwF N (md p<|conv u b i):=by rw[zZ,b24,<-zZ]
theorem aU7 (p:Int){u b:Nat->Int}{i V N:Nat}(hz: ∀j,V<=j->b j=0):rwF N (md p λm=>if m<i+V then conv u b (i+1) m else conv u b i m)=rwF N (md p<|conv u b (i+1)):=by rw[zZ,b25 hz,<-zZ]
theorem aU8 (p:Int)(u b:Nat->Int)(i j N:Nat):rwF N (md p λx=>if x=i+j then conv u b i (i+j)+u i*b j else if x<i+j then conv u b (i+1) x else conv u b i x)=rwF N (md p λm=>if m<i+(j+1)then conv u b (i+1) m else conv u b i m):=by rw[zZ,b26,<-zZ]
noncomputable def T_SMALL_PRIMES:List Int:=[2,3,5,7,11,13,17,19,23,29,31,37,41,43,47,53,59,61,67,71,73,79,83,89,97,101,103,107,109,113,127,131,137,139,149,151,157,163,167,173,179,181,191,193,197,199]
def iK:Φ:=λds Q=>ds=[]/\Q (.ow<|T_SMALL_PRIMES.map .int)
def kG:US:=(fA<|aZ sT<|aA (uC<|.tup<|T_SMALL_PRIMES.map .int) aL)
theorem yS: ∀ds Q,iK ds Q->kG {nx:=λ_=>Q (.pu .non),rt:=Q} (init [] ds):=by
 rintro ds Q ⟨rfl,h⟩;unfold kG;show(fA _:US) _ [];walk_at "u";exact h
theorem b27:prL=T_SMALL_PRIMES:=af
noncomputable def ps (f:Nat->Int)(z:Int):Nat->Int
 | 0=>0
 | n+1=>ps f z n+f n*z^n
noncomputable def hor (f:Nat->Int)(n:Nat)(z:Int):Nat->Int
 | 0=>0
 | k+1=>hor f n z k*z+f (n-1-k)
theorem bN1 (f:Nat->Int)(n:Nat)(z:Int): ∀k,k<=n->hor f n z k*z^(n-k)+ps f z (n-k)=ps f z n
 | 0,_=>by show(0:Int)*_+_=_;rw[fW,cN];rfl
 | k+1,h=>by
  have ih:=bN1 f n z k ad
  obtain⟨m,hm⟩: ∃m,n-k=m+1:=⟨n-k-1,ad⟩
  have e1:n-(k+1)=m:=ad
  have e2:n-1-k=m:=ad
  rw[hm]at ih;show(hor f n z k*z+f (n-1-k))*z^(n-(k+1))+ps f z (n-(k+1))=_;rw[e1,e2,<-ih];show _=hor f n z k*z^(m+1)+(ps f z m+f m*z^m);rw[lB,sO];have e3:hor f n z k*z*z^m=hor f n z k*(z^m*z):=by rw[jQ,sJ z]
  lia
theorem b70 (f:Nat->Int)(n:Nat)(z:Int):hor f n z n=ps f z n:=by
 have:=bN1 f n z n (aC _);rw[sub_self]at this;have e:hor f n z n*z^0+ps f z 0=hor f n z n:=by
  show hor f n z n*z^0+0=_
  rw[gS,lD,gR]
 lia
theorem a00 {f:Nat->Int}{n a b:Nat}{z:Int}(hf: ∀j,(f j).natAbs<=2^a)(hz:z.natAbs<=2^b): ∀k,(hor f n z k).natAbs<=2^(a+(b+1)*k)
 | 0=>by simp[hor]
 | k+1=>by
  show(hor f n z k*z+f (n-1-k)).natAbs<=_
  have ih:=a00 (n:=n) hf hz k;have h1:(hor f n z k*z).natAbs<=2^(a+(b+1)*k)*2^b:=by rw[Int.natAbs_mul];exact oE ih hz
  have h2:=hf (n-1-k);have h3:=Int.natAbs_add_le (hor f n z k*z) (f<|n-1-k);have e1:2^(a+(b+1)*(k+1))=2^(a+(b+1)*k)*2^b+2^(a+(b+1)*k)*2^b:=by
   rw[mul_succ,<-l6,<-l6,pow_succ,pow_add 2 (a+(b+1)*k) b];lia
  have h4:2^a<=2^(a+(b+1)*k)*2^b:=by
   rw[<-pow_add];exact Nat.pow_le_pow_right ac ad
  lia
theorem bN2 (f g:Nat->Int)(z:Int): ∀n,ps (λj=>f j+g j) z n=ps f z n+ps g z n
 | 0=>rfl
 | n+1=>by
  show ps (λj=>f j+g j) z n+(f n+g n)*z^n=ps f z n+f n*z^n+(ps g z n+g n*z^n)
  rw[bN2 f g z n,sO]
  lia
theorem bN3 (c:Int)(f:Nat->Int)(z:Int): ∀n,ps (λj=>c*f j) z n=c*ps f z n
 | 0=>by show(0:Int)=c*0;rw[bQ]
 | n+1=>by
  show ps (λj=>c*f j) z n+c*f n*z^n=c*(ps f z n+f n*z^n)
  rw[bN3 c f z n,sP,jQ]
theorem aN6 {f:Nat->Int}{z:Int}{n:Nat}: ∀m,n<=m->(∀j,n<=j->j<m->f j=0)->ps f z m=ps f z n
 | 0,h,_=>by rw[show n=0 by lia]
 | m+1,h,hz=>by
  by_cases c:n=m+1
  ·rw[c]
  ·show ps f z m+f m*z^m=_
   rw[hz m ad ad,fW,gR]
   exact aN6 m ad λj a b=>hz j a ad
theorem aJ1 (b:Nat->Int)(z:Int)(U:Nat): ∀n,n<=U->ps (shF b U) z n=0
 | 0,_=>rfl
 | n+1,h=>by
  show ps (shF b U) z n+shF b U n*z^n=0
  rw[aJ1 b z U n aa]
  unfold shF;rw[a7 aa,fW]
  rfl
theorem aU9 (b:Nat->Int)(z:Int)(U:Nat): ∀m,ps (shF b U) z (U+m)=z^U*ps b z m
 | 0=>by rw[Nat.add_zero,aJ1 b z U U<|aC _];show(0:Int)=z^U*0;rw[bQ]
 | m+1=>by
  show ps (shF b U) z (U+m)+shF b U (U+m)*z^(U+m)=z^U*(ps b z m+b m*z^m)
  rw[aU9 b z U m];unfold shF;rw[a8 ad,show U+m-U=m by lia,Int.pow_add,sP,Int.mul_left_comm]
theorem b71 {u b:Nat->Int}{z:Int}{V:Nat}(hb: ∀j,V<=j->b j=0): ∀U N,U+V<=N->ps (conv u b U) z N=ps u z U*ps b z V
 | 0,N,_=>by
  have:ps (conv u b 0) z N=0:=by
   have e:ps (conv u b 0) z N=ps (conv u b 0) z 0:=aN6 N (cO _) λ_ _ _=>rfl
   rw[e];rfl
  rw[this];show(0:Int)=0*_;rw[fW]
 | U+1,N,h=>by
  have e:conv u b (U+1)=λm=>conv u b U m+u U*shF b U m:=rfl
  rw[e,bN2 (conv u b U) λm=>u U*shF b U m,b71 hb U N ad,bN3]
  obtain⟨m,rfl⟩: ∃m,N=U+m:=⟨N-U,ad⟩
  rw[aU9,aN6 (n:=V) m ad λj a _=>hb j a]
  show _=(ps u z U+u U*z^U)*ps b z V
  rw[sO,jQ<|u U]
structure aV0 (n a b:Nat)(f:Nat->Int)(z:Int):Prop where
 fb: ∀j,(f j).natAbs<=2^a
 zb:z.natAbs<=2^b
 room:a+(b+1)*n<8000
 b8:b<8000
 n9:n<=200
def t5:Φ:=λds Q=> ∃(n a b:Nat) (f:Nat->Int) (z:Int),ds=[bL<|rwF n f,.int z]/\aV0 n a b f z/\Q (.pu<|.int<|ps f z n)
def t6:US:=(aX (cP 2<|uC<|.int 0)<|aX (jZ (bL0<|aA (aE 0) aL) (dX 3)<|cP 2<|uOp dJ (uOp iV (aE 2)<|aE 1)<|aE 3)<|tO 2)
theorem aN7: ∀ds Q,t5 ds Q->t6 {nx:=λ_=>Q (.pu .non),rt:=Q} (init ["f","z","v","c"] ds):=by
 rintro ds Q ⟨n,a,b,f,z,rfl,ok,h⟩;unfold t6;simp only[bL];show(aX _ _:US) _ [some<|.pu<|.tup<|(rwF n f).map .int,some<|.pu<|.int z,none,none];walk_at "u";refine cG n (λk=>((rwF n f).map D.int).getD (n-1-k) .non) [some<|.pu<|.tup<|(rwF n f).map .int,some<|.pu<|.int z,some<|.pu<|.int 0,none] ?_
  (λk ρ=> ∃c,ρ=[some<|.pu<|.tup<|(rwF n f).map .int,some<|.pu<|.int z,some<|.pu<|.int<|hor f n z k,c]) ⟨none,rfl⟩ ?_ ?_
 ·intro Q' q;walk_at "u";rw[bS];exact q
 ·rintro k ρ hk ⟨c,rfl⟩;rw[mE aa]
  walk_at "u"
  have room:=ok.room;have:(b+1)*k<=(b+1)*n:=kS _ aa
  exact⟨ae,.inr ⟨Sm.pow (a00 ok.fb ok.zb k) aa,Sm.pow ok.zb (by have:=ok.b8;omega)⟩,_,rfl⟩
 ·rintro ρ ⟨c,rfl⟩;walk_at "u";rw[b70];exact h
theorem b72 (f g:Nat->Int)(n m:Nat):shF (λj=>f j+g j) n m=shF f n m+shF g n m:=by
 unfold shF;dsimp only;split<;>lia
theorem bX9 (c:Int)(f:Nat->Int)(n m:Nat):shF (λj=>c*f j) n m=c*shF f n m:=by
 unfold shF;dsimp only;split
 ·rfl
 ·rw[bQ]
theorem shF_sh (h:Nat->Int)(n k m:Nat):shF (shF h n) k m=shF h (n+k) m:=by
 unfold shF
 by_cases c:k<=m
 ·rw[a8 c]
  by_cases d:n<=m-k
  ·rw[a8 d,a8 ad,show m-k-n=m-(n+k)by lia]
  ·rw[a7 d,a7 ad]
 ·rw[a7 c,a7 ad]
theorem aJ2 (f g b:Nat->Int)(m:Nat): ∀n,conv (λj=>f j+g j) b n m=conv f b n m+conv g b n m
 | 0=>rfl
 | n+1=>by
  show conv (λj=>f j+g j) b n m+(f n+g n)*shF b n m=conv f b n m+f n*shF b n m+(conv g b n m+g n*shF b n m)
  rw[aJ2 f g b m n,sO]
  lia
theorem aJ3 (c:Int)(f b:Nat->Int)(m:Nat): ∀n,conv (λj=>c*f j) b n m=c*conv f b n m
 | 0=>by show(0:Int)=c*0;rw[bQ]
 | n+1=>by
  show conv (λj=>c*f j) b n m+c*f n*shF b n m=c*(conv f b n m+f n*shF b n m)
  rw[aJ3 c f b m n,sP,jQ]
theorem aV1 (f b:Nat->Int)(k m:Nat): ∀n,conv (shF f k) b (k+n) m=shF (conv f b n) k m
 | 0=>by
  have e: ∀j,j<=k->conv (shF f k) b j m=0:=by
   intro j
   induction j with
   | zero=>intro _;rfl
   | succ j ih=>
    intro hj;show conv (shF f k) b j m+shF f k j*shF b j m=0;rw[ih ad]
    unfold shF;rw[a7 ad,fW]
    rfl
  rw[Nat.add_zero,e k<|aC _];unfold shF;split<;>rfl
 | n+1=>by
  show conv (shF f k) b (k+n) m+shF f k (k+n)*shF b (k+n) m=shF (λm=>conv f b n m+f n*shF b n m) k m
  rw[aV1 f b k m n,b72,bX9,shF_sh,add_comm n k]
  congr 2
  unfold shF;rw[a8 ad,show k+n-k=n by lia]
theorem a94 {u b c:Nat->Int}{V:Nat}(hb: ∀j,V<=j->b j=0)(m:Nat): ∀U,conv u (conv b c V) U m=conv (conv u b U) c (U+V) m
 | 0=>by
  have e: ∀n,conv (conv u b 0) c n m=0:=by
   intro n
   induction n with
   | zero=>rfl
   | succ n ih=>
    show conv (conv u b 0) c n m+0*shF c n m=0
    rw[ih,fW];rfl
  rw[e];rfl
 | U+1=>by
  show conv u (conv b c V) U m+u U*shF (conv b c V) U m=conv (λm=>conv u b U m+u U*shF b U m) c (U+1+V) m
  rw[aJ2,aJ3,a94 hb m U];have z1: ∀j,U+V<=j->j<U+1+V->conv u b U j=0:=λj h1 h2=>by
   have: ∀i,V<i+1->b i=0:=λi hi=>hb i ad
   by_cases v:V=0
   ·subst v;have e:b=λ_=>0:=funext λj=>hb j (cO _)
    rw[e];have nul: ∀n,conv u (λ_=>0) n j=0:=by
     intro n
     induction n with
     | zero=>rfl
     | succ n ih=>
      show conv u (λ_=>0) n j+u n*shF (λ_=>0) n j=0
      rw[ih];unfold shF;split<;>rw[bQ]<;>rfl
    exact nul U
   ·exact jX (d:=V-1) (λi hi=>hb i ad) U j ad
  rw[yQ (u:=conv u b U) (b:=c) (U:=U+V) (U+1+V) z1 ad]
  have z2: ∀j,U+V<=j->j<U+1+V->shF b U j=0:=λj h1 h2=>by
   unfold shF;rw[a8 ad]
   exact hb _ ad
  rw[yQ (u:=shF b U) (b:=c) (U:=U+V) (U+1+V) z2 ad,aV1]
theorem a01 (u f g:Nat->Int)(m:Nat): ∀n,conv u (λj=>f j+g j) n m=conv u f n m+conv u g n m
 | 0=>rfl
 | n+1=>by
  show conv u (λj=>f j+g j) n m+u n*shF (λj=>f j+g j) n m=conv u f n m+u n*shF f n m+(conv u g n m+u n*shF g n m)
  rw[a01 u f g m n,b72,sP]
  lia
theorem yT {u:Nat->Int}{n:Nat}(c:Int)(k:Nat)(hu: ∀j,n<=j->u j=0)(m:Nat):conv u (λj=>if j=k then c else 0) n m=c*shF u k m:=by
 have e: ∀n,conv u (λj=>if j=k then c else 0) n m=if k<=m/\m-k<n then c*u (m-k)else 0:=by
  intro n
  induction n with
  | zero=>rw[a7 aa];rfl
  | succ n ih=>
   show conv u (λj=>if j=k then c else 0) n m+u n*shF (λj=>if j=k then c else 0) n m=_
   have sh:shF (λj=>if j=k then c else 0) n m=if n<=m/\m-n=k then c else 0:=by
    unfold shF;dsimp only
    by_cases h3:n<=m
    ·rw[a8 h3]
     by_cases h4:m-n=k
     ·rw[a8 h4,a8 ⟨h3,h4⟩]
     ·rw[a7 h4,a7 λz=>h4 z.2]
    ·rw[a7 h3,a7 λz=>h3 z.1]
   rw[ih,sh]
   by_cases h1:k<=m/\m-k<n
   ·rw[a8 h1,a7<|show ¬(n<=m/\m-n=k)by omega,a8<|show k<=m/\m-k<n+1 by omega,bQ,gR]
   ·rw[a7 h1]
    by_cases h2:k<=m/\m-k=n
    ·rw[a8<|show n<=m/\m-n=k by omega,a8<|show k<=m/\m-k<n+1 by omega,h2.2,cN,sJ]
    ·rw[a7<|show ¬(n<=m/\m-n=k)by omega,a7<|show ¬(k<=m/\m-k<n+1)by omega,bQ]
     rfl
 rw[e n];unfold shF
 by_cases h1:k<=m
 ·rw[a8 h1]
  by_cases h2:m-k<n
  ·rw[a8 ⟨h1,h2⟩]
  ·rw[a7 aa,hu _ aa,bQ]
 ·rw[a7 h1,a7 aa,bQ]
theorem bD1 {u b:Nat->Int}{U V:Nat}(hu: ∀j,U<=j->u j=0)(hb: ∀j,V<=j->b j=0)(m:Nat):conv u b U m=conv b u V m:=by
 have e: ∀n,conv u b n m=conv b (λj=>if j<n then u j else 0) V m:=by
  intro n
  induction n with
  | zero=>
   have:(λj=>if j<0 then u j else 0)=λj=>if j=0 then(0:Int)else 0:=funext λj=>ae
   rw[this,yT 0 0 hb,fW];rfl
  | succ n ih=>
   have:(λj=>if j<n+1 then u j else 0)=λj=>(if j<n then u j else 0)+(if j=n then u n else 0):=funext λj=>by
    by_cases h1:j<n
    ·rw[a8 ad,a8 h1,a7 ad,gR]
    ·by_cases h2:j=n
     ·subst h2;rw[a8 ad,a7 h1,a8 rfl,cN]
     ·rw[a7 ad,a7 h1,a7 h2];rfl
   rw[this,a01 b (λj=>if j<n then u j else 0) λj=>if j=n then u n else 0,yT _ _ hb,<-ih]
   rfl
 rw[e U]
 congr 1
 funext j
 by_cases h:j<U
 ·rw[a8 h]
 ·rw[a7 h,hu j ad]
theorem emL (a b p:Int):a%p*b%p=a*b%p:=by rw[eQ,gQ,<-eQ]
theorem emR (a b p:Int):a*(b%p)%p=a*b%p:=by rw[eQ,gQ,<-eQ]
structure MP (p:Int)(n:Nat)(f:Nat->Int):Prop where
 top:f n=1
 hi: ∀j,n<j->f j=0
 rng: ∀j,0<=f j/\f j<p
theorem MP.z {p:Int}{n:Nat}{f:Nat->Int}(h:MP p n f): ∀j,n+1<=j->f j=0:=λj hj=>h.hi j hj
noncomputable def tm (p:Int)(a b:Nat×(Nat->Int)):Nat×(Nat->Int):=(a.1+b.1,md p<|conv a.2 b.2 (a.1+1))
theorem aV2 {p:Int}(u b:Nat->Int)(n m:Nat):conv (md p u) b n m%p=conv u b n m%p:=a53 (λi j=>by show u i%p*b j%p=_;rw[emL]) n m
theorem bN4 {p:Int}(u b:Nat->Int)(n m:Nat):conv u (md p b) n m%p=conv u b n m%p:=a53 (λi j=>by show u i*(b j%p)%p=_;rw[emR]) n m
theorem MP.tm {p:Int}{a b:Nat×(Nat->Int)}(hp:2<=p)(ha:MP p a.1 a.2)(hb:MP p b.1 b.2):MP p (M.tm p a b).1 (M.tm p a b).2:=by
 refine⟨?_,λj hj=> ?_,λj=>⟨b9 _ ad,b7 _ ad⟩⟩
 ·show conv a.2 b.2 (a.1+1) (a.1+b.1)%p=1
  rw[aU3 hb.hi,ha.top,hb.top];exact dE ac ad
 ·show conv a.2 b.2 (a.1+1) j%p=0
  have hj':a.1+b.1<j:=hj;rw[jX (d:=b.1) hb.hi (a.1+1) j ad,c9]
theorem yU {p:Int}{a b c:Nat×(Nat->Int)}(hb: ∀j,b.1<j->b.2 j=0):tm p a (tm p b c)=tm p (tm p a b) c:=by
 refine fM (l6 _ _ _).symm (funext λm=> ?_)
 show conv a.2 (md p<|conv b.2 c.2 (b.1+1)) (a.1+1) m%p=conv (md p<|conv a.2 b.2 (a.1+1)) c.2 (a.1+b.1+1) m%p
 rw[bN4,aV2,a94 (V:=b.1+1) (λj hj=>hb j hj) m<|a.1+1]
 rw[yQ (u:=conv a.2 b.2 (a.1+1)) (b:=c.2) (U:=a.1+b.1+1) (a.1+1+(b.1+1)) (λj h1 h2=>jX (d:=b.1) hb (a.1+1) j ad) ad]
theorem vH {p:Int}{a b:Nat×(Nat->Int)}(ha: ∀j,a.1<j->a.2 j=0)(hb: ∀j,b.1<j->b.2 j=0):tm p a b=tm p b a:=by
 refine fM (add_comm _ _) (funext λm=> ?_)
 show conv a.2 b.2 (a.1+1) m%p=conv b.2 a.2 (b.1+1) m%p
 rw[bD1 (U:=a.1+1) (V:=b.1+1) (λj hj=>ha j hj) λj hj=>hb j hj]
noncomputable def dN:Nat×(Nat->Int):=(0,λj=>if j=0 then 1 else 0)
theorem MP.one {p:Int}(hp:2<=p):MP p dN.1 dN.2:=⟨rfl,λj hj=>a7 (by have:0<j:=hj;lia),λj=>by show 0<=(if j=0 then(1:Int)else 0)/\(if j=0 then(1:Int)else 0)<p;split<;>lia⟩
theorem a95 {p:Int}{a:Nat×(Nat->Int)}(ha:MP p a.1 a.2):tm p dN a=a:=by
 refine fM (zero_add _) (funext λm=> ?_)
 show(0+(if(0:Nat)=0 then(1:Int)else 0)*shF a.2 0 m)%p=a.2 m
 rw[a8 rfl,sN,cN];unfold shF;rw[a8<|cO _,sub_zero];exact dE (ha.rng m).1 (ha.rng m).2
noncomputable def dS (c:Int):Nat×(Nat->Int):=(1,λj=>if j=0 then c else if j=1 then 1 else 0)
theorem MP.lin {p c:Int}(hp:2<=p)(h0:0<=c)(h1:c<p):MP p (dS c).1 (dS c).2:=⟨rfl,λj hj=>by
  have:1<j:=hj;show(if j=0 then c else if j=1 then 1 else 0)=0;rw[a7 ad,a7 ad],λj=>by
  show 0<=(if j=0 then c else if j=1 then 1 else 0)/\(if j=0 then c else if j=1 then 1 else 0)<p
  split
  ·lia
  ·split<;>lia⟩
noncomputable def va (p:Int)(a:Nat×(Nat->Int))(z:Int):Int:=ps a.2 z (a.1+1)%p
theorem c04 (p:Int)(f:Nat->Int)(z:Int): ∀n,ps (md p f) z n%p=ps f z n%p
 | 0=>rfl
 | n+1=>by
  show(ps (md p f) z n+f n%p*z^n)%p=(ps f z n+f n*z^n)%p
  rw[fV,c04 p f z n,emL,<-fV]
theorem bN5 {p:Int}{a b:Nat×(Nat->Int)}(hb: ∀j,b.1<j->b.2 j=0)(z:Int):va p (tm p a b) z=va p a z*va p b z%p:=by
 show ps (md p<|conv a.2 b.2 (a.1+1)) z (a.1+b.1+1)%p=ps a.2 z (a.1+1)%p*(ps b.2 z (b.1+1)%p)%p
 rw[c04,<-eQ];have h:=b71 (u:=a.2) (b:=b.2) (z:=z) (V:=b.1+1) (λj hj=>hb j hj) (a.1+1) (a.1+1+(b.1+1)) (aC _)
 rw[<-h,aN6 (n:=a.1+b.1+1) (a.1+1+(b.1+1)) ad λj h1 h2=>jX (d:=b.1) hb (a.1+1) j ad]
noncomputable def hqA (c:Int)(f:Nat->Int)(n:Nat):Nat->Int
 | 0=>f n
 | k+1=>f (n-1-k)-c*hqA c f n k
noncomputable def hq (c:Int)(f:Nat->Int)(n:Nat):Nat->Int:=λj=>if j<n then hqA c f n (n-1-j)else 0
theorem b73 {c:Int}{f:Nat->Int}{n:Nat}(hf: ∀j,n<j->f j=0)(j:Nat)(hj:1<=j):f j=hq c f n (j-1)+c*hq c f n j:=by
 unfold hq
 by_cases h1:j<n
 ·rw[a8<|show j-1<n by lia,a8 h1,show n-1-(j-1)=(n-1-j)+1 by lia]
  show f j=f (n-1-(n-1-j))-c*hqA c f n (n-1-j)+c*hqA c f n (n-1-j)
  rw[show n-1-(n-1-j)=j by lia]
  lia
 ·by_cases h2:j=n
  ·subst h2;rw[a8<|show j-1<j by lia,a7 h1,show j-1-(j-1)=0 by lia,bQ,gR]
   rfl
  ·rw[a7<|show ¬j-1<n by lia,a7 h1,hf j ad,bQ]
   rfl
theorem c05 {c:Int}{f:Nat->Int}{n:Nat}(hf: ∀j,n<j->f j=0): ∀m,ps f (-c) (m+1)=f 0-c*hq c f n 0+c*hq c f n m*(-c)^m
 | 0=>by
  show 0+f 0*(-c)^0=_
  rw[gS,lD,lD]
  lia
 | m+1=>by
  show ps f (-c) (m+1)+f (m+1)*(-c)^(m+1)=_
  rw[c05 hf m,b73 (c:=c) hf (m+1) ad,jM,lB]
  grind
theorem hq_at {c:Int}{f:Nat->Int}{n:Nat}(hf: ∀j,n<j->f j=0):ps f (-c) (n+1)=f 0-c*hq c f n 0:=by
 rw[c05 hf n];have:hq c f n n=0:=by unfold hq;rw[a7<|dQ _]
 rw[this,bQ,fW,gR]
theorem a96 {u:Nat->Int}{n:Nat}(c:Int)(hu: ∀j,n<=j->u j=0)(m:Nat):conv u (dS c).2 n m=c*u m+(if m=0 then 0 else u (m-1)):=by
 have e:(dS c).2=λj=>(if j=0 then c else 0)+(if j=1 then 1 else 0):=funext λj=>by
  show(if j=0 then c else if j=1 then 1 else 0)=_
  by_cases h0:j=0
  ·subst h0;simp
  ·rw[a7 h0,a7 h0,cN]
 rw[e,a01 u (λj=>if j=0 then c else 0) λj=>if j=1 then 1 else 0,yT c 0 hu,yT 1 1 hu,sN]
 unfold shF;rw[a8<|cO _,sub_zero]
 congr 1
 by_cases h0:m=0
 ·rw[a8 h0,a7 ad]
 ·rw[a7 h0,a8 ad]
theorem bY0 {c:Int}{f:Nat->Int}{n:Nat}(hf: ∀j,n<j->f j=0)(m:Nat):f m=conv (hq c f n) (dS c).2 n m+(if m=0 then f 0-c*hq c f n 0 else 0):=by
 rw[a96 c (λj hj=>by unfold hq;rw[a7 ad])]
 by_cases h0:m=0
 ·subst h0;rw[a8 rfl,a8 rfl];lia
 ·rw[a7 h0,a7 h0,b73 (c:=c) hf m ad];lia
noncomputable def powT (p:Int)(a g:Nat×(Nat->Int)):Nat->Nat×(Nat->Int)
 | 0=>a
 | k+1=>tm p (powT p a g k) g
theorem MP.powT {p:Int}{a g:Nat×(Nat->Int)}(hp:2<=p)(ha:MP p a.1 a.2)(hg:MP p g.1 g.2): ∀k,MP p (M.powT p a g k).1 (M.powT p a g k).2
 | 0=>ha
 | k+1=>MP.tm hp (MP.powT hp ha hg k) hg
theorem iE (p:Int)(a g:Nat×(Nat->Int)): ∀k,(powT p a g k).1=a.1+g.1*k
 | 0=>rfl
 | k+1=>by
  show(powT p a g k).1+g.1=_
  rw[iE p a g k,mul_succ,l6]
noncomputable def allT (p:Int)(a:Nat×(Nat->Int)):List ((Nat×(Nat->Int))×Nat)->Nat×(Nat->Int)
 | []=>a
 | x::l=>allT p (powT p a x.1 x.2) l
theorem i4 (p:Int): ∀(l m:List ((Nat×(Nat->Int))×Nat)) (a:Nat×(Nat->Int)),allT p a (l++m)=allT p (allT p a l) m
 | [],m,a=>rfl
 | x::l,m,a=>i4 p l m _
theorem MP.allT {p:Int}(hp:2<=p): ∀(l:List ((Nat×(Nat->Int))×Nat)) {a:Nat×(Nat->Int)},MP p a.1 a.2->(∀x∈l,MP p x.1.1 x.1.2)->MP p (M.allT p a l).1 (M.allT p a l).2
 | [],a,ha,_=>ha
 | x::l,a,ha,h=>MP.allT hp l (MP.powT hp ha (h x<|.head _) x.2) λy hy=>h y (.tail _ hy)
theorem aV3 (p:Int): ∀(l:List ((Nat×(Nat->Int))×Nat)) (a:Nat×(Nat->Int)) (x:(Nat×(Nat->Int))×Nat),x∈l->a.1+x.1.1*x.2<=(allT p a l).1
 | y::l,a,x,hx=>by
  show _<=(allT p (powT p a y.1 y.2) l).1
  have mono: ∀(l:List ((Nat×(Nat->Int))×Nat)) (a:Nat×(Nat->Int)),a.1<=(allT p a l).1:=by
   intro l
   induction l with
   | nil=>intro a;exact aC _
   | cons z l ih=>intro a;exact aV (by rw[iE];lia) (ih<|powT p a z.1 z.2)
  rcases aR.mp hx with rfl|hx
  ·have:=mono l (powT p a x.1 x.2);rw[iE]at this;exact this
  ·have:=aV3 p l (powT p a y.1 y.2) x hx;rw[iE]at this
   lia
noncomputable def yV (x:(Nat×(Nat->Int))×Nat):D:= .tup [bL<|rwF (x.1.1+1) x.1.2,.int (x.2:Int)]
noncomputable def lnP (x:Int×Nat):(Nat×(Nat->Int))×Nat:=(dS x.1,x.2)
structure LK (p:Int)(F:Nat×(Nat->Int))(C:Nat)(cs:List (Int×Nat))(L:Nat×(Nat->Int)):Prop where
 prod:F=tm p (allT p dN<|cs.map lnP) L
 mp:MP p L.1 L.2
 asc:cs.Pairwise λa b=>a.1<b.1
 mem: ∀x∈cs,0<=x.1/\x.1< (C:Int)/\1<=x.2
 nr: ∀c:Nat,c<C->va p L (-(c:Int))≠0
 len:cs.length<=C
theorem b74 {p:Int}(hp:2<=p){cs:List (Int×Nat)}(h: ∀x∈cs,0<=x.1/\x.1<p): ∀y∈cs.map lnP,MP p y.1.1 y.1.2:=by
 intro y hy;obtain⟨x,hx,rfl⟩:=eC.mp hy;exact MP.lin hp (h x hx).1 (h x hx).2
def oV:Φ:=λds Q=> ∃(n:Nat) (f:Nat->Int) (p:Int),ds=[bL<|rwF (n+1) f,.int p]/\n<=40/\Pr p/\MP p n f/\ ∀cs L,LK p (n,f) p.toNat cs L->Q (.pu<|.tup [.lst<|cs.map λx=>yV (lnP x),bL<|rwF (L.1+1) L.2])
def tQ:US:=(fA<|gD<|aA (aE 2)<|aA (aE 3) aL)
def tS:US:=(aX (jZ (kJ<|aA (aE 1) aL) (dX 4)<|aX (cP 5<|uC<|.int 0)<|aX (aY9 (cS<|uOp (iW false) (uOp gI (aZ t5<|aA (aE 3)<|aA (a28<|aE 4) aL)<|aE 1)<|uC<|.int 0)<|aX (cP 3<|uIx (uV<|aZ mV<|aA (aE 3)<|aA (gD<|aA (aE 4)<|aA (uC<|.int 1) aL)<|aA (aE 1) aL)<|uC<|.int 0)<|bB3 5 (gI2 λi j Q=>Q (.pu<|.int<|i+j))<|uC<|.int 1)<|gT (cS<|uOp (mC λi j=>decide (j<i)) (aE 5)<|uC<|.int 0) (zR 2<|gD<|aA (gD<|aA (aE 4)<|aA (uC<|.int 1) aL)<|aA (aE 5) aL) dP) tQ)
def tT:US:=(aX (cP 3<|aE 0) tS)
def oW:US:=(aX (cP 2<|dO aL) tT)
theorem bN6 {p:Int}(pp:Pr p){L:Nat×(Nat->Int)}(mp:MP p L.1 L.2){c:Int}(c0:0<=c)(c1:c<p)(hz:va p L (-c)=0){t:Int}(ht:t*md p (dS c).2 1%p=1)(t0:0<=t)(t1:t<p) :
  1<=L.1/\ ∃u:Nat->Int,MP p (L.1-1) u/\L=tm p (L.1-1,u) (dS c)/\
   (let b:=λj=>t*md p (dS c).2 j%p
    let LA:=fQ (md p L.2) (L.1+1)
    let q:=divQ b 1 (LA-1) (md p L.2)
    rwF (fQ (λj=>t*q j%p)<|fQ q<|LA-1) (λj=>t*q j%p)=rwF L.1 u):=by
 have p2:=pp.lo;have mdL:md p L.2=L.2:=funext λj=>dE (mp.rng j).1 (mp.rng j).2
 have ml:=MP.lin p2 c0 c1;have mdG:md p (dS c).2=(dS c).2:=funext λj=>dE (ml.rng j).1 (ml.rng j).2
 have l1:1<=L.1:=by
  refine Nat.pos_of_ne_zero λz=> ?_
  unfold va at hz;rw[z]at hz;have e:ps L.2 (-c) (0+1)=L.2 0*(-c)^0:=by show 0+L.2 0*(-c)^0=_;lia
  have e2:L.2 0=1:=by have:=mp.top;rw[z]at this;exact this
  rw[e,e2,gS,lD,dE ac ad]at hz
  cases hz
 have r0:(L.2 0-c*hq c L.2 L.1 0)%p=0:=by rw[<-hq_at mp.hi];exact hz
 have fm: ∀m,L.2 m=conv (md p<|hq c L.2 L.1) (dS c).2 L.1 m%p:=λm=>by
  have h:=bY0 (c:=c) mp.hi m;rw[aV2];have e:L.2 m%p=L.2 m:=dE (mp.rng m).1 (mp.rng m).2;rw[<-e]
  conv=>lhs;rw[h]
  by_cases h0:m=0
  ·rw[a8 h0,fV,r0,gR,gQ]
  ·rw[a7 h0,gR]
 have ut:md p (hq c L.2 L.1) (L.1-1)=1:=by
  show hq c L.2 L.1 (L.1-1)%p=1
  unfold hq;rw[a8 ad,sub_self]
  show L.2 L.1%p=1
  rw[mp.top];exact dE ac ad
 have uz: ∀j,L.1<=j->md p (hq c L.2 L.1) j=0:=λj hj=>by
  show hq c L.2 L.1 j%p=0
  unfold hq;rw[a7 ad,c9]
 have ur: ∀j,0<=md p (hq c L.2 L.1) j/\md p (hq c L.2 L.1) j<p:=λj=>⟨b9 _ ad,b7 _ ad⟩
 refine⟨l1,md p<|hq c L.2 L.1,⟨ut,λj hj=>uz j ad,ur⟩,?_,?_⟩
 ·refine fM (show L.1=L.1-1+1 by lia) (funext λm=> ?_)
  show L.2 m=conv (md p<|hq c L.2 L.1) (dS c).2 (L.1-1+1) m%p
  rw[show L.1-1+1=L.1 by lia]
  exact fm m
 ·have mm:=bN0 (p:=p) (t:=t) (B0:=md p (dS c).2) (u:=md p (hq c L.2 L.1)) (low:=λ_=>0) (A:=md p L.2) (d:=1) (U:=L.1) (n:=L.1+1) p2 (λj hj=>by rw[mdG];exact ml.hi j hj) (.inr (by rw[ut];decide)) ur uz (λ_ _=>rfl) (λ_=>⟨ac,ad⟩) ht (λm=>by rw[mdL,mdG,gR];exact fm m) (aC _)
  obtain⟨_,e1,_,_⟩:=mm;have eLA:fQ (md p L.2) (L.1+1)=L.1+1:=pJ (aC _) (λm h1 h2=>ad) (.inr (by rw[mdL,jM,mp.top];decide))
  rw[eLA]at e1⊢;have eu:(λj=>t*divQ (λj=>t*md p (dS c).2 j%p) 1 (L.1+1-1) (md p L.2) j%p)=md p (hq c L.2 L.1):=funext e1
  dsimp only;rw[eu];have eq:fQ (divQ (λj=>t*md p (dS c).2 j%p) 1 (L.1+1-1)<|md p L.2) (L.1+1-1)=L.1:=by
   rw[jM];refine pJ (aC _) (λm h1 h2=>ad) (.inr λz=> ?_)
   have h:=e1 (L.1-1);rw[jM]at h;rw[z,bQ,c9,ut]at h;cases h
  rw[eq,pJ (k:=L.1) (aC _) (λm h1 h2=>ad)<|.inr (by rw[ut];decide)]
theorem bN7 {p:Int}{a b:Nat×(Nat->Int)}(hb: ∀j,b.1<j->b.2 j=0){z:Int}(h:va p (tm p a b) z≠0):va p a z≠0/\va p b z≠0:=by
 rw[bN5 hb]at h;refine⟨λe=>h ?_,λe=>h ?_⟩
 ·rw[e,fW,c9]
 ·rw[e,bQ,c9]
theorem mp_nat {p:Int}(pp:Pr p){n:Nat}{f:Nat->Int}(h:MP p n f)(j:Nat):(f j).natAbs<=2^8:=by
 have h1:=h.rng j;have h2:=pp.hi;have:(2:Nat)^8=256:=rfl
 lia
theorem a97: ∀ds Q,oV ds Q->oW {nx:=λ_=>Q (.pu .non),rt:=Q} (init ["f","p","a","l","c","o"] ds):=by
 rintro ds Q ⟨n,f,p,rfl,n4,pp,mp,h⟩;have p2:=pp.lo;have p3:=pp.hi;unfold oW;show(aX _ _:US) _ [some<|.pu<|bL<|rwF (n+1) f,some<|.pu<|.int p,none,none,none,none];rw[bG];walk_at "u";refine⟨ac,?_⟩
 unfold tT;rw[bG];walk_at "u";unfold tS;rw[bG];refine cG p.toNat (λi=> .int (0+i)) [some<|.pu<|bL<|rwF (n+1) f,some<|.pu<|.int p,some<|.ow [],some<|.pu<|bL<|rwF (n+1) f,none,none] ?_
  (λi ρ=> ∃(cs:List (Int×Nat)) (L:Nat×(Nat->Int)) (x y:Option B),ρ=[some<|.pu<|bL<|rwF (n+1) f,some<|.pu<|.int p,some<|.ow<|cs.map λx=>yV (lnP x),some<|.pu<|bL<|rwF (L.1+1) L.2,x,y]/\LK p (n,f) i cs L)
  ⟨[],(n,f),none,none,rfl,(a95 (p:=p) (a:=(n,f)) mp).symm,mp,.nil,ae,ae,aC _⟩ ?_ ?_
 ·intro Q' q;walk_at "u";refine⟨⟨ad,ad⟩,?_⟩
  exact q
 ·rintro i ρ hi ⟨cs,L,x,y,rfl,lk⟩;have hLn:L.1<=n:=by
   have:=bC Prod.fst lk.prod;have e:n=(allT p dN<|cs.map lnP).1+L.1:=this
   lia
  have mcs:=b74 p2 (cs:=cs) (λx hx=>⟨(lk.mem x hx).1,by have:=(lk.mem x hx).2.1;lia⟩)
  have mA:=MP.allT p2 (cs.map lnP) (MP.one p2) mcs;have mlin:=MP.lin p2 (c:=(i:Int)) ad ad
  rw[cN];walk_at "u";refine⟨ae,?_⟩
  refine⟨λk ρ=> ∃(o:Nat) (L':Nat×(Nat->Int)),ρ=[some<|.pu<|bL<|rwF (n+1) f,some<|.pu<|.int p,some<|.ow<|cs.map λx=>yV (lnP x),some<|.pu<|bL<|rwF (L'.1+1) L'.2,some<|.pu<|.int (i:Int),some<|.pu<|.int (o:Int)]/\k=L'.1/\L'.1<=n/\(n,f)=tm p (powT p (allT p dN<|cs.map lnP) (dS (i:Int)) o) L'/\MP p L'.1 L'.2/\ ∀c:Nat,c<i->va p L' (-(c:Int))≠0,⟨L.1,0,L,rfl,rfl,hLn,lk.prod,lk.mp,lk.nr⟩,?_⟩
  rintro k ρ ⟨o,L',rfl,rfl,hL',e,mp',nr⟩;walk_at "u";refine⟨L'.1+1,8,8,L'.2,-(i:Int),rfl,⟨mp_nat pp mp',by have:(2:Nat)^8=256:=rfl;lia,ad,ac,ad⟩,?_⟩
  walk_at "u"
  refine⟨ad,?_⟩
  rw[bN _ ad]
  by_cases c:va p L' (-(i:Int))=0
  ·rw[a8<|show ps L'.2 (-(i:Int)) (L'.1+1)%p=0 from c]
   refine⟨ac,L'.1+1,2,1,L'.2,(dS (i:Int)).2,p,rfl,ad,ac,pp,λj hj=>mlin.hi j hj,ac,λj hj=>by show(dS (i:Int)).2 j%p=0;rw[mlin.hi j hj,c9],by show(1:Int)%p≠0;rw[dE ac ad];decide,λt ht t0 t1=> ?_⟩
   obtain⟨l1,u,mu,eu,er⟩:=bN6 pp mp' (c:=(i:Int)) ad ad c ht t0 t1
   dsimp only at er⊢;rw[er,bM3];dsimp only;have eL:rwF L'.1 u=rwF (L'.1-1+1) u:=by rw[show L'.1-1+1=L'.1 by lia]
   rw[eL];refine⟨L'.1-1,ad,o+1,(L'.1-1,u),by rw[Int.natCast_succ],rfl,by show L'.1-1<=n;lia,?_,mu,λc' hc'=> ?_⟩
   ·show(n,f)=tm p (tm p (powT p (allT p dN<|cs.map lnP) (dS (i:Int)) o)<|dS (i:Int)) (L'.1-1,u)
    rw[e]
    conv=>lhs;rw[eu]
    rw[vH (a:=(L'.1-1,u)) (λj hj=>mu.hi j hj) mlin.hi,yU mlin.hi]
   ·have:=nr c' hc';rw[eu]at this;exact(bN7 mlin.hi this).1
  ·rw[a7<|show ¬ps L'.2 (-(i:Int)) (L'.1+1)%p=0 from c]
   have nr': ∀c:Nat,c<i+1->va p L' (-(c:Int))≠0:=λc' hc'=>by
    by_cases h1:c'<i
    ·exact nr c' h1
    ·rw[show c'=i by lia];exact c
   by_cases c2:(0:Int)< (o:Int)
   ·rw[a8 c2];refine⟨ac,ac,?_,cs++[((i:Int),o)],L',_,_,by rw[bU];rfl,?_,mp',?_,?_,nr',?_⟩
    ·rw[aI];exact kW lk.len (bO hi<|aV (show p.toNat<=200 by lia) ac)
    ·rw[bU,i4];exact e
    ·rw[rK];refine⟨lk.asc,rE _ _,λa ha b hb=> ?_⟩
     rw[d7.mp hb];exact(lk.mem a ha).2.1
    ·intro z hz;rcases cB.mp hz with hz|hz
     ·have:=lk.mem z hz;exact⟨this.1,ad,this.2.2⟩
     ·rw[d7.mp hz];exact⟨by show(0:Int)<=(i:Int);lia,by show(i:Int)< ((i+1:Nat):Int);lia,by show 1<=o;lia⟩
    ·rw[fG];exact Nat.succ_le_succ lk.len
   ·rw[a7 c2];have o0:o=0:=ad
    subst o0;exact⟨cs,L',_,_,rfl,e,mp',lk.asc,λz hz=>⟨(lk.mem z hz).1,by have:=(lk.mem z hz).2.1;lia,(lk.mem z hz).2.2⟩,nr',Nat.le_succ_of_le lk.len⟩
 ·rintro ρ ⟨cs,L,x,y,rfl,lk⟩;dsimp only;unfold tQ;walk_at "u";exact⟨ac,h cs L lk⟩
noncomputable def quF (v u:Int):Nat×(Nat->Int):=(2,λj=>if j=0 then v else if j=1 then u else if j=2 then 1 else 0)
theorem MP.qu {p v u:Int}(hp:2<=p)(v0:0<=v)(v1:v<p)(u0:0<=u)(u1:u<p):MP p (quF v u).1 (quF v u).2:=⟨rfl,λj hj=>by
  have:2<j:=hj;show(if j=0 then v else if j=1 then u else if j=2 then 1 else 0)=0;rw[a7 ad,a7 ad,a7 ad],λj=>by
  show 0<=(if j=0 then v else if j=1 then u else if j=2 then 1 else 0)/\(if j=0 then v else if j=1 then u else if j=2 then 1 else 0)<p
  split
  ·lia
  ·split
   ·lia
   ·split<;>lia⟩
theorem aN8 (v u w s:Int):conv (quF v u).2 (quF w s).2 3 0=v*w/\conv (quF v u).2 (quF w s).2 3 1=v*s+u*w/\conv (quF v u).2 (quF w s).2 3 2=v+u*s+w/\conv (quF v u).2 (quF w s).2 3 3=u+s:=by
 refine⟨?_,?_,?_,?_⟩<;>simp[conv,shF,quF]
theorem bN8 {p:Int}{f:Nat->Int}(mp:MP p 4 f){v u w s:Int}(m1:MP p (quF v u).1 (quF v u).2)(m2:MP p (quF w s).1 (quF w s).2)(hp:2<=p) :
  ((4,f):Nat×(Nat->Int))=tm p (quF v u) (quF w s)↔f 0=v*w%p/\f 1=(v*s+u*w)%p/\f 2=(v+u*s+w)%p/\f 3=(u+s)%p:=by
 obtain⟨e0,e1,e2,e3⟩:=aN8 v u w s;have mt:=MP.tm hp m1 m2;constructor
 ·intro e;have h: ∀m,f m=conv (quF v u).2 (quF w s).2 3 m%p:=λm=>congrFun (bC Prod.snd e) m
  exact⟨by rw[h 0,e0],by rw[h 1,e1],by rw[h 2,e2],by rw[h 3,e3]⟩
 ·rintro⟨h0,h1,h2,h3⟩;refine fM rfl (funext λm=> ?_)
  show f m=conv (quF v u).2 (quF w s).2 3 m%p
  match m with
  | 0=>rw[h0,e0]
  | 1=>rw[h1,e1]
  | 2=>rw[h2,e2]
  | 3=>rw[h3,e3]
  | 4=>exact mp.top.trans mt.top.symm
  | m+5=>exact(mp.hi _ ad).trans (mt.hi (m+5)<|show 2+2<m+5 by lia).symm
def NoQ (p:Int)(F:Nat×(Nat->Int)):Prop:= ∀v u w s:Int,0<=v->v<p->0<=u->u<p->0<=w->w<p->0<=s->s<p->F≠tm p (quF v u) (quF w s)
def mY:Φ:=λds Q=> ∃(f:Nat->Int) (p:Int),ds=[bL<|rwF 5 f,.int p]/\Pr p/\MP p 4 f/\
 (∀v u w s:Int,0<=v->v<p->0<=u->u<p->0<=w->w<p->0<=s->s<p->((4,f):Nat×(Nat->Int))=tm p (quF v u) (quF w s)->Q (.ow [bL [v,u,1],bL [w,s,1]]))/\(NoQ p (4,f)->Q (.ow []))
def qT:US:=(fA<|dO aL)
def mZ:US:=(aX (jZ (kJ<|aA (aE 1) aL) (dX 2)<|aX (cP 3<|uOp gI (uOp M.gSub (uIx (aS 0)<|uC<|.int 3)<|aE 2)<|aE 1)<|aX (cP 4<|uOp M.gSub (uIx (aS 0)<|uC<|.int 2)<|uOp iV (aE 2)<|aE 3)<|jZ (kJ<|aA (aE 1) aL) (dX 5)<|aX (cP 6<|uOp gI (uOp M.gSub (aE 4)<|aE 5)<|aE 1)<|gT (aD9 (cS<|uOp (iW false) (uOp gI (uOp iV (aE 5)<|aE 6)<|aE 1)<|uIx (aS 0)<|uC<|.int 0)<|cS<|uOp (iW false) (uOp gI (uOp dJ (uOp iV (aE 2)<|aE 6)<|uOp iV (aE 5)<|aE 3)<|aE 1)<|uIx (aS 0)<|uC<|.int 1) (fA<|dO<|aA (gD<|aA (aE 5)<|aA (aE 2)<|aA (uC<|.int 1) aL)<|aA (gD<|aA (aE 6)<|aA (aE 3)<|aA (uC<|.int 1) aL) aL) dP) qT)
def bD2 (p:Int)(f:Nat->Int)(u v:Int):Prop:=v*((f 2-u*((f 3-u)%p)-v)%p)%p=f 0/\(u*((f 2-u*((f 3-u)%p)-v)%p)+v*((f 3-u)%p))%p=f 1
theorem aV4 {p a b x:Int}(h0:0<=a)(h1:a<p)(h:x=(a+b)%p):(x-b)%p=a:=by
 rw[h,oI,gQ,<-oI,Int.add_sub_cancel];exact dE h0 h1
theorem a35: ∀ds Q,mY ds Q->mZ {nx:=λ_=>Q (.pu .non),rt:=Q} (init ["f","p","u","s","t","v","w"] ds):=by
 rintro ds Q ⟨f,p,rfl,pp,mp,yes,no⟩;have p2:=pp.lo;have p3:=pp.hi;have a0:atI ((rwF 5 f).map D.int) 0=some (.int<|f 0):=sZ (i:=0) ac
 have a1:atI ((rwF 5 f).map D.int) 1=some (.int<|f 1):=sZ (i:=1) ac
 have a2:atI ((rwF 5 f).map D.int) 2=some (.int<|f 2):=sZ (i:=2) ac
 have a3:atI ((rwF 5 f).map D.int) 3=some (.int<|f 3):=sZ (i:=3) ac
 unfold mZ;simp only[bL];show(aX _ _:US) _ [some<|.pu<|.tup<|(rwF 5 f).map .int,some<|.pu<|.int p,none,none,none,none,none];rw[bG];refine cG p.toNat (λi=> .int (0+i)) [some<|.pu<|.tup<|(rwF 5 f).map .int,some<|.pu<|.int p,none,none,none,none,none] ?_
  (λi ρ=> ∃x y z a b,ρ=[some<|.pu<|.tup<|(rwF 5 f).map .int,some<|.pu<|.int p,x,y,z,a,b]/\ ∀u v:Nat,u<i->v<p.toNat-> ¬bD2 p f (u:Int) (v:Int))
  ⟨none,none,none,none,none,rfl,λu v hu=>ad⟩ ?_ ?_
 ·intro Q' q;walk_at "u";refine⟨⟨ad,ad⟩,?_⟩
  exact q
 ·rintro i ρ hi ⟨x,y,z,a,b,rfl,nh⟩;rw[cN];walk_at "u";rw[a3];dsimp only;refine⟨ae,ad,?_⟩
  rw[bN _ ad,a2]
  dsimp only;have s0:=b9 (f 3-(i:Int)) (show p≠0 by lia)
  have s1:=b7 (f 3-(i:Int)) (show 0<p by lia)
  generalize hS:(f 3-(i:Int))%p=S at *;refine⟨cmL ad ad,?_⟩
  refine cG p.toNat (λi=> .int (0+i)) [some<|.pu<|.tup<|(rwF 5 f).map .int,some<|.pu<|.int p,some<|.pu<|.int (i:Int),some<|.pu<|.int S,some<|.pu<|.int<|f 2-(i:Int)*S,a,b] ?_
   (λj ρ=> ∃a b,ρ=[some<|.pu<|.tup<|(rwF 5 f).map .int,some<|.pu<|.int p,some<|.pu<|.int (i:Int),some<|.pu<|.int S,some<|.pu<|.int<|f 2-(i:Int)*S,a,b]/\ ∀v:Nat,v<j-> ¬bD2 p f (i:Int) (v:Int))
   ⟨a,b,rfl,λv hv=>ad⟩ ?_ ?_
  ·intro Q' q;walk_at "u";refine⟨⟨ad,ad⟩,?_⟩
   exact q
  ·rintro j ρ hj ⟨a,b,rfl,nj⟩;rw[cN];walk_at "u";refine⟨ae,ad,?_⟩
   rw[bN _ ad]
   have w0:=b9 (f 2-(i:Int)*S-(j:Int)) (show p≠0 by lia)
   have w1:=b7 (f 2-(i:Int)*S-(j:Int)) (show 0<p by lia)
   generalize hW:(f 2-(i:Int)*S-(j:Int))%p=W at *;refine⟨cmL ad ad,ad,?_⟩
   rw[bN _ ad,a0]
   dsimp only
   have step: ¬bD2 p f (i:Int) (j:Int)-> ∃a b,[some<|B.pu<|.tup<|(rwF 5 f).map .int,some<|.pu<|.int p,some<|.pu<|.int (i:Int),some<|.pu<|.int S,some<|.pu<|.int<|f 2-(i:Int)*S,some<|.pu<|.int (j:Int),some<|.pu<|.int W]=[some<|.pu<|.tup<|(rwF 5 f).map .int,some<|.pu<|.int p,some<|.pu<|.int (i:Int),some<|.pu<|.int S,some<|.pu<|.int<|f 2-(i:Int)*S,a,b]/\ ∀v:Nat,v<j+1-> ¬bD2 p f (i:Int) (v:Int):=λnh'=>⟨_,_,rfl,λv hv=>by
    by_cases h1:v<j
    ·exact nj v h1
    ·rw[show v=j by lia];exact nh'⟩
   by_cases c1:(j:Int)*W%p=f 0
   ·rw[a8 c1];refine⟨cmL ad ad,cmL ad ad,ad,?_⟩
    rw[bN _ ad,a1]
    dsimp only
    by_cases c2:((i:Int)*W+(j:Int)*S)%p=f 1
    ·rw[a8 c2];refine⟨ac,ac,ac,yes (j:Int) (i:Int) W S ad ad ad ad w0 w1 s0 s1<|(bN8 mp (MP.qu p2 ad ad ad ad) (MP.qu p2 w0 w1 s0 s1) p2).mpr ⟨c1.symm,by rw[<-c2,sK],?_,?_⟩⟩
     ·rw[<-hW,fV,gQ,<-fV];have:(j:Int)+(i:Int)*S+(f 2-(i:Int)*S-(j:Int))=f 2:=ad
      rw[this];exact(dE (mp.rng 2).1 (mp.rng 2).2).symm
     ·rw[<-hS,fV,gQ,<-fV];have:(i:Int)+(f 3-(i:Int))=f 3:=ad
      rw[this];exact(dE (mp.rng 3).1 (mp.rng 3).2).symm
    ·rw[a7 c2];exact step λz=>c2 (by have:=z.2;unfold bD2 at z;rw[hS,hW]at this;exact this)
   ·rw[a7 c1];exact step λz=>c1 (by have:=z.1;rw[hS,hW]at this;exact this)
  ·rintro ρ ⟨a,b,rfl,nj⟩;refine⟨_,_,_,_,_,rfl,λu v hu hv=> ?_⟩
   by_cases h1:u<i
   ·exact nh u v h1 hv
   ·rw[show u=i by lia];exact nj v hv
 ·rintro ρ ⟨x,y,z,a,b,rfl,nh⟩;dsimp only;unfold qT;walk_at "u";refine⟨ac,no ?_⟩
  intro v u w s v0 v1 u0 u1 w0 w1 s0 s1 e;obtain⟨h0,h1,h2,h3⟩:=(bN8 mp (MP.qu p2 v0 v1 u0 u1) (MP.qu p2 w0 w1 s0 s1) p2).mp e;obtain⟨v',rfl⟩: ∃v':Nat,v=(v':Int):=⟨v.toNat,ad⟩
  obtain⟨u',rfl⟩: ∃u':Nat,u=(u':Int):=⟨u.toNat,ad⟩
  refine nh u' v' ad ad ?_
  have es:(f 3-(u':Int))%p=s:=aV4 s0 s1 (by rw[h3,sK])
  have ew:(f 2-(u':Int)*s-(v':Int))%p=w:=by
   have:=aV4 (x:=f 2) (b:=(v':Int)+(u':Int)*s) w0 w1 (by rw[h2,sK w])
   rw[<-this]
   congr 1
   lia
  unfold bD2;rw[es,ew];exact⟨h0.symm,by rw[h1,sK]⟩
theorem at0 {a b:D}:atI [a,b] 0=some a:=c6 (j:=0) rfl
theorem at1 {a b:D}:atI [a,b] 1=some b:=c6 (j:=1) rfl
def NoR (p:Int)(F:Nat×(Nat->Int)):Prop:= ∀c:Nat,c<p.toNat->va p F (-(c:Int))≠0
def ltP (x y:(Nat×(Nat->Int))×Nat):Prop:=x.1.1<y.1.1\/(x.1.1=y.1.1/\ltL (rwF (x.1.1+1) x.1.2) (rwF (y.1.1+1) y.1.2)=true)
structure RL (p:Int)(F:Nat×(Nat->Int))(rs:List ((Nat×(Nat->Int))×Nat)):Prop where
 prod: ∀a:Nat×(Nat->Int),MP p a.1 a.2->allT p a rs=tm p a F
 mem: ∀x∈rs,MP p x.1.1 x.1.2/\2<=x.1.1/\x.1.1<=4/\1<=x.2/\x.2<=2/\NoR p x.1/\(x.1.1=4->NoQ p x.1)
 ord:rs.Pairwise ltP
 len:rs.length<=2
theorem aN9 {p:Int}(hp:2<=p){a:Nat×(Nat->Int)}(ha:MP p a.1 a.2):tm p a dN=a:=by
 rw[vH ha.hi (MP.one hp).hi,a95 ha]
theorem RL.single {p:Int}{F:Nat×(Nat->Int)}(mp:MP p F.1 F.2)(h2:2<=F.1)(h4:F.1<=4)(nr:NoR p F)(nq:F.1=4->NoQ p F):RL p F [(F,1)]:=
 ⟨λa _=>rfl,λx hx=>by rw[d7.mp hx];exact⟨mp,h2,h4,aC _,show 1<=2 by decide,nr,nq⟩,rE _ _,show 1<=2 by decide⟩
theorem row_lt {v u w s:Int}(h: ¬(v=w/\u=s)):ltL [w,s,1] [v,u,1]=false->ltL [v,u,1] [w,s,1]=true:=by
 unfold ltL
 by_cases c:v=w
 ·rw[a8 c,a8 c.symm];unfold ltL;have:u≠s:=λz=>h ⟨c,z⟩
  rw[a7 this,a7 λz=>this z.symm]
  simp only[wD,fJ]
  lia
 ·rw[a7 c,a7 λz=>c z.symm]
  simp only[wD,fJ]
  lia
def jB:Φ:=λds Q=> ∃(n:Nat) (f:Nat->Int) (p:Int),ds=[bL<|rwF (n+1) f,.int p]/\n<=4/\Pr p/\MP p n f/\NoR p (n,f)/\ ∀rs,RL p (n,f) rs->Q (.ow<|rs.map yV)
def mI:US:=(fA<|iJ [] [none,none] 1 (oQ<|aZ b04<|aA (aE 2) aL) (dX 0) (λρ Q=>Q true ρ)<|gD<|aA (aE 0)<|aA (uC<|.int 1) aL)
def mJ:US:=(aX (gT (cS<|uOp (aM5 false) (uIx (aS 2)<|uC<|.int 0)<|uIx (aS 2)<|uC<|.int 1) (fA<|dO<|aA (gD<|aA (uIx (aS 2)<|uC<|.int 0)<|aA (uC<|.int 2) aL) aL) dP) mI)
def gJ:US:=(aX (gT (cS<|uOp (iW false) (kI<|aS 2)<|uC<|.int 0) (fA<|dO<|aA (gD<|aA (aE 0)<|aA (uC<|.int 1) aL) aL) dP) mJ)
def mK:US:=(aX (cP 2<|uIf (cS<|uOp (iW false) (kI<|aS 0)<|uC<|.int 5) (aZ mY<|aA (aE 0)<|aA (aE 1) aL)<|dO aL) gJ)
def jC:US:=(aX (gT (cS<|uOp (iW false) (kI<|aS 0)<|uC<|.int 1) (fA<|dO aL) dP) mK)
theorem bN9 {p:Int}(pp:Pr p){F:Nat×(Nat->Int)}(mp:MP p F.1 F.2)(h1:F.1=1)(nr:NoR p F):False:=by
 have p2:=pp.lo;have r:=mp.rng 0;refine nr (F.2 0).toNat ad ?_
 unfold va;rw[h1,show(((F.2 0).toNat:Nat):Int)=F.2 0 by lia]
 have t:F.2 1=1:=by have:=mp.top;rw[h1]at this;exact this
 show(0+F.2 0*(-F.2 0)^0+F.2 1*(-F.2 0)^1)%p=0
 rw[t,gS,lB,gS];have:0+F.2 0*1+1*(1* -F.2 0)=0:=ad
 rw[this,c9]
theorem vL: ∀ds Q,jB ds Q->jC {nx:=λ_=>Q (.pu .non),rt:=Q} (init ["f","p","a"] ds):=by
 rintro ds Q ⟨n,f,p,rfl,n4,pp,mp,nr,h⟩;have p2:=pp.lo;unfold jC;simp only[bL];show(aX _ _:US) _ [some<|.pu<|.tup<|(rwF (n+1) f).map .int,some<|.pu<|.int p,none];rw[bG];walk_at "u";rw[bS]
 by_cases n0:n=0
 ·rw[a8 ad]
  subst n0;refine⟨ac,h [] ⟨λa ha=> ?_,ae,.nil,ac⟩⟩
  have e:((0,f):Nat×(Nat->Int))=dN:=fM rfl (funext λj=>by
   show f j=if j=0 then 1 else 0
   by_cases c:j=0
   ·rw[a8 c,c];exact mp.top
   ·rw[a7 c];exact mp.hi j ad)
  rw[e,aN9 p2 ha];rfl
 rw[a7 ad]
 have n1:n≠1:=λz=>bN9 pp (F:=(n,f)) mp z nr
 have alone:(n=4->NoQ p (n,f))->gJ {nx:=λ_=>Q (.pu .non),rt:=Q} [some<|.pu<|.tup<|(rwF (n+1) f).map .int,some<|.pu<|.int p,some<|.ow []]:=λnq=>by
  unfold gJ;rw[bG];walk_at "u";rw[a8<|by rfl]
  exact⟨ac,ac,h [((n,f),1)]<|RL.single mp (by show 2<=n;lia) n4 nr nq⟩
 unfold mK;rw[bG];walk_at "u";simp only[uIf,kI,aS,b48,uC,isB,B.d,oP,iW,List.getElem?_cons_zero,bS]
 by_cases c:n=4
 ·subst c;rw[a8<|by rfl]
  refine⟨f,p,rfl,pp,mp,λv u w s v0 v1 u0 u1 w0 w1 s0 s1 e=> ?_,λnq=> ?_⟩
  ·have m1:=MP.qu p2 v0 v1 u0 u1;have m2:=MP.qu p2 w0 w1 s0 s1;have k1:NoR p (quF v u):=λc hc=>by have:=nr c hc;rw[e]at this;exact(bN7 m2.hi this).1
   have k2:NoR p (quF w s):=λc hc=>by have:=nr c hc;rw[e]at this;exact(bN7 m2.hi this).2
   dsimp only;simp only[bL];unfold gJ;rw[bG];walk_at "u";rw[a7 ac]
   unfold mJ;rw[bG];walk_at "u";rw[at0,at1];dsimp only;refine aU0 ?_
   by_cases c:[v,u,(1:Int)]=[w,s,1]
   ·have c1:v=w:=by simp at c;exact c.1
    have c2:u=s:=by simp at c;exact c.2
    subst c1 c2;rw[bB rfl];dsimp only;rw[a8 ac]
    refine⟨ac,ac,h [(quF v u,2)] ⟨λa ha=> ?_,λx hx=> ?_,rE _ _,show 1<=2 by decide⟩⟩
    ·show tm p (tm p a<|quF v u) (quF v u)=tm p a (4,f)
     rw[e,yU m1.hi]
    ·rw[d7.mp hx];exact⟨m1,aC _,show 2<=4 by decide,show 1<=2 by decide,aC _,k1,λz=>by cases z⟩
   ·rw[bD c];dsimp only;rw[a7 ac]
    have nc: ¬(v=w/\u=s):=λz=>c (by rw[z.1,z.2])
    unfold mI;rw[sY];have fin2: ∀(v u w s:Int),MP p (quF v u).1 (quF v u).2->MP p (quF w s).1 (quF w s).2->NoR p (quF v u)->NoR p (quF w s)->((4,f):Nat×(Nat->Int))=tm p (quF v u) (quF w s)->ltL [v,u,1] [w,s,1]=true->Q (.ow [.tup [.tup<|[v,u,1].map D.int,.int 1],.tup [.tup<|[w,s,1].map D.int,.int 1]]):=λv u w s m1 m2 k1 k2 e lt=>by
     refine h [(quF v u,1),(quF w s,1)] ⟨λa ha=> ?_,λx hx=> ?_,?_,aC _⟩
     ·show tm p (tm p a<|quF v u) (quF w s)=tm p a (4,f)
      rw[e,yU m1.hi]
     ·rcases aR.mp hx with rfl|hx
      ·exact⟨m1,aC _,show 2<=4 by decide,aC _,show 1<=2 by decide,k1,λz=>by cases z⟩
      ·rw[d7.mp hx];exact⟨m2,aC _,show 2<=4 by decide,aC _,show 1<=2 by decide,k2,λz=>by cases z⟩
     ·refine i7.mpr ⟨λy hy=> ?_,rE _ _⟩
      rw[d7.mp hy];exact .inr ⟨rfl,lt⟩
    refine j5 (t0:=0) 2 (λk=>(if ltL [w,s,1] [v,u,1]=true then [D.tup<|[w,s,1].map D.int,.tup<|[v,u,1].map D.int]else [.tup<|[v,u,1].map D.int,.tup<|[w,s,1].map D.int]).getD k .non) [some<|.pu<|.tup<|(rwF (4+1) f).map .int,some<|.pu<|.int p,some<|.pu<|.lst [.tup<|[v,u,1].map D.int,.tup<|[w,s,1].map D.int]] ?_ ac (λx l'=>[x,some<|.ow l']) none rfl (λ_ _ _=>rfl) (λ_ _=>cM _) (λ_ _ _ q=>q) (λ_ _ _=>rfl)
     (λk=> .tup [(if ltL [w,s,1] [v,u,1]=true then [D.tup<|[w,s,1].map D.int,.tup<|[v,u,1].map D.int]else [.tup<|[v,u,1].map D.int,.tup<|[w,s,1].map D.int]).getD k .non,.int 1]) ?_ ?_
    ·intro Q' q;walk_at "u";refine⟨v,w,[u,1],[s,1],rfl,?_⟩;cases l:ltL [w,s,1] [v,u,1]
     ·rw[l]at q;exact q
     ·rw[l]at q;exact q
    ·intro k l' Q' hk q;walk_at "u";exact⟨ac,q⟩
    ·cases l:ltL [w,s,1] [v,u,1]
     ·exact fin2 v u w s m1 m2 k1 k2 e (row_lt nc l)
     ·exact fin2 w s v u m2 m1 k2 k1 (by rw[e,vH m1.hi m2.hi]) l
  ·exact alone λ_=>nq
 ·rw[a7 (by simp;lia)]
  refine⟨ac,?_⟩
  exact alone λz=>absurd z c
structure SP (p:Int)(F:Nat×(Nat->Int))(xs:List ((Nat×(Nat->Int))×Nat)):Prop where
 prod:allT p dN xs=F
 mem: ∀x∈xs,MP p x.1.1 x.1.2/\1<=x.1.1/\x.1.1<=4/\1<=x.2/\x.2<=4/\(2<=x.1.1->NoR p x.1)/\(x.1.1=4->NoQ p x.1)
 ord:xs.Pairwise ltP
 len:xs.length<=300
theorem SP.of {p:Int}(pp:Pr p){F L:Nat×(Nat->Int)}{cs:List (Int×Nat)}{rs:List ((Nat×(Nat->Int))×Nat)}(h4:F.1<=4)(lk:LK p F p.toNat cs L)(rl:RL p L rs):SP p F (cs.map lnP++rs):=by
 have p2:=pp.lo;have p3:=pp.hi;have rg: ∀x∈cs,0<=x.1/\x.1<p:=λx hx=>⟨(lk.mem x hx).1,by have:=(lk.mem x hx).2.1;lia⟩
 have mcs:=b74 p2 rg;have mA:=MP.allT p2 (cs.map lnP) (MP.one p2) mcs;refine⟨by rw[i4,rl.prod _ mA];exact lk.prod.symm,λx hx=> ?_,?_,?_⟩
 ·rcases cB.mp hx with hx|hx
  ·obtain⟨y,hy,rfl⟩:=eC.mp hx;have hd:=aV3 p (cs.map lnP) dN (lnP y) hx;have e:F.1=(allT p dN<|cs.map lnP).1+L.1:=bC Prod.fst lk.prod;have hd':0+1*y.2<=(allT p dN<|cs.map lnP).1:=hd;refine⟨mcs _ hx,aC _,show 1<=4 by decide,(lk.mem y hy).2.2,show y.2<=4 by lia,λz=> ?_,λz=> ?_⟩
   ·have:2<=1:=z
    lia
   ·have:1=4:=z
    lia
  ·obtain⟨a,b,c,d,e,f,g⟩:=rl.mem x hx;exact⟨a,ad,c,d,ad,λ_=>f,g⟩
 ·rw[rK];refine⟨?_,rl.ord,λx hx y hy=> ?_⟩
  ·rw[kX];refine lk.asc.imp λ{a b} h=> .inr ⟨rfl,?_⟩
   show ltL [a.1,1] [b.1,1]=true
   unfold ltL;rw[a7 ad,bB h]
  ·obtain⟨z,hz,rfl⟩:=eC.mp hx;have:=(rl.mem y hy).2.1;exact .inl (show 1<y.1.1 by lia)
 ·have a:=lk.len;have b:=rl.len;rw[fG,aI]
  lia
def q0:Φ:=λds Q=> ∃(n:Nat) (g:Nat->Int) (p:Int),ds=[bL<|rwF (n+1) g,.int p]/\n<=4/\p∈prL/\MP p n (md p g)/\ ∀xs,SP p (n,md p g) xs->Q (.ow<|xs.map yV)
def uO:US:=(fA<|uOp dJ (aE 2)<|aZ jB<|aA (aE 3)<|aA (aE 1) aL)
def uP:US:=(aX (aY8 (aZ oV<|aA (aZ gU<|aA (aE 0)<|aA (aE 1) aL)<|aA (aE 1) aL)<|pH<|cV 2<|cV 3 jY) uO)
def qA:US:=(aX (gT (cS<|uOp (gIn true) (aE 1)<|aZ iK aL) (λ_ _=>False) dP) uP)
theorem aE7: ∀ds Q,q0 ds Q->qA {nx:=λ_=>Q (.pu .non),rt:=Q} (init ["f","p","a","l"] ds):=by
 rintro ds Q ⟨n,g,p,rfl,n4,hp,mp,h⟩;have pp:=kF hp;have p2:=pp.lo;unfold qA;show(aX _ _:US) _ [some<|.pu<|bL<|rwF (n+1) g,some<|.pu<|.int p,none,none];rw[bG];walk_at "u";refine⟨rfl,p,T_SMALL_PRIMES,rfl,.inr<|.inl rfl,?_⟩;rw[bB (show p∈T_SMALL_PRIMES by rw[<-b27];exact hp)]
 dsimp only;rw[a7 ac]
 unfold uP;rw[bG];walk_at "u";refine⟨n+1,g,p,rfl,ad,ad,?_⟩
 walk_at "u"
 have e:fQ (md p g) (n+1)=n+1:=pJ (aC _) (λm h1 h2=>ad) (.inr (by rw[jM,mp.top];decide))
 rw[e];refine⟨n,md p g,p,rfl,ad,pp,mp,λcs L lk=> ?_⟩
 walk_at "u"
 refine⟨ac,ac,trivial,?_⟩
 unfold uO;rw[sY,a88];walk_at "u";have hL:L.1<=4:=by
  have e:n=(allT p dN<|cs.map lnP).1+L.1:=bC Prod.fst lk.prod
  lia
 refine⟨L.1,L.2,p,rfl,hL,pp,lk.mp,lk.nr,λrs rl=> ?_⟩
 have sp:=SP.of pp (F:=(n,md p g)) n4 lk rl;have e2:(cs.map λx=>yV (lnP x))++rs.map yV=(cs.map lnP++rs).map yV:=by rw[bU,cE];rfl
 walk_at "u"
 rw[e2];refine⟨?_,h _ sp⟩;rw[<-fG,e2,aI];exact aV sp.len ac
theorem aJ4 {p:Int}(hp:2<=p){g a h:Nat×(Nat->Int)}(ma:MP p a.1 a.2)(mh:MP p h.1 h.2): ∀k,powT p (tm p g a) h k=tm p g (powT p a h k)
 | 0=>rfl
 | k+1=>by
  show tm p (powT p (tm p g a) h k) h=tm p g (tm p (powT p a h k) h)
  rw[aJ4 hp ma mh k,yU (MP.powT hp ma mh k).hi]
theorem vI {p:Int}(hp:2<=p){g:Nat×(Nat->Int)}: ∀(l:List ((Nat×(Nat->Int))×Nat)) {a:Nat×(Nat->Int)},MP p a.1 a.2->(∀x∈l,MP p x.1.1 x.1.2)->allT p (tm p g a) l=tm p g (allT p a l)
 | [],a,_,_=>rfl
 | x::l,a,ma,h=>by
  show allT p (powT p (tm p g a) x.1 x.2) l=tm p g (allT p (powT p a x.1 x.2) l)
  rw[aJ4 hp ma<|h x<|.head _,vI hp l (MP.powT hp ma (h x<|.head _) x.2) λy hy=>h y (.tail _ hy)]
structure RF (n:Nat)(f:Nat->Int):Prop where
 n1:1<=n
 n4:n<=4
 top:f n=1
 hi: ∀j,n<j->f j=0
 fb: ∀j,(f j).natAbs<=2^9
theorem RF.mp {n:Nat}{f:Nat->Int}(h:RF n f){p:Int}(hp:2<=p):MP p n (md p f):=by
 refine⟨?_,λj hj=> ?_,λj=>⟨b9 _ ad,b7 _ ad⟩⟩
 ·show f n%p=1
  rw[h.top];exact dE ac ad
 ·show f j%p=0
  rw[h.hi j hj,c9]
noncomputable def ev (p:List Int)(z:Int):Int:=ps (λj=>p.getD j 0) z p.length
noncomputable def qq (v u w s:Int):List Int:=[v*w,u*w+v*s,v+w+u*s,u+s,1]
set_option maxHeartbeats 2000000 in
theorem l3 {a b c a' b' c':Int}(h:a=a')(h2:b=b')(h3:c=c'):[a,b,c]=[a',b',c']:=by rw[h,h2,h3]
theorem l4 {a b c d a' b' c' d':Int}(h:a=a')(h2:b=b')(h3:c=c')(h4:d=d'):[a,b,c,d]=[a',b',c',d']:=by rw[h,h2,h3,h4]
theorem l5 {a b c d e a' b' c' d' e':Int}(h:a=a')(h2:b=b')(h3:c=c')(h4:d=d')(h5:e=e'):[a,b,c,d,e]=[a',b',c',d',e']:=by rw[h,h2,h3,h4,h5]
theorem m2 {P:Int->Prop}{a b:Int}(h:P a)(h2:P b): ∀x∈[a,b],P x:=λx hx=>by
 rcases aR.mp hx with rfl|hx
 ·exact h
 ·rw[d7.mp hx];exact h2
theorem m3 {P:Int->Prop}{a:Int}{l:List Int}(h:P a)(h2: ∀x∈l,P x): ∀x∈a::l,P x:=λx hx=>by
 rcases aR.mp hx with rfl|hx
 ·exact h
 ·exact h2 x hx
theorem par {t g m:Int}(h:g*g=t*t-4*m):(t+g)%2=0/\(t-g)%2=0:=by
 have h1:(t-g)*(t+g)=4*m:=by grind
 rcases Int.emod_two_eq (t+g)with c|c
 ·exact⟨c,ad⟩
 ·exfalso
  obtain⟨a,ha⟩: ∃a,t+g=2*a+1:=⟨(t+g)/2,ad⟩
  obtain⟨b,hb⟩: ∃b,t-g=2*b+1:=⟨(t-g)/2,ad⟩
  rw[ha,hb]at h1;have:2*(2*(b*a)+b+a-2*m)+1=0:=by grind
  lia
noncomputable def fOf (p:List Int):Nat->Int:=λj=>p.getD j 0
theorem oT.rf {p:List Int}(h:oT p):RF (p.length-1) (fOf p):=by
 have lo:=h.ok.lo;have hi:=h.ok.hi;refine⟨aa,aa,?_,λj hj=> ?_,λj=> ?_⟩
 ·obtain⟨q,rfl⟩:=h.one;show(q++[1]).getD _ 0=1;rw[fG,aQ,nY ae]
  simp
 ·show p.getD j 0=0
  rw[aQ,iO aa]
  rfl
 ·exact aV (b17 h.ok.small j) ac
theorem oT.row {p:List Int}(h:oT p):bL p=bL (rwF (p.length-1+1)<|fOf p):=by
 have lo:=h.ok.lo;have e:=rwF_of p;rw[show p.length-1+1=p.length by omega]
 exact bC bL e
theorem b28 {p:Int}{F:Nat×(Nat->Int)}(mp:MP p F.1 F.2)(h1:F.1=1):F=dS (F.2 0):=by
 refine fM h1 (funext λj=> ?_)
 show F.2 j=if j=0 then F.2 0 else if j=1 then 1 else 0
 by_cases c0:j=0
 ·rw[a8 c0,c0]
 ·by_cases c1:j=1
  ·rw[a7 c0,a8 c1,c1];have:=mp.top;rw[h1]at this;exact this
  ·rw[a7 c0,a7 c1];exact mp.hi j ad
theorem Pr.no_zero {p:Int}(pp:Pr p){a b:Int}(h:a*b%p=0):a%p=0\/b%p=0:=by
 have p2:=pp.lo
 by_cases c:a%p=0
 ·exact .inl c
 ·refine .inr ?_
  have a0:=b9 a (show p≠0 by lia)
  have a1:=b7 a (show 0<p by lia)
  have iv:=pp.inv (a%p) ad a1
  generalize a92 (a%p) p (p.toNat-2)=t at iv;have e:b%p=(t*(a%p))%p*b%p:=by rw[iv,sN]
  rw[e,emL,jQ,<-emR,emL a b p,h,bQ,c9]
theorem bO0 {p:Int}(p2:2<=p)(a:Nat×(Nat->Int))(z:Int):va p a z%p=va p a z:=gQ _ _
theorem b75 {p:Int}{a g:Nat×(Nat->Int)}(hg: ∀j,g.1<j->g.2 j=0){z:Int}(h:va p a z=0\/va p g z=0): ∀k,(va p a z=0\/1<=k)->va p (powT p a g k) z=0
 | 0,hk=>by
  rcases hk with hk|hk
  ·exact hk
  ·omega
 | k+1,_=>by
  show va p (tm p (powT p a g k) g) z=0
  rw[bN5 hg];rcases h with h|h
  ·rw[b75 hg (.inl h) k<|.inl h,fW,c9]
  ·rw[h,bQ,c9]
theorem b76 {p:Int}(pp:Pr p){a g:Nat×(Nat->Int)}(hg: ∀j,g.1<j->g.2 j=0){z:Int}(h:va p a z≠0)(h2:va p g z≠0): ∀k,va p (powT p a g k) z≠0
 | 0=>h
 | k+1=>by
  show va p (tm p (powT p a g k) g) z≠0
  rw[bN5 hg];intro e;rcases pp.no_zero e with e|e
  ·rw[bO0 pp.lo]at e;exact b76 pp hg h h2 k e
  ·rw[bO0 pp.lo]at e;exact h2 e
theorem aO0 {p:Int}(pp:Pr p){z:Int}: ∀(l:List ((Nat×(Nat->Int))×Nat)) (a:Nat×(Nat->Int)),(∀x∈l,∀j,x.1.1<j->x.1.2 j=0)->va p a z≠0->(∀x∈l,va p x.1 z≠0)->va p (allT p a l) z≠0
 | [],a,_,h,_=>h
 | y::l,a,hl,h,h2=>aO0 pp l (powT p a y.1 y.2) (λx hx=>hl x (b6 _ hx)) (b76 pp (hl y<|aP ..) h (h2 y<|aP ..) _) λx hx=>h2 x (b6 _ hx)
theorem bO1 {p:Int}(p2:2<=p){g:Nat×(Nat->Int)}(mg:MP p g.1 g.2)(h1:g.1=1)(z:Int):va p g z=(z+g.2 0)%p:=by
 have e:g.2 1=1:=by have:=mg.top;rw[h1]at this;exact this
 unfold va;rw[h1];show(0+g.2 0*z^0+g.2 1*z^1)%p=_;rw[e,gS,pow_one]
 congr 1
 lia
def uQ:Φ:=λds Q=> ∃i:Nat,ds=[.int<|2+(i:Int)]/\Q (.pu<|.bl<|prC i)
def uS:US:=(fA<|aZ bJ5<|aA (iJ [0] [none,some 0,none] 2 (aG8<|aA (uC<|.int 2)<|aA (uC<|.int 15) aL) (dX 0) (λρ Q=>Q true ρ)<|uOrV (uOp (iW true) (uOp gI (aE 1)<|aE 0)<|uC<|.int 0)<|uOp (iW false) (aE 1)<|aE 0) aL)
theorem aV5: ∀ds Q,uQ ds Q->uS {nx:=λ_=>Q (.pu .non),rt:=Q} (init ["m"] ds):=by
 rintro ds Q ⟨i,rfl,h⟩;unfold uS;show(fA _:US) _ [some<|.pu<|.int<|2+(i:Int)];rw[sY,jG,jH];refine j5 (t0:=0) 13 (λk=> .int (2+(k:Int))) [some<|.pu<|.int<|2+(i:Int)] ?_ ac (λx l'=>[x,some<|.pu<|.int<|2+(i:Int),some<|.ow l']) none rfl (λ_ _ _=>rfl) (λ_ _=>cM _) (λ_ _ _ q=>q) (λ_ _ _=>rfl) (λk=> .bl (prB i k)) ?_ ?_
 ·intro Q'' q';walk_at "u";exact⟨ac,q'⟩
 ·intro k l' Q'' hk q';walk_at "u";unfold prB at q';refine⟨ad,?_⟩
  rw[bN _ ad]
  by_cases c:(2:Int)+(i:Int)=2+(k:Int)
  ·rw[a8 c]at q';have ik:i=k:=ad
   subst ik;rw[Int.emod_self]
   simpa using q'
  ·rw[a7 c]at q'
   by_cases c2:((2:Int)+(i:Int))%(2+(k:Int))=0
   ·rw[c2]at q'⊢;simp only[c,decide_false,a61,decide_true]at q'⊢
    simpa using q'
   ·simp only[c2,decide_false,Bool.not_false]at q'⊢
    simpa using q'
 ·have e:(List.range 13).map (λk=>D.bl (prB i k))=((List.range 13).map<|prB i).map D.bl:=by rw[cE];rfl
  rw[e];walk_at "u";rw[sV];exact h
def aE8 (q:Int)(F:Nat×(Nat->Int))(c:Int)(k:Nat):Prop:= ∃H:Nat×(Nat->Int),MP q H.1 H.2/\F=powT q H (dS c) k/\va q H (-c)≠0
theorem a98 {p c:Int}(p2:2<=p){a b:Nat×(Nat->Int)}(ma:MP p a.1 a.2)(mb:MP p b.1 b.2)(h:tm p a (dS c)=tm p b (dS c)):a=b:=by
 have d:a.1=b.1:=by
  have:=bC Prod.fst h;show a.1=b.1;have e:a.1+1=b.1+1:=this
  lia
 have f: ∀m,(c*a.2 m+(if m=0 then 0 else a.2 (m-1)))%p=(c*b.2 m+(if m=0 then 0 else b.2 (m-1)))%p:=λm=>by
  have:=congrFun (bC Prod.snd h) m;have e:conv a.2 (dS c).2 (a.1+1) m%p=conv b.2 (dS c).2 (b.1+1) m%p:=this;rw[a96 c ma.z,a96 c mb.z]at e;exact e
 have down: ∀(t m:Nat),a.1+1-m=t->a.2 m=b.2 m:=by
  intro t
  induction t with
  | zero=>
   intro m hm;rw[ma.hi m ad,mb.hi m ad]
  | succ t ih=>
   intro m hm;have i1:=ih (m+1) ad
   have e:=f (m+1);rw[a7 ad,a7 ad,jM,i1]at e
   have e2:=Int.emod_emod_of_dvd;have r1:=ma.rng m;have r2:=mb.rng m;have e3:(a.2 m-b.2 m)%p=0:=by
    have:=oI (c*b.2 (m+1)+a.2 m) (c*b.2 (m+1)+b.2 m) p;rw[e,Int.sub_self,c9]at this;rw[<-this]
    congr 1
    lia
   obtain⟨k,hk⟩:=iN e3;have k0:k=0:=by
    rcases rR k 0 with z|z|z
    ·have:p*k<=p*(-1):=iL ad ad
     lia
    ·exact z
    ·have:p*1<=p*k:=iL ad ad
     lia
   rw[k0,bQ]at hk
   lia
 exact fM d (funext λm=>down _ m rfl)
theorem aE8.uniq {q c:Int}(pq:Pr q){F:Nat×(Nat->Int)}(c0:0<=c)(c1:c<q){k l:Nat}(h:aE8 q F c k)(h2:aE8 q F c l):k=l:=by
 have q2:=pq.lo;have ml:=MP.lin q2 c0 c1;have lz:va q (dS c) (-c)=0:=by
  rw[bO1 q2 ml rfl];show(-c+c)%q=0;rw[show -c+c=0 by lia,c9]
 have main: ∀(k l:Nat) (H G:Nat×(Nat->Int)),MP q H.1 H.2->MP q G.1 G.2->va q H (-c)≠0->powT q H (dS c) k=powT q G (dS c) l->l<=k:=by
  intro k
  induction k with
  | zero=>
   intro l H G mH mG hv e;cases l with
   | zero=>exact aC _
   | succ l=>
    refine absurd ?_ hv
    rw[show H=powT q G (dS c) (l+1)from e]
    exact b75 ml.hi (.inr lz) _ (.inr ad)
  | succ k ih=>
   intro l H G mH mG hv e;cases l with
   | zero=>exact cO _
   | succ l=>
    have:=ih l H G mH mG hv (a98 q2 (MP.powT q2 mH ml k) (MP.powT q2 mG ml l) e)
    lia
 obtain⟨H,mH,e1,v1⟩:=h;obtain⟨G,mG,e2,v2⟩:=h2;have a:=main k l H G mH mG v1 (e1.symm.trans e2);have b:=main l k G H mG mH v2 (e2.symm.trans e1)
 lia
noncomputable def hb (r q:Int)(f:Nat->Int)(m:Nat):Nat->Int
 | 0=>0
 | k+1=>(hb r q f m k*r+f (m-k))%q
theorem bY1 {p:Int}(p2:2<=p){g:Nat×(Nat->Int)}(mg:MP p g.1 g.2){l:List ((Nat×(Nat->Int))×Nat)}{a:Nat×(Nat->Int)}(ma:MP p a.1 a.2)(hl: ∀x∈l,MP p x.1.1 x.1.2):allT p (tm p a g) l=tm p (allT p a l) g:=by
 rw[vH ma.hi mg.hi,vI p2 l ma hl,vH mg.hi (MP.allT p2 l ma hl).hi]
theorem a99 {p:Int}(p2:2<=p){g:Nat×(Nat->Int)}(mg:MP p g.1 g.2){l:List ((Nat×(Nat->Int))×Nat)}{a:Nat×(Nat->Int)}(ma:MP p a.1 a.2)(hl: ∀x∈l,MP p x.1.1 x.1.2): ∀k,allT p (powT p a g k) l=powT p (allT p a l) g k
 | 0=>rfl
 | k+1=>by
  show allT p (tm p (powT p a g k) g) l=tm p (powT p (allT p a l) g k) g
  rw[bY1 p2 mg (MP.powT p2 ma mg k) hl,a99 p2 mg ma hl k]
theorem aO1: ∀r:List Int,ltL r r=false
 | []=>rfl
 | a::r=>by unfold ltL;rw[a8 rfl];exact aO1 r
theorem xI {x y:(Nat×(Nat->Int))×Nat}(h:ltP x y):x.1≠y.1:=by
 intro e;unfold ltP at h;rw[e]at h;rcases h with h|h
 ·lia
 ·rw[aO1]at h;exact absurd h.2 ac
theorem bO2 {q c:Int}(pq:Pr q)(c0:0<=c)(c1:c<q){g:Nat×(Nat->Int)}(mg:MP q g.1 g.2)(d1:1<=g.1)(nr:2<=g.1->NoR q g)(h:g≠dS c):va q g (-c)≠0:=by
 have q2:=pq.lo
 by_cases d2:g.1=1
 ·rw[bO1 q2 mg d2];intro z;have r:=mg.rng 0;obtain⟨k,hk⟩:=iN z;have k0:k=0:=by
   rcases rR k 0 with z|z|z
   ·have:q*k<=q*(-1):=iL ad ad
    lia
   ·exact z
   ·have:q*1<=q*k:=iL ad ad
    lia
  rw[k0,bQ]at hk;refine h ?_;rw[b28 mg d2,show g.2 0=c by lia]
 ·have:=nr ad c.toNat ad
  rw[wM c0]at this;exact this
theorem aO2 {q c:Int}(pq:Pr q){F:Nat×(Nat->Int)}(mF:MP q F.1 F.2){xs:List ((Nat×(Nat->Int))×Nat)}(sp:SP q F xs)(c0:0<=c)(c1:c<q) :
  (∀x∈xs,x.1=dS c->aE8 q F c x.2)/\((∀x∈xs,x.1≠dS c)->aE8 q F c 0):=by
 have q2:=pq.lo;have mx: ∀x∈xs,MP q x.1.1 x.1.2:=λx hx=>(sp.mem x hx).1
 have nz: ∀x∈xs,x.1≠dS c->va q x.1 (-c)≠0:=λx hx h=>bO2 pq c0 c1 (mx x hx) (sp.mem x hx).2.1 (sp.mem x hx).2.2.2.2.2.1 h
 have v1:va q dN (-c)≠0:=by
  show(0+(if 0=0 then(1:Int)else 0)*(-c)^0)%q≠0
  rw[a8 rfl,gS,lD,cN,dE ac ad]
  decide
 refine⟨λx hx e=> ?_,λh=>⟨F,mF,rfl,?_⟩⟩
 ·obtain⟨l1,l2,rfl⟩:=List.append_of_mem hx;have od:=sp.ord;rw[rK,i7]at od;have m1: ∀y∈l1,MP q y.1.1 y.1.2:=λy hy=>mx y (cB.mpr<|.inl hy)
  have m2: ∀y∈l2,MP q y.1.1 y.1.2:=λy hy=>mx y (cB.mpr<|.inr<|b6 _ hy)
  have mA:=MP.allT q2 l1 (MP.one q2) m1;refine⟨allT q (allT q dN l1) l2,MP.allT q2 l2 mA m2,?_,?_⟩
  ·rw[<-sp.prod,i4];show allT q (powT q (allT q dN l1) x.1 x.2) l2=_;rw[a99 q2 (mx x hx) mA m2,e]
  ·rw[<-i4];refine aO0 pq _ _ (λy hy=> ?_) v1 λy hy=> ?_
   ·rcases cB.mp hy with hy|hy
    ·exact(m1 y hy).hi
    ·exact(m2 y hy).hi
   ·rcases cB.mp hy with hy|hy
    ·exact nz y (cB.mpr<|.inl hy) λz=>xI (od.2.2 y hy x<|aP ..) (z.trans e.symm)
    ·exact nz y (cB.mpr<|.inr<|b6 _ hy) λz=>xI (od.2.1.1 y hy) (e.trans z.symm)
 ·rw[<-sp.prod];exact aO0 pq xs dN (λy hy=>(mx y hy).hi) v1 λy hy=>nz y hy (h y hy)
noncomputable def dA (c b:Int):Int:=b*b-4*c
noncomputable def dB (d c b:Int):Int:=b*b*c*c-4*c*c*c-4*b*b*b*d-27*d*d+18*b*c*d
noncomputable def dC (e d c b:Int):Int:= -27*b*b*b*b*e*e+18*b*b*b*c*d*e-4*b*b*b*d*d*d-4*b*b*c*c*c*e+b*b*c*c*d*d+144*b*b*c*e*e-6*b*b*d*d*e-80*b*c*c*d*e+18*b*c*d*d*d-192*b*d*e*e+16*c*c*c*c*e-4*c*c*c*d*d-128*c*c*e*e+144*c*d*d*e-27*d*d*d*d+256*e*e*e
theorem Pr.or {q:Int}(pq:Pr q){a b:Int}(h:q∣a*b):q∣a\/q∣b:=by
 rcases pq.no_zero (nZ h)with h|h
 ·exact .inl (iN h)
 ·exact .inr (iN h)
theorem Pr.sq {q:Int}(pq:Pr q){a:Int}(h:q∣a*a):q∣a:=(pq.or h).elim id id
theorem Pr.cut {q:Int}(pq:Pr q){a b:Int}(h:q∣a*b)(n: ¬q∣a):q∣b:=(pq.or h).resolve_left n
theorem Pr.sol {q:Int}(pq:Pr q){a:Int}(h: ¬q∣a)(b:Int): ∃z,q∣a*z-b:=by
 have p2:=pq.lo;have a0:=b9 a (show q≠0 by lia)
 have a1:=b7 a (show 0<q by lia)
 have ne:a%q≠0:=λe=>h (iN e)
 have iv:=pq.inv (a%q) ad a1
 generalize a92 (a%q) q (q.toNat-2)=t at iv;have e1:=wK (t*(a%q)) q;have e2:=wK a q;rw[iv]at e1;refine⟨t*b,t*(a/q)*b+t*(a%q)/q*b,?_⟩;have:a*(t*b)-b=(a%q+q*(a/q))*(t*b)-b:=by rw[e2]
 rw[this];have:t*(a%q)*b=(1+q*(t*(a%q)/q))*b:=by rw[e1]
 grind
theorem no_mul {q:Int}(pq:Pr q){a b:Int}(h: ¬q∣a)(h2: ¬q∣b): ¬q∣a*b:=λh3=>(pq.or h3).elim h h2
theorem dv2 {q a b x y e:Int}(h:q∣a)(h2:q∣b)(he:e=a*x+b*y):q∣e:=by
 rw[he];exact dvd_add (kO h) (kO h2)
theorem dv3 {q a b c x y z e:Int}(h:q∣a)(h2:q∣b)(h3:q∣c)(he:e=a*x+b*y+c*z):q∣e:=by
 rw[he];exact dvd_add (dvd_add (kO h)<|kO h2) (kO h3)
theorem dv1 {q a x e:Int}(h:q∣a)(he:e=a*x):q∣e:=by rw[he];exact kO h
theorem cgA {q a b c d:Int}(h:q∣a-b)(h2:q∣c-d):q∣a+c-(b+d):=dv2 (x:=1) (y:=1) h h2 (by grind)
theorem cgM {q a b c d:Int}(h:q∣a-b)(h2:q∣c-d):q∣a*c-b*d:=dv2 (x:=c) (y:=b) h h2 (by grind)
theorem cgR {q:Int}(a:Int):q∣a-a:=by rw[Int.sub_self];exact Int.dvd_zero q
theorem cgE {q:Int}(a:Int):q∣a%q-a:=by
 have:=wK a q;exact⟨-(a/q),by grind⟩
theorem cgT {q a b:Int}(h:q∣a-b):q∣a↔q∣b:=⟨λg=>dv2 (x:=1) (y:= -1) g h (by grind),λg=>dv2 (x:=1) (y:=1) g h (by grind)⟩
noncomputable def dF (F:Nat×(Nat->Int)):Int:=if F.1=2 then dA (F.2 0) (F.2 1)else if F.1=3 then dB (F.2 0) (F.2 1) (F.2 2)else if F.1=4 then dC (F.2 0) (F.2 1) (F.2 2) (F.2 3)else 1
theorem b29 {q z w:Int}(h:q∣z-w)(g:Nat->Int): ∀n,q∣ps g z n-ps g w n
 | 0=>cgR _
 | n+1=>by
  have p: ∀k:Nat,q∣z^k-w^k:=by
   intro k
   induction k with
   | zero=>rw[gS,gS];exact cgR _
   | succ k ih=>rw[lB,lB];exact cgM ih h
  exact cgA (b29 h g n) (cgM (cgR _)<|p n)
theorem NoR.no {q:Int}(pq:Pr q){G:Nat×(Nat->Int)}(nr:NoR q G){z:Int}(h:q∣ps G.2 z (G.1+1)):False:=by
 have q2:=pq.lo;have r0:=b9 (-z) (show q≠0 by omega)
 have r1:=b7 (-z) (show 0<q by omega)
 refine nr ((-z)%q).toNat aa ?_
 rw[wM r0];refine nZ ((cgT<|b29 ?_ G.2<|G.1+1).mpr h);have:=cgE (q:=q) (-z);exact dv1 (x:= -1) this (by grind)
theorem yW {q a b:Int}(ha:0<=a/\a<q)(hb:0<=b/\b<q)(h:q∣a-b):a=b:=by
 obtain⟨k,hk⟩:=h;have k0:k=0:=by
  rcases rR k 0 with z|z|z
  ·have:q*k<=q*(-1):=iL ad ad
   lia
  ·exact z
  ·have:q*1<=q*k:=iL ad ad
   lia
 rw[k0,bQ]at hk
 lia
theorem aJ5 {q a b:Int}(h:a%q=b%q):q∣a-b:=iN (Int.emod_eq_emod_iff_emod_sub_eq_zero.mp h)
theorem bY2 {q v u v' u' w s w' s':Int}(pq:Pr q)(nr:NoR q (quF v u))(e0:q∣v*w-v'*w')(e1:q∣(v*s+u*w)-(v'*s'+u'*w'))(e2:q∣(v+u*s+w)-(v'+u'*s'+w'))(e3:q∣(u+s)-(u'+s')) :
  (q∣u-u'/\q∣v-v')\/(q∣u-s'/\q∣v-w'):=by
 have c1:q∣(u'-u)*(w'-v)+(v'-v)*(s'-u)-u*(u'-u)*(s'-u):=dv3 (x:= -(u*u-v)) (y:=u) (z:= -1) e3 e2 e1 (by grind)
 have c0:q∣(v'-v)*(w'-v)-v*(u'-u)*(s'-u):=dv3 (x:= -(u*v)) (y:=v) (z:= -1) e3 e2 e0 (by grind)
 have root: ∀a b:Int,q∣b*b-u*a*b+v*a*a->q∣a/\q∣b:=λa b h=>by
  by_cases ha:q∣a
  ·exact⟨ha,pq.sq<|dv2 (x:=1) (y:=u*b-v*a) h ha<|by grind⟩
  ·exfalso
   obtain⟨z,hz⟩:=pq.sol ha (-b);refine NoR.no pq nr (z:=z) ?_;refine pq.cut (a:=a*a) ?_ (no_mul pq ha ha);show q∣a*a*(0+v*z^0+u*z^1+1*z^2);exact dv2 (x:=1) (y:=a*z-b+u*a) h hz (by grind)
 have pr:q∣((v'-v)*(v'-v)-u*(u'-u)*(v'-v)+v*(u'-u)*(u'-u))*((w'-v)*(w'-v)-u*(s'-u)*(w'-v)+v*(s'-u)*(s'-u)):=
  dv2 (x:=((v'-v)*(w'-v)-v*(u'-u)*(s'-u))-u*((u'-u)*(w'-v)+(v'-v)*(s'-u)-u*(u'-u)*(s'-u))) (y:=v*((u'-u)*(w'-v)+(v'-v)*(s'-u)-u*(u'-u)*(s'-u))) c0 c1 (by grind)
 rcases pq.or pr with h|h
 ·obtain⟨h1,h2⟩:=root _ _ h;exact .inl ⟨dv1 (x:= -1) h1<|by grind,dv1 (x:= -1) h2<|by grind⟩
 ·obtain⟨h1,h2⟩:=root _ _ h;exact .inr ⟨dv1 (x:= -1) h1<|by grind,dv1 (x:= -1) h2<|by grind⟩
theorem xJ {q:Int}{g:Nat×(Nat->Int)}(mg:MP q g.1 g.2)(h2:g.1=2):g=quF (g.2 0) (g.2 1):=by
 obtain⟨n,f⟩:=g;obtain rfl:n=2:=h2;refine fM rfl (funext λj=> ?_)
 match j with
 | 0=>rfl
 | 1=>rfl
 | 2=>exact mg.top
 | j+3=>exact mg.hi (j+3) (show 2<j+3 by lia)
theorem bY3 {q:Int}(pq:Pr q){a b c d:Nat×(Nat->Int)}(ma:MP q a.1 a.2)(mb:MP q b.1 b.2)(mc:MP q c.1 c.2)(md':MP q d.1 d.2)(a2:a.1=2)(b2:b.1=2)(c2:c.1=2)(d2:d.1=2)(nr:NoR q a)(h:tm q a b=tm q c d):(a=c/\b=d)\/(a=d/\b=c):=by
 have ra:=ma.rng;have rb:=mb.rng;have rc:=mc.rng;have rd:=md'.rng;have ea:=xJ ma a2;have eb:=xJ mb b2;have ec:=xJ mc c2;have ed:=xJ md' d2;have v0:=ra 0;have u0:=ra 1;have w0:=rb 0;have s0:=rb 1;have v1:=rc 0;have u1:=rc 1;have w1:=rd 0;have s1:=rd 1;generalize a.2 0=v at *;generalize a.2 1=u at *;generalize b.2 0=w at *;generalize b.2 1=s at *;generalize c.2 0=v' at *;generalize c.2 1=u' at *
 generalize d.2 0=w' at *;generalize d.2 1=s' at *;subst ea eb ec ed;obtain⟨f0,f1,f2,f3⟩:=aN8 v u w s;obtain⟨g0,g1,g2,g3⟩:=aN8 v' u' w' s';have hm: ∀m,conv (quF v u).2 (quF w s).2 3 m%q=conv (quF v' u').2 (quF w' s').2 3 m%q:=λm=>congrFun (bC Prod.snd h) m
 have e0:=aJ5 (hm 0);have e1:=aJ5 (hm 1);have e2:=aJ5 (hm 2);have e3:=aJ5 (hm 3);rw[f0,g0]at e0;rw[f1,g1]at e1;rw[f2,g2]at e2;rw[f3,g3]at e3;rcases bY2 pq nr e0 e1 e2 e3 with⟨h1,h2⟩| ⟨h1,h2⟩
 ·obtain rfl:=yW u0 u1 h1;obtain rfl:=yW v0 v1 h2;obtain rfl:=yW s0 s1 (dv1 (x:=1) e3<|by grind)
  obtain rfl:=yW w0 w1 (dv1 (x:=1) e2<|by grind)
  exact .inl ⟨rfl,rfl⟩
 ·obtain rfl:=yW u0 s1 h1;obtain rfl:=yW v0 w1 h2;obtain rfl:=yW s0 u1 (dv1 (x:=1) e3<|by grind)
  obtain rfl:=yW w0 v1 (dv1 (x:=1) e2<|by grind)
  exact .inr ⟨rfl,rfl⟩
theorem aA0: ∀a b:List Int,ltL a b=true->ltL b a=true->False
 | [],[],h,_=>by simp[ltL]at h
 | [],_::_,_,h=>by simp[ltL]at h
 | _::_,[],h,_=>by simp[ltL]at h
 | x::a,y::b,h,h2=>by
  unfold ltL at h h2
  by_cases c:x=y
  ·rw[a8 c]at h;rw[a8 c.symm]at h2;exact aA0 a b h h2
  ·rw[a7 c]at h;rw[a7 λz=>c z.symm]at h2
   have:=iQ h;have:=iQ h2
   lia
theorem aV6 {x y:(Nat×(Nat->Int))×Nat}(h:ltP x y)(h2:ltP y x):False:=by
 unfold ltP at h h2;rcases h with h|h
 ·rcases h2 with h2|h2<;>lia
 ·rcases h2 with h2|h2
  ·lia
  ·exact aA0 _ _ h.2 h2.2
theorem b30 {α:Type}{R:α->α->Prop}(as: ∀x y,R x y->R y x->False): ∀{a b:List α},a.Pairwise R->b.Pairwise R->(∀x,x∈a↔x∈b)->a=b
 | [],[],_,_,_=>rfl
 | [],y::b,_,_,h=>by have:=(h y).mpr (aP ..);cases this
 | x::a,[],_,_,h=>by have:=(h x).mp (aP ..);cases this
 | x::a,y::b,ha,hb,h=>by
  rw[i7]at ha hb;have e:x=y:=by
   rcases aR.mp ((h x).mp<|aP ..)with e|m1
   ·exact e
   ·rcases aR.mp ((h y).mpr<|aP ..)with e|m2
    ·exact e.symm
    ·exact(as _ _ (ha.1 y m2)<|hb.1 x m1).elim
  subst e;rw[b30 as ha.2 hb.2 λz=>⟨λm=> ?_,λm=> ?_⟩]
  ·rcases aR.mp ((h z).mp<|b6 _ m)with e|m'
   ·subst e;exact(as _ _ (ha.1 z m)<|ha.1 z m).elim
   ·exact m'
  ·rcases aR.mp ((h z).mpr<|b6 _ m)with e|m'
   ·subst e;exact(as _ _ (hb.1 z m)<|hb.1 z m).elim
   ·exact m'
theorem a54 (p:Int): ∀(l:List ((Nat×(Nat->Int))×Nat)) (a:Nat×(Nat->Int)),a.1<=(allT p a l).1
 | [],a=>aC _
 | x::l,a=>by
  have:=a54 p l (powT p a x.1 x.2);rw[iE]at this;exact aV (Nat.le_add_right _ _) this
theorem aO3 {d k:Nat}(h:2<=d)(k1:1<=k):2<=d*k/\(d*k<=3->k=1)/\(d*k<=2->d=2):=by
 have h1:d*1<=d*k:=kS _ k1;refine⟨ad,λz=> ?_,λz=>ad⟩
 by_cases c:k=1
 ·exact c
 ·have:2*2<=d*k:=oE h ad
  lia
theorem a55 {q:Int}(q2:2<=q){N:List ((Nat×(Nat->Int))×Nat)}(mem: ∀x∈N,MP q x.1.1 x.1.2/\2<=x.1.1/\1<=x.2)(h4:(allT q dN N).1<=4) :
  N=[]\/(∃g,N=[(g,1)]/\allT q dN N=g)\/ ∃g h:Nat×(Nat->Int),g.1=2/\h.1=2/\allT q dN N=tm q g h/\((g=h/\N=[(g,2)])\/N=[(g,1),(h,1)]):=by
 match N,mem,h4 with
 | [],_,_=>exact .inl rfl
 | [x],mem,h4=>
  obtain⟨mx,d2,k1⟩:=mem x (aP ..);obtain⟨g,k⟩:=x;have hd:(powT q dN g k).1<=4:=h4;rw[iE]at hd;have hd':g.1*k<=4:=by have:dN.1=0:=rfl;lia
  by_cases c:k=1
  ·subst c;exact .inr (.inl ⟨g,rfl,a95 mx⟩)
  ·have k2:2<=k:=by have:1<=k:=k1;lia
   have:2*2<=g.1*2:=Nat.mul_le_mul_right _ d2;have h1:g.1*2<=g.1*k:=kS _ k2;have k3:k=2:=by
    by_cases z:k=2
    ·exact z
    ·have:2*3<=g.1*k:=oE d2 ad
     lia
   subst k3;refine .inr (.inr ⟨g,g,by have:2<=g.1:=d2;lia,by have:2<=g.1:=d2;lia,?_,.inl ⟨rfl,rfl⟩⟩)
   show tm q (tm q dN g) g=_
   rw[a95 mx]
 | x::y::l,mem,h4=>
  obtain⟨mx,d2,k1⟩:=mem x (aP ..);obtain⟨my,d2',k1'⟩:=mem y (b6 _<|aP ..);obtain⟨a1,a2,a3⟩:=aO3 d2 k1;obtain⟨b1,b2,b3⟩:=aO3 d2' k1';have e:(powT q (powT q dN x.1 x.2) y.1 y.2).1=x.1.1*x.2+y.1.1*y.2:=by
   rw[iE,iE];show 0+_+_=_;rw[zero_add]
  match l,mem,h4 with
  | [],_,h4=>
   have h4':(powT q (powT q dN x.1 x.2) y.1 y.2).1<=4:=h4;rw[e]at h4';have kx:=a2 ad
   have ky:=b2 ad
   have gx:=a3 ad
   have gy:=b3 ad
   obtain⟨g,k⟩:=x;obtain⟨h,k'⟩:=y;obtain rfl:k=1:=kx;obtain rfl:k'=1:=ky;refine .inr (.inr ⟨g,h,gx,gy,?_,.inr rfl⟩);show tm q (tm q dN g) h=_;rw[a95 mx]
  | z::l,mem,h4=>
   exfalso
   obtain⟨mz,d3,k3⟩:=mem z (b6 _<|b6 _<|aP ..);have c1:=(aO3 d3 k3).1;have ge:=a54 q l (powT q (powT q (powT q dN x.1 x.2) y.1 y.2) z.1 z.2);have h4':(allT q (powT q (powT q (powT q dN x.1 x.2) y.1 y.2) z.1 z.2) l).1<=4:=h4;rw[iE,e]at ge
   lia
theorem aA1 {q c:Int}(q2:2<=q)(c0:0<=c)(c1:c<q): ∀(k:Nat) {a b:Nat×(Nat->Int)},MP q a.1 a.2->MP q b.1 b.2->powT q a (dS c) k=powT q b (dS c) k->a=b
 | 0,_,_,_,_,h=>h
 | k+1,a,b,ma,mb,h=>by
  have ml:=MP.lin q2 c0 c1;exact aA1 q2 c0 c1 k ma mb (a98 q2 (MP.powT q2 ma ml k) (MP.powT q2 mb ml k) h)
theorem aA2 {q:Int}(q2:2<=q): ∀(L:List ((Nat×(Nat->Int))×Nat)) {G G':Nat×(Nat->Int)},(∀x∈L,∃c,x.1=dS c/\0<=c/\c<q)->MP q G.1 G.2->MP q G'.1 G'.2->allT q G L=allT q G' L->G=G'
 | [],_,_,_,_,_,h=>h
 | x::L,G,G',hL,mG,mG',h=>by
  obtain⟨c,e,c0,c1⟩:=hL x (aP ..);have ml:=MP.lin q2 c0 c1;have mL: ∀y∈L,MP q y.1.1 y.1.2:=λy hy=>by
   obtain⟨c',e',d0,d1⟩:=hL y (b6 _ hy);rw[e'];exact MP.lin q2 d0 d1
  have h':allT q (powT q G x.1 x.2) L=allT q (powT q G' x.1 x.2) L:=h;rw[e]at h';exact aA1 q2 c0 c1 x.2 mG mG' (aA2 q2 L (λy hy=>hL y (b6 _ hy)) (MP.powT q2 mG ml _) (MP.powT q2 mG' ml _) h')
theorem a02: ∀{xs:List ((Nat×(Nat->Int))×Nat)},xs.Pairwise ltP->(∀x∈xs,1<=x.1.1)-> ∀x∈xs.dropWhile (λx=>x.1.1==1),2<=x.1.1
 | [],_,_,x,hx=>by simp at hx
 | y::xs,hp,h1,x,hx=>by
  rw[i7]at hp
  by_cases c:y.1.1=1
  ·rw[List.dropWhile_cons_of_pos<|by simpa using c]at hx
   exact a02 hp.2 (λz hz=>h1 z (b6 _ hz)) x hx
  ·rw[List.dropWhile_cons_of_neg<|by simpa using c]at hx
   have hy:=h1 y (aP ..);rcases aR.mp hx with rfl|hx
   ·lia
   ·have:=hp.1 x hx;unfold ltP at this
    lia
theorem aJ6 {xs:List ((Nat×(Nat->Int))×Nat)}: ∀x∈xs.takeWhile (λx=>x.1.1==1),x.1.1=1:=λx hx=>by
 have:=gN.mp (List.all_takeWhile (l:=xs) (p:=λx=>x.1.1==1)) x hx
 simpa using this
theorem b77 {q:Int}(pq:Pr q){F:Nat×(Nat->Int)}(mF:MP q F.1 F.2){xs ys:List ((Nat×(Nat->Int))×Nat)}(sx:SP q F xs)(sy:SP q F ys){x:(Nat×(Nat->Int))×Nat}(hx:x∈xs)(h1:x.1.1=1):x∈ys:=by
 obtain⟨mx,_,_,k1,_⟩:=sx.mem x hx;have e:=b28 mx h1;have c0:=(mx.rng 0).1;have c1:=(mx.rng 0).2;have M1:=(aO2 pq mF sx c0 c1).1 x hx e
 by_cases c: ∃y∈ys,y.1=dS (x.1.2 0)
 ·obtain⟨y,hy,ey⟩:=c;have M2:=(aO2 pq mF sy c0 c1).1 y hy ey;have:x=y:=fM (e.trans ey.symm) (aE8.uniq pq c0 c1 M1 M2);rw[this];exact hy
 ·have M2:=(aO2 pq mF sy c0 c1).2 λy hy z=>c ⟨y,hy,z⟩
  have:=aE8.uniq pq c0 c1 M1 M2
  lia
theorem SP.uniq {q:Int}(pq:Pr q){F:Nat×(Nat->Int)}(mF:MP q F.1 F.2)(f4:F.1<=4){xs ys:List ((Nat×(Nat->Int))×Nat)}(sx:SP q F xs)(sy:SP q F ys):xs=ys:=by
 have q2:=pq.lo;have ex:=List.takeWhile_append_dropWhile (p:=λx:(Nat×(Nat->Int))×Nat=>x.1.1==1) (l:=xs)
 have ey:=List.takeWhile_append_dropWhile (p:=λx:(Nat×(Nat->Int))×Nat=>x.1.1==1) (l:=ys)
 have lx:=aJ6 (xs:=xs);have ly:=aJ6 (xs:=ys);have nx:=a02 sx.ord λx hx=>(sx.mem x hx).2.1
 have ny:=a02 sy.ord λx hx=>(sy.mem x hx).2.1
 have px:=sx.prod;have py:=sy.prod;have ox:=sx.ord;have oy:=sy.ord;have mx:=sx.mem;have my:=sy.mem;have tx: ∀x∈xs,x.1.1=1->x∈ys:=λx hx h=>b77 pq mF sx sy hx h
 have ty: ∀x∈ys,x.1.1=1->x∈xs:=λx hx h=>b77 pq mF sy sx hx h
 generalize xs.takeWhile (λx=>x.1.1==1)=Lx at *
 generalize xs.dropWhile (λx=>x.1.1==1)=Nx at *
 generalize ys.takeWhile (λx=>x.1.1==1)=Ly at *
 generalize ys.dropWhile (λx=>x.1.1==1)=Ny at *
 subst ex ey;rw[rK]at ox oy;have eL:Lx=Ly:=by
  refine b30 (λ_ _=>aV6) ox.1 oy.1 λx=>⟨λh=> ?_,λh=> ?_⟩
  ·rcases cB.mp (tx x (iP _ h)<|lx x h)with z|z
   ·exact z
   ·have:=ny x z;have:=lx x h
    lia
  ·rcases cB.mp (ty x (iP _ h)<|ly x h)with z|z
   ·exact z
   ·have:=nx x z;have:=ly x h
    lia
 subst eL;have hL: ∀x∈Lx,∃c,x.1=dS c/\0<=c/\c<q:=λx hx=>by
  have m:=(mx x<|iP _ hx).1;exact⟨_,b28 m<|lx x hx,(m.rng 0).1,(m.rng 0).2⟩
 have mL: ∀x∈Lx,MP q x.1.1 x.1.2:=λx hx=>(mx x<|iP _ hx).1
 have mNx: ∀x∈Nx,MP q x.1.1 x.1.2/\2<=x.1.1/\1<=x.2:=λx hx=>by
  have m:=mx x (cL _ hx);exact⟨m.1,nx x hx,m.2.2.2.1⟩
 have mNy: ∀x∈Ny,MP q x.1.1 x.1.2/\2<=x.1.1/\1<=x.2:=λx hx=>by
  have m:=my x (cL _ hx);exact⟨m.1,ny x hx,m.2.2.2.1⟩
 have m1:=MP.one q2;have gx:=MP.allT q2 Nx m1 λx hx=>(mNx x hx).1
 have gy:=MP.allT q2 Ny m1 λx hx=>(mNy x hx).1
 have turn: ∀N:List ((Nat×(Nat->Int))×Nat),(∀x∈N,MP q x.1.1 x.1.2)->allT q dN (Lx++N)=allT q (allT q dN N) Lx:=λN hN=>by
  have mA:=MP.allT q2 Lx m1 mL;have mB:=MP.allT q2 N m1 hN;rw[i4];have e1:allT q dN Lx=tm q (allT q dN Lx) dN:=(aN9 q2 mA).symm;rw[e1,vI q2 N m1 hN];have e2:allT q (allT q dN N) Lx=allT q (tm q (allT q dN N) dN) Lx:=by rw[aN9 q2 mB]
  rw[e2,vI q2 Lx m1 mL,vH mA.hi mB.hi]
 rw[turn Nx λx hx=>(mNx x hx).1]at px
 rw[turn Ny λx hx=>(mNy x hx).1]at py
 have eG:allT q dN Nx=allT q dN Ny:=aA2 q2 Lx hL gx gy (px.trans py.symm);have hx4:(allT q dN Nx).1<=4:=by
  have:=a54 q Lx (allT q dN Nx);rw[px]at this
  lia
 have hy4:(allT q dN Ny).1<=4:=by rw[<-eG];exact hx4
 have eN:Nx=Ny:=by
  have oX:=ox.2.1;have oY:=oy.2.1;have irx: ∀x∈Nx,NoR q x.1/\(x.1.1=4->NoQ q x.1):=λx hx=>by
   have m:=mx x (cL _ hx);exact⟨m.2.2.2.2.2.1<|nx x hx,m.2.2.2.2.2.2⟩
  have iry: ∀x∈Ny,NoR q x.1/\(x.1.1=4->NoQ q x.1):=λx hx=>by
   have m:=my x (cL _ hx);exact⟨m.2.2.2.2.2.1<|ny x hx,m.2.2.2.2.2.2⟩
  have noq: ∀{g a b:Nat×(Nat->Int)},MP q a.1 a.2->MP q b.1 b.2->a.1=2->b.1=2->(g.1=4->NoQ q g)->g=tm q a b->False:=λ{g a b} ma mb a2 b2 nq e=>by
   have g4:g.1=4:=by
    rw[e];show a.1+b.1=4
    lia
   refine nq g4 _ _ _ _ (ma.rng 0).1 (ma.rng 0).2 (ma.rng 1).1 (ma.rng 1).2 (mb.rng 0).1 (mb.rng 0).2 (mb.rng 1).1 (mb.rng 1).2 ?_
   rw[<-xJ ma a2,<-xJ mb b2];exact e
  have mp2: ∀{N:List ((Nat×(Nat->Int))×Nat)} {g h:Nat×(Nat->Int)},(∀x∈N,MP q x.1.1 x.1.2/\2<=x.1.1/\1<=x.2)->((g=h/\N=[(g,2)])\/N=[(g,1),(h,1)])->MP q g.1 g.2/\MP q h.1 h.2:=λ{N g h} mN f=>by
   rcases f with⟨rfl,rfl⟩|rfl
   ·have:=(mN _<|aP ..).1;exact⟨this,this⟩
   ·exact⟨(mN _<|aP ..).1,(mN _<|b6 _<|aP ..).1⟩
  rcases a55 q2 mNx hx4 with rfl| ⟨g,rfl,ge⟩| ⟨g,h,g2,h2,ge,fx⟩
  ·rcases a55 q2 mNy hy4 with rfl| ⟨g',rfl,ge'⟩| ⟨g',h',g2',h2',ge',fy⟩
   ·rfl
   ·exfalso
    have z:=bC Prod.fst (eG.trans ge');have z':0=g'.1:=z;have:=(mNy _<|aP ..).2.1;have:2<=g'.1:=this
    lia
   ·exfalso
    have z:=bC Prod.fst (eG.trans ge');have z':0=g'.1+h'.1:=z
    lia
  ·rcases a55 q2 mNy hy4 with rfl| ⟨g',rfl,ge'⟩| ⟨g',h',g2',h2',ge',fy⟩
   ·exfalso
    have z:=bC Prod.fst (ge.symm.trans eG);have z':g.1=0:=z;have:=(mNx _<|aP ..).2.1;have:2<=g.1:=this
    lia
   ·rw[ge.symm.trans<|eG.trans ge']
   ·exfalso
    obtain⟨ma,mb⟩:=mp2 mNy fy;exact noq ma mb g2' h2' (irx _<|aP ..).2 (ge.symm.trans<|eG.trans ge')
  ·obtain⟨mg,mh⟩:=mp2 mNx fx;rcases a55 q2 mNy hy4 with rfl| ⟨g',rfl,ge'⟩| ⟨g',h',g2',h2',ge',fy⟩
   ·exfalso
    have z:=bC Prod.fst (ge.symm.trans eG);have z':g.1+h.1=0:=z
    lia
   ·exfalso
    exact noq mg mh g2 h2 (iry _<|aP ..).2 (ge'.symm.trans<|eG.symm.trans ge)
   ·obtain⟨mg',mh'⟩:=mp2 mNy fy;have nr:NoR q g:=by
     rcases fx with⟨_,rfl⟩|rfl
     ·exact(irx _<|aP ..).1
     ·exact(irx _<|aP ..).1
    rcases bY3 pq mg mh mg' mh' g2 h2 g2' h2' nr (ge.symm.trans<|eG.trans ge')with⟨rfl,rfl⟩| ⟨rfl,rfl⟩
    ·rcases fx with⟨e,rfl⟩|rfl
     ·rcases fy with⟨_,rfl⟩|rfl
      ·rfl
      ·subst e;rw[i7]at oY;exact(xI (oY.1 _<|aP ..) rfl).elim
     ·rcases fy with⟨e,rfl⟩|rfl
      ·subst e;rw[i7]at oX;exact(xI (oX.1 _<|aP ..) rfl).elim
      ·rfl
    ·rcases fx with⟨e,rfl⟩|rfl
     ·subst e;rcases fy with⟨_,rfl⟩|rfl
      ·rfl
      ·rw[i7]at oY;exact(xI (oY.1 _<|aP ..) rfl).elim
     ·rw[i7]at oX;have l1:=oX.1 _ (aP ..);rcases fy with⟨e,rfl⟩|rfl
      ·exact(xI l1 e.symm).elim
      ·rw[i7]at oY;have l2:=oY.1 _ (aP ..);exact(aV6 l1 l2).elim
 rw[eN]
theorem a56: ∀a b:List Int,ltL a b=false->ltL b a=false->a=b
 | [],[],_,_=>rfl
 | [],_::_,h,_=>by simp[ltL]at h
 | _::_,[],_,h=>by simp[ltL]at h
 | x::a,y::b,h,h2=>by
  unfold ltL at h h2
  by_cases c:x=y
  ·rw[a8 c]at h;rw[a8 c.symm]at h2;rw[c,a56 a b h h2]
  ·rw[a7 c]at h;rw[a7 λz=>c z.symm]at h2
   have:=rN h;have:=rN h2
   lia
theorem b31: ∀a b c:List Int,ltL a b=true->ltL b c=true->ltL a c=true
 | [],[],_,h,_=>by simp[ltL]at h
 | [],_::_,[],_,h=>by simp[ltL]at h
 | [],_::_,_::_,_,_=>by simp[ltL]
 | _::_,[],_,h,_=>by simp[ltL]at h
 | _::_,_::_,[],_,h=>by simp[ltL]at h
 | x::a,y::b,z::c,h,h2=>by
  unfold ltL at h h2⊢
  by_cases e:x=y
  ·subst e;rw[a8 rfl]at h
   by_cases e2:x=z
   ·rw[a8 e2]at h2⊢;exact b31 a b c h h2
   ·rw[a7 e2]at h2⊢;exact h2
  ·rw[a7 e]at h;have h:=iQ h
   by_cases e2:y=z
   ·subst e2;rw[a7 e];exact bB h
   ·rw[a7 e2]at h2;have h2:=iQ h2;rw[a7 ad]
    exact bB ad
abbrev qB:=(Nat×(Nat->Int))×Nat
noncomputable def leP (x y:qB):Bool:=decide (x.1.1<y.1.1)||(decide (x.1.1=y.1.1)&& !ltL (rwF (y.1.1+1) y.1.2) (rwF (x.1.1+1) x.1.2))
theorem leL_tr {a b c:List Int}(h:ltL b a=false)(h2:ltL c b=false):ltL c a=false:=by
 cases e:ltL c a with
 | false=>rfl
 | true=>
  cases f:ltL a b with
  | true=>rw[b31 c a b e f]at h2;exact h2
  | false=>
   obtain rfl:=a56 a b f h;rw[e]at h2;exact h2
theorem leP_tr (x y z:qB)(h:leP x y=true)(h2:leP y z=true):leP x z=true:=by
 unfold leP at h h2⊢;simp only[sA,c8,fJ,rQ]at h h2⊢;rcases h with h|h
 ·rcases h2 with h2|h2
  ·exact .inl ad
  ·exact .inl ad
 ·rcases h2 with h2|h2
  ·exact .inl ad
  ·exact .inr ⟨ad,leL_tr h.2 h2.2⟩
theorem bY4 (x y:qB):(leP x y||leP y x)=true:=by
 unfold leP;simp only[sA,c8,fJ,rQ];rcases Nat.lt_trichotomy x.1.1 y.1.1 with h|h|h
 ·exact .inl (.inl h)
 ·cases e:ltL (rwF (y.1.1+1) y.1.2) (rwF (x.1.1+1) x.1.2)with
  | false=>exact .inl (.inr ⟨h,rfl⟩)
  | true=>
   cases f:ltL (rwF (x.1.1+1) x.1.2) (rwF (y.1.1+1) y.1.2)with
   | false=>exact .inr (.inr ⟨h.symm,rfl⟩)
   | true=>exact(aA0 _ _ e f).elim
 ·exact .inr (.inl h)
theorem b32 {q:Int}{x y:Nat×(Nat->Int)}(mx:MP q x.1 x.2)(my:MP q y.1 y.2)(h:rwF (x.1+1) x.2=rwF (y.1+1) y.2):x=y:=by
 obtain⟨n,f⟩:=x;obtain⟨m,g⟩:=y;have mx:MP q n f:=mx;have my:MP q m g:=my;have h:rwF (n+1) f=rwF (m+1) g:=h;have e:n=m:=by
  have:=bC length h;rw[nP,nP]at this;exact Nat.succ.inj this
 subst e
 congr 1
 funext j
 by_cases c:j<n+1
 ·have a:(rwF (n+1) f)[j]? =(rwF (n+1) g)[j]? :=by rw[h]
  rw[a52 c,a52 c]at a;exact dZ a
 ·rw[mx.hi j<|show n<j by lia,my.hi j<|show n<j by lia]
structure gB (p:Int)(xs:List qB):Prop where
 mem: ∀x∈xs,MP p x.1.1 x.1.2/\1<=x.1.1/\x.1.1<=4/\1<=x.2/\x.2<=4/\(2<=x.1.1->NoR p x.1)/\(x.1.1=4->NoQ p x.1)
 nd:xs.Pairwise λx y=>x.1≠y.1
 lo:2<=(allT p dN xs).1
 hi:(allT p dN xs).1<=4
 few:xs.length<=4
theorem bD3 {p:Int}(p2:2<=p){xs ys:List qB}(h:xs.Perm ys): ∀(a:Nat×(Nat->Int)),MP p a.1 a.2->(∀x∈xs,MP p x.1.1 x.1.2)->allT p a xs=allT p a ys:=by
 induction h with
 | nil=>exact λ_ _ _=>rfl
 | cons x _ ih=>
  intro a ma hm;exact ih _ (MP.powT p2 ma (hm x<|aP ..) x.2) λy hy=>hm y (b6 _ hy)
 | swap x y l=>
  intro a ma hm;have mx:=hm x (b6 _<|aP ..);have my:=hm y (aP ..);have:=a99 p2 my ma (l:=[x]) (by simpa using mx) y.2
  show allT p (powT p (powT p a y.1 y.2) x.1 x.2) l=allT p (powT p (powT p a x.1 x.2) y.1 y.2) l
  rw[show powT p (powT p a y.1 y.2) x.1 x.2=powT p (powT p a x.1 x.2) y.1 y.2 from this]
 | trans h1 _ i1 i2=>
  intro a ma hm;rw[i1 a ma hm];exact i2 a ma λx hx=>hm x (h1.mem_iff.mpr hx)
theorem aV7 {p:Int}(pp:Pr p){xs ys:List qB}(ok:gB p xs)(sp:SP p (allT p dN xs) ys):ys.Perm xs:=by
 have p2:=pp.lo;have pm:=List.mergeSort_perm xs leP;have mm: ∀x∈xs,MP p x.1.1 x.1.2:=λx hx=>(ok.mem x hx).1
 have srt:=List.pairwise_mergeSort leP_tr bY4 xs;have nd:(xs.mergeSort leP).Pairwise λx y=>x.1≠y.1:=(List.Perm.pairwise_iff (λh=>λz=>h z.symm) pm).mpr ok.nd
 have sp2:SP p (allT p dN xs) (xs.mergeSort leP):=by
  refine⟨bD3 p2 pm dN (MP.one p2) λx hx=>mm x (pm.mem_iff.mp hx),λx hx=>ok.mem x (pm.mem_iff.mp hx),?_,by rw[pm.length_eq];have:=ok.few;lia⟩
  refine(srt.and nd).imp_of_mem λ{x y} hx hy ⟨h1,h2⟩=> ?_
  have mx:=mm x (pm.mem_iff.mp hx);have my:=mm y (pm.mem_iff.mp hy);unfold leP at h1;simp only[sA,c8,fJ,rQ]at h1;rcases h1 with h1|h1
  ·exact .inl h1
  ·refine .inr ⟨h1.1,?_⟩
   cases e:ltL (rwF (x.1.1+1) x.1.2) (rwF (y.1.1+1) y.1.2)with
   | true=>rfl
   | false=>exact(h2<|b32 mx my<|a56 _ _ e h1.2).elim
 have mF:=MP.allT p2 xs (MP.one p2) mm;rw[SP.uniq pp mF ok.hi sp sp2];exact pm
noncomputable def toE (x:qB):List Int×Int:=(rwF (x.1.1+1) x.1.2,(x.2:Int))
noncomputable def elE (e:List Int×Int):D:= .tup [bL e.1,.int e.2]
noncomputable def ltE (a b:List Int×Int):Bool:=if a.1=b.1 then decide (a.2<b.2)else ltL a.1 b.1
def pdE (e:List Int×Int):PyData:= .tuple [.tuple<|e.1.map .int,.int e.2]
theorem aJ7: ∀a b:List Int,vK (a.map .int) (b.map .int)=some (ltL a b)
 | [],[]=>by simp[vK,ltL]
 | [],_::_=>by simp[vK,ltL]
 | _::_,[]=>by simp[vK,ltL]
 | x::a,y::b=>by
  simp only[cD,vK,ltL,PyData.eqv]
  by_cases c:x=y
  ·subst c;simp[aJ7 a b]
  ·simp[c,ltQ]
theorem c06 (a b:List Int×Int):ltQ (pdE a) (pdE b)=some (ltE a b):=by
 unfold pdE ltE;simp only[ltQ,vK];rw[aN5]
 by_cases c:a.1=b.1
 ·rw[a8<|bB c,a8 c];simp only[PyData.eqv]
  by_cases d:a.2=b.2
  ·simp[d]
  ·simp[d]
 ·rw[a7<|by simpa using c,a7 c]
  exact aJ7 a.1 b.1
theorem pd_E (e:List Int×Int):pd (elE e)=some (pdE e):=by simp[elE,pdE,pd,pdL,b21]
theorem b78: ∀l:List (List Int×Int),pdL (l.map elE)=some (l.map pdE)
 | []=>by simp[pdL]
 | e::l=>by simp[pdL,pd_E,b78 l]
theorem bO3: ∀l:List (List Int×Int),PyData.depthAll (l.map pdE)<=2
 | []=>by simp[PyData.depthAll]
 | e::l=>by
  have:=bO3 l;simp[PyData.depthAll,pdE,PyData.depth,a89];omega
theorem eqv_E (a b:List Int×Int):(pdE a).eqv (pdE b)=decide (a=b):=by
 obtain⟨r,k⟩:=a;obtain⟨s,m⟩:=b;have e:=aN5 r s;simp only[PyData.eqv]at e;simp only[pdE,PyData.eqv,PyData.eqvAll,e]
 by_cases c:r=s<;>by_cases d:k=m<;>simp[c,d]
theorem bO4: ∀a b:List (List Int×Int),PyData.eqvAll (a.map pdE) (b.map pdE)=decide (a=b)
 | [],[]=>by simp[PyData.eqvAll]
 | [],_::_=>by simp[PyData.eqvAll]
 | _::_,[]=>by simp[PyData.eqvAll]
 | x::a,y::b=>by
  simp only[cD,PyData.eqvAll,eqv_E,bO4 a b]
  by_cases c:x=y<;>by_cases d:a=b<;>simp[c,d]
theorem aO4 {neg:Bool}{a b:List (List Int×Int)}{Q:B->Prop}(h:Q (.pu<|.bl<|neg ^^ decide (a=b))):aM5 neg (.lst<|a.map elE) (.lst<|b.map elE) Q:=by
 refine⟨.list<|a.map pdE,.list<|b.map pdE,by simp[pd,b78],by simp[pd,b78],?_,?_⟩
 ·have:=bO3 a;simp[PyData.depth];omega
 ·simp only[PyData.eqv];rw[bO4];exact h
theorem b79 (a:List Int×Int):ltE a a=false:=by unfold ltE;rw[a8 rfl];exact bD (Int.lt_irrefl _)
theorem aA3 {a b c:List Int×Int}(h:ltE a b=true)(h2:ltE b c=true):ltE a c=true:=by
 unfold ltE at h h2⊢
 by_cases e:a.1=b.1
 ·rw[a8 e]at h
  by_cases f:b.1=c.1
  ·rw[a8 f]at h2;rw[a8<|e.trans f];have:=iQ h;have:=iQ h2;exact bB ad
  ·rw[a7 f]at h2;rw[a7 (by rw[e];exact f),e]
   exact h2
 ·rw[a7 e]at h
  by_cases f:b.1=c.1
  ·rw[a7 (by rw[<-f];exact e),<-f]
   exact h
  ·rw[a7 f]at h2;have g:=b31 _ _ _ h h2;rw[a7 (λz=>by rw[z,aO1]at g;cases g)]
   exact g
theorem b80 {a b:List Int×Int}(h:ltE a b=false)(h2:ltE b a=false):a=b:=by
 unfold ltE at h h2
 by_cases e:a.1=b.1
 ·rw[a8 e]at h;rw[a8 e.symm]at h2;have:=rN h;have:=rN h2;exact fM e ad
 ·rw[a7 e]at h;rw[a7 λz=>e z.symm]at h2
  exact(e<|a56 _ _ h h2).elim
noncomputable def rkE (A:List (List Int×Int))(x:List Int×Int):Nat:=A.countP λy=>ltE y x
theorem bO5 {A:List (List Int×Int)}{x y:List Int×Int}(hx:x∈A)(h:ltE x y=true):rkE A x<rkE A y:=by
 unfold rkE
 induction A with
 | nil=>cases hx
 | cons a A ih=>
  rw[List.countP_cons,List.countP_cons];have le:A.countP (λz=>ltE z x)<=A.countP λz=>ltE z y:=wJ λz _ hz=>aA3 hz h
  rcases aR.mp hx with rfl|hx
  ·rw[b79,h];simp;omega
  ·have:=ih hx
   by_cases c:ltE a x=true
   ·rw[c,aA3 c h];simp;exact this
   ·rw[Bool.eq_false_iff.mpr c];simp;omega
theorem rkE_le {A:List (List Int×Int)}{x y:List Int×Int}(h:ltE x y=false):rkE A y<=rkE A x:=by
 refine wJ λz _ hz=> ?_
 cases e:ltE z x with
 | true=>rfl
 | false=>
  cases f:ltE x z with
  | true=>rw[aA3 f hz]at h;cases h
  | false=>
   obtain rfl:=b80 e f;rw[hz]at h;cases h
noncomputable def sI (A:List (List Int×Int)):List Nat:=fB (λi j=>ltE (A.getD i ([],0)) (A.getD j ([],0))) A.length
noncomputable def nQ (A:List (List Int×Int)):List (List Int×Int):=(sI A).map λi=>A.getD i ([],0)
theorem b81 {A:List (List Int×Int)}(h:A.length<=5):(sI A).Perm (List.range A.length)/\(sI A).length=A.length/\(∀i,i<A.length->i∈sI A)/\ ∀i,i+1<A.length->(rkE A (A.getD ((sI A).getD i 0) ([],0)):Int)<=rkE A (A.getD ((sI A).getD (i+1) 0) ([],0))/\(sI A).getD i 0≠(sI A).getD (i+1) 0:=bC4 (n:=A.length) h (lt:=λi j=>ltE (A.getD i ([],0)) (A.getD j ([],0))) (f:=λi=>(rkE A (A.getD i ([],0)):Int)) λi j hi hj=>by
 have mi:A.getD i ([],0)∈A:=by rw[aQ,bJ hi];exact fU hi
 cases e:ltE (A.getD i ([],0)) (A.getD j ([],0))with
 | true=>exact(bB (by have:=bO5 mi e;omega)).symm
 | false=>exact(bD (by have:=rkE_le (A:=A) e;omega)).symm
theorem uT {A:List (List Int×Int)}(h:A.length<=5):(nQ A).Perm A:=by
 have a:=(b81 h).1.map λi=>A.getD i ([],0)
 have e:(List.range A.length).map (λi=>A.getD i ([],0))=A:=by
  apply i9
  ·simp
  ·intro i h1 h2;simp[aQ,h2]
 rw[e]at a;exact a
theorem bO6 {A:List (List Int×Int)}(h:A.length<=5)(nd:A.Nodup):(nQ A).Pairwise λx y=>ltE x y=true:=by
 obtain⟨pm,ln,_,st⟩:=b81 h;have sp:=uT h;have ndS:(nQ A).Nodup:=sp.symm.nodup nd;have at': ∀i (hi:i< (nQ A).length),(nQ A)[i]=A.getD ((sI A).getD i 0) ([],0):=λi hi=>by
  unfold nQ at hi⊢;rw[aI]at hi;simp[aQ,hi]
 have sl:(nQ A).length=A.length:=sp.length_eq;have one: ∀i (hi:i+1< (nQ A).length),ltE (nQ A)[i] (nQ A)[i+1]=true:=λi hi=>by
  have:=st i aa
  have q:=this.1;rw[<-at' i aa,<-at' (i+1) hi]at q
  cases e:ltE (nQ A)[i] (nQ A)[i+1]with
  | true=>rfl
  | false=>
   cases f:ltE (nQ A)[i+1] (nQ A)[i]with
   | true=>
    have:=bO5 (A:=A) (sp.mem_iff.mp<|fU hi) f;omega
   | false=>
    have z:=b80 e f;exact absurd z (rC.mp ndS i (i+1) aa hi aa)
 have all: ∀d i (hi:i+1+d< (nQ A).length),ltE (nQ A)[i] (nQ A)[i+1+d]=true:=by
  intro d
  induction d with
  | zero=>exact one
  | succ d ih=>exact λi hi=>aA3 (ih i aa) (one (i+1+d) hi)
 rw[rC];intro i j hi hj lt;obtain⟨d,rfl⟩: ∃d,j=i+1+d:=⟨j-i-1,aa⟩
 exact all d i hj
theorem b82 {A S:List (List Int×Int)}(h:A.length<=5)(h2:S.length<=5)(nd:S.Nodup):nQ A=nQ S↔A.Perm S:=by
 constructor
 ·intro e;have a:=uT h;rw[e]at a;exact a.symm.trans (uT h2)
 ·intro p;refine b30 (λx y h1 h2=> ?_) (bO6 h<|p.symm.nodup nd) (bO6 h2 nd) λx=> ?_
  ·have:=aA3 h1 h2;rw[b79]at this;cases this
  ·rw[(uT h).mem_iff,(uT h2).mem_iff,p.mem_iff]
theorem b83 {A:List (List Int×Int)}{Q:B->Prop}(h:A.length<=5)(q:Q (.ow<|(nQ A).map elE)):aM8 [.lst<|A.map elE] Q:=by
 have ok:b07 (A.map elE) (A.map pdE):=by
  refine⟨by rw[aI];exact h,b78 A,λx hx=> ?_,by have:=bO3 A;omega,λi j hi hj=> ?_⟩
  ·obtain⟨e,_,rfl⟩:=eC.mp hx;exact⟨e.1.map .int,[.int e.2],rfl⟩
  ·rw[aI]at hi hj;have g: ∀i,i<A.length->(A.map pdE).getD i .none=pdE (A.getD i ([],0)):=λi hi=>by simp[aQ,hi]
   rw[g i hi,g j hj,c06];rfl
 refine⟨A.map elE,A.map pdE,rfl,ok,?_⟩
 have e:fB (aE4<|A.map pdE) (A.map elE).length=sI A:=by
  rw[aI];refine a18 h λi j hi hj=> ?_
  unfold aE4;have g: ∀i,i<A.length->(A.map pdE).getD i .none=pdE (A.getD i ([],0)):=λi hi=>by simp[aQ,hi]
  rw[g i hi,g j hj,c06];rfl
 rw[e];have e2:((sI A).map λi=>(A.map elE).getD i .non)=(nQ A).map elE:=by
  unfold nQ;rw[cE];refine kR λi hi=> ?_
  have:=yH h i hi;simp[aQ,this]
 rw[e2];exact q
theorem bO7 (ys:List qB):ys.map yV=(ys.map toE).map elE:=by rw[cE];rfl
theorem aV8 (p:Int): ∀(l:List qB) (a:Nat×(Nat->Int)),(∀x∈l,1<=x.1.1/\1<=x.2)->a.1+l.length<=(allT p a l).1
 | [],_,_=>aC _
 | x::l,a,h=>by
  have ih:=aV8 p l (powT p a x.1 x.2) λy hy=>h y (b6 _ hy)
  rw[iE]at ih;have hx:=h x (aP ..);have:1*1<=x.1.1*x.2:=oE hx.1 hx.2;show a.1+(l.length+1)<=_;refine aV ?_ ih
  lia
theorem bD4 {p:Int}{ys:List qB}(hm: ∀x∈ys,MP p x.1.1 x.1.2)(nd:ys.Pairwise λx y=>x.1≠y.1):(ys.map toE).Nodup:=by
 refine kX.mpr (nd.imp_of_mem λ{x y} hx hy h e=>h ?_)
 exact b32 (hm x hx) (hm y hy) (bC Prod.fst e)
def bZ:Φ:=λds Q=> ∃(f:List Int) (p:Int) (A:List (List Int×Int)),ds=[bL f,.int p,.lst<|A.map elE]/\f.length<=1000/\A.length<=5/\(¬oT f->Q (.pu<|.bl false))/\(oT f->p ∉ prL->Q (.pu<|.bl false))/\
 (oT f->p∈prL-> ∀ys,SP p (f.length-1,md p<|fOf f) ys->Q (.pu<|.bl<|decide (A.Perm<|ys.map toE)))
def qU:US:=(fA<|uOp (aM5 false) (aZ aM8<|aA (aE 2) aL)<|aZ aM8<|aA (aZ q0<|aA (aE 0)<|aA (aE 1) aL) aL)
def n5:US:=(aX (gT (uOr (uNot<|cS<|aZ kD<|aA (aE 0) aL)<|cS<|uOp (gIn true) (aE 1)<|aZ iK aL) (fA<|uC<|.bl false) dP) qU)
theorem a36: ∀ds Q,bZ ds Q->n5 {nx:=λ_=>Q (.pu .non),rt:=Q} (init ["f","p","a"] ds):=by
 rintro ds Q ⟨f,p,A,rfl,hf,hA,h0,h1,h2⟩;unfold n5;show(aX _ _:US) _ [some<|.pu<|bL f,some<|.pu<|.int p,some<|.pu<|.lst<|A.map elE];rw[bG];walk_at "u";refine⟨f,rfl,hf,?_⟩
 (try dsimp only)
 by_cases rp:oT f
 ·rw[(aT7 f).mpr rp]
  (try dsimp only)
  rw[a7 ac]
  refine⟨rfl,p,T_SMALL_PRIMES,rfl,.inr<|.inl rfl,?_⟩
  by_cases hp:p∈prL
  ·rw[bB (show p∈T_SMALL_PRIMES by rw[<-b27];exact hp)]
   (try dsimp only)
   rw[a7 ac]
   unfold qU;rw[sY,a88];walk_at "u";refine b83 hA ?_;walk_at "u";have rf:=rp.rf;have lo:=rp.ok.lo;refine⟨f.length-1,fOf f,p,by rw[<-rp.row],rf.n4,hp,rf.mp (kF hp).lo,λys sp=> ?_⟩
   rw[bO7];have l5:(ys.map toE).length<=5:=by
    rw[aI];have a:=aV8 p ys dN λx hx=>⟨(sp.mem x hx).2.1,(sp.mem x hx).2.2.2.1⟩
    rw[sp.prod]at a;have:0+ys.length<=f.length-1:=a;have:=rp.ok.hi
    lia
   have nd:(ys.map toE).Nodup:=bD4 (λx hx=>(sp.mem x hx).1) (sp.ord.imp λh=>xI h)
   refine b83 l5 ?_
   refine aO4 ?_
   have:=h2 rp hp ys sp;rw[gP];have e:decide (nQ A=nQ (ys.map toE))=decide (A.Perm<|ys.map toE):=by
    by_cases c:A.Perm (ys.map toE)
    ·rw[bB c,bB<|(b82 hA l5 nd).mpr c]
    ·rw[bD c,bD λz=>c ((b82 hA l5 nd).mp z)]
   rw[e];exact this
  ·rw[bD (show ¬p∈T_SMALL_PRIMES by rw[<-b27];exact hp)]
   (try dsimp only)
   rw[a8 ac]
   exact h1 rp hp
 ·rw[bX5 rp]
  (try dsimp only)
  rw[a8 ac]
  exact h0 rp
def uU:Φ:=λds Q=> ∃(n a b:Nat) (f:Nat->Int) (z:Int) (d:D),ds=[d,.int z]/\(d= .tup ((rwF n f).map .int)\/d= .lst ((rwF n f).map .int))/\aV0 n a b f z/\Q (.pu<|.int<|ps f z n)
def aA4:US:=(aX (cP 2<|uC<|.int 0)<|aX (jZ (bL7<|aA (aE 0) aL) (dX 3)<|cP 2<|uOp dJ (uOp iV (aE 2)<|aE 1)<|aE 3)<|tO 2)
theorem bO8: ∀ds Q,uU ds Q->aA4 {nx:=λ_=>Q (.pu .non),rt:=Q} (init ["f","z","v","c"] ds):=by
 rintro ds Q ⟨n,a,b,f,z,d,rfl,hd,ok,h⟩;unfold aA4;show(aX _ _:US) _ [some<|.pu d,some<|.pu<|.int z,none,none];walk_at "u";refine cG n (λk=>((rwF n f).map D.int).getD (n-1-k) .non) [some<|.pu d,some<|.pu<|.int z,some<|.pu<|.int 0,none] ?_
  (λk ρ=> ∃c,ρ=[some<|.pu d,some<|.pu<|.int z,some<|.pu<|.int<|hor f n z k,c]) ⟨none,rfl⟩ ?_ ?_
 ·intro Q' q;rcases hd with rfl|rfl
  ·walk_at "u"
   rw[bS];exact q
  ·walk_at "u"
   rw[bS];exact q
 ·rintro k ρ hk ⟨c,rfl⟩;rw[mE aa]
  walk_at "u"
  have room:=ok.room;have:(b+1)*k<=(b+1)*n:=kS _ aa
  exact⟨ae,.inr ⟨Sm.pow (a00 ok.fb ok.zb k) aa,Sm.pow ok.zb (by have:=ok.b8;omega)⟩,_,rfl⟩
 ·rintro ρ ⟨c,rfl⟩;walk_at "u";rw[b70];exact h
def a57:Φ:=λds Q=> ∃(a b:Nat×(Nat->Int)) (p:Int),ds=[bL<|rwF (a.1+1) a.2,bL<|rwF (b.1+1) b.2,.int p]/\MP p a.1 a.2/\MP p b.1 b.2/\2<=p/\p<200/\a.1<=20/\b.1<=20/\Q (.pu<|bL<|rwF ((tm p a b).1+1) (tm p a b).2)
def aV9:US:=(fA<|aZ iX<|aA (aE 3) aL)
def aO5:US:=(aX (cP 3<|uOp iV (dO<|aA (uC<|.int 0) aL)<|uOp M.gSub (uOp dJ (kI<|aS 0)<|kI<|aS 1)<|uC<|.int 1)<|aX (jZ (kJ<|aA (kI<|aS 0) aL) (dX 4)<|jZ (kJ<|aA (kI<|aS 1) aL) (dX 5)<|aG9 3 (uOp gI (uOp dJ (uIx (aS 3)<|uOp dJ (aE 4)<|aE 5)<|uOp iV (uIx (aS 0)<|aE 4)<|uIx (aS 1)<|aE 5)<|aE 2)<|uOp dJ (aE 4)<|aE 5) aV9)
theorem bY5: ∀ds Q,a57 ds Q->aO5 {nx:=λ_=>Q (.pu .non),rt:=Q} (init ["f","g","p","r","i","j"] ds):=by
 rintro ds Q ⟨⟨du,u⟩,⟨dv,b⟩,p,rfl,mu,mb,p2,p9,a20,b20,h⟩;have hz: ∀j,dv+1<=j->b j=0:=λj hj=>mb.hi j hj
 have hu: ∀j,0<=u j/\u j<p:=mu.rng;have hb: ∀j,0<=b j/\b j<p:=mb.rng;have h:Q (.pu<|bL<|rwF (du+dv+1)<|md p<|conv u b (du+1)):=h;have U9:du<=20:=a20;have V9:dv<=20:=b20;unfold aO5;simp only[bL]at h⊢;show(aX _ _:US) _ [some<|.pu<|.tup<|(rwF (du+1) u).map .int,some<|.pu<|.tup<|(rwF (dv+1) b).map .int,some<|.pu<|.int p,none,none,none];walk_at "u"
 rw[bS,bS,show((du+1:Nat):Int)+((dv+1:Nat):Int)-1=((du+dv+1:Nat):Int)by lia,fH,aJ0]
 refine⟨ac,⟨ad,ad,aV (show(0+1)*(du+dv+1)<=300 by lia) ac⟩,?_⟩
 refine cG (du+1) (λi=> .int (0+i)) [some<|.pu<|.tup<|(rwF (du+1) u).map .int,some<|.pu<|.tup<|(rwF (dv+1) b).map .int,some<|.pu<|.int p,some<|.ow<|(rwF (du+dv+1) λ_=>0).map .int,none,none] ?_
  (λi ρ=> ∃x y,ρ=[some<|.pu<|.tup<|(rwF (du+1) u).map .int,some<|.pu<|.tup<|(rwF (dv+1) b).map .int,some<|.pu<|.int p,some<|.ow<|(rwF (du+dv+1)<|md p<|conv u b i).map .int,x,y]) ⟨none,none,?_⟩ ?_ ?_
 ·intro Q' q;walk_at "u";rw[bS];refine⟨⟨ad,ad⟩,?_⟩
  rw[fH];exact q
 ·have:(rwF (du+dv+1) λ_=>0)=rwF (du+dv+1) (md p<|conv u b 0):=hJ λm _=>by show(0:Int)=0%p;rw[c9]
  rw[this]
 ·rintro i ρ hi ⟨x,y,rfl⟩;rw[cN];refine⟨ae,?_⟩
  show(jZ _ _ _:US) _ [some<|.pu<|.tup<|(rwF (du+1) u).map .int,some<|.pu<|.tup<|(rwF (dv+1) b).map .int,some<|.pu<|.int p,some<|.ow<|(rwF (du+dv+1)<|md p<|conv u b i).map .int,some<|.pu<|.int (i:Int),y]
  refine cG (dv+1) (λj=> .int (0+j)) [some<|.pu<|.tup<|(rwF (du+1) u).map .int,some<|.pu<|.tup<|(rwF (dv+1) b).map .int,some<|.pu<|.int p,some<|.ow<|(rwF (du+dv+1)<|md p<|conv u b i).map .int,some<|.pu<|.int (i:Int),y] ?_
   (λj ρ=> ∃y,ρ=[some<|.pu<|.tup<|(rwF (du+1) u).map .int,some<|.pu<|.tup<|(rwF (dv+1) b).map .int,some<|.pu<|.int p,some<|.ow<|(rwF (du+dv+1)<|md p λm=>if m<i+j then conv u b (i+1) m else conv u b i m).map .int,some<|.pu<|.int (i:Int),y]) ⟨y,by rw[aU6]⟩ ?_ ?_
  ·intro Q' q;walk_at "u";rw[bS];refine⟨⟨ad,ad⟩,?_⟩
   rw[fH];exact q
  ·rintro j ρ hj ⟨y,rfl⟩;rw[cN];have hij:i+j<du+dv+1:=ad
   have c2:(i:Int)+(j:Int)=((i+j:Nat):Int):=ad
   have u1:=hu i;have b1:=hb j;walk_at "u";rw[c2,sZ hij,sZ hi,sZ hj];dsimp only;rw[bS,b19 hij];refine⟨ae,cmL ad ad,ad,some<|.pu<|.int (j:Int),?_⟩
   rw[bN _<|show 0<p by lia]
   have e1:(md p (λm=>if m<i+j then conv u b (i+1) m else conv u b i m) (i+j)+u i*b j)%p=(conv u b i (i+j)+u i*b j)%p:=by
    show((if i+j<i+j then conv u b (i+1) (i+j)else conv u b i (i+j))%p+u i*b j)%p=_
    rw[a7 ad,Int.emod_add_emod]
   rw[e1,aN3 hij];have e2:(rwF (du+dv+1) λx=>if x=i+j then(conv u b i (i+j)+u i*b j)%p else md p (λm=>if m<i+j then conv u b (i+1) m else conv u b i m) x)=rwF (du+dv+1) (md p λx=>if x=i+j then conv u b i (i+j)+u i*b j else if x<i+j then conv u b (i+1) x else conv u b i x):=hJ λm _=>by
    unfold md;dsimp only
    by_cases c:m=i+j
    ·rw[a8 c,a8 c]
    ·rw[a7 c,a7 c]
   rw[e2,aU8]
  ·rintro ρ ⟨y,rfl⟩;rw[aU7 p hz];exact⟨_,_,rfl⟩
 ·rintro ρ ⟨x,y,rfl⟩;dsimp only;unfold aV9;walk_at "u";exact h
theorem aO6 {p:Int}(p2:2<=p){F:Nat×(Nat->Int)}(h: ∀z:Nat,z<p.toNat->ps F.2 (z:Int) (F.1+1)%p≠0):NoR p F:=by
 intro c hc e;have r0:=b9 (-(c:Int)) (show p≠0 by lia)
 have r1:=b7 (-(c:Int)) (show 0<p by lia)
 refine h ((-(c:Int))%p).toNat ad ?_
 rw[wM r0];have a:=b29 (q:=p) (z:=(-(c:Int))%p) (w:= -(c:Int)) (cgE _) F.2 (F.1+1);exact nZ ((cgT a).mpr<|iN e)
theorem bO9 (x:Int)(n:Nat)(f:Nat->Int):D.int x::(rwF n f).map .int=(rwF (n+1) λi=>if i=0 then x else f (i-1)).map .int:=by
 apply i9
 ·simp[rwF]
 ·intro i h1 h2;cases i with
  | zero=>simp[rwF]
  | succ i=>simp[rwF]
def pN:Φ:=λds Q=> ∃(xs:List Int) (m:Nat) (p:Int),ds=[.lst<|xs.map .int,.int (m:Int),.int p]/\2<=m/\m<=3/\m<=xs.length/\(∀x∈xs,0<=x/\x<200)/\2<=p/\p<200/\Q (.pu .non)/\ ∀F:Nat×(Nat->Int),MP p F.1 F.2->2<=F.1->F.1<=3->(m=2->F.1=2)->NoR p F->Q (.pu<|bL<|rwF (F.1+1) F.2)
def tU:US:=(gT (cS<|aZ bJ5<|aA (iJ [4,2] [none,some 4,some 2,none] 3 (kJ<|aA (aE 2) aL) (dX 0) (λρ Q=>Q true ρ)<|uOp (iW true) (uOp gI (aZ uU<|aA (aE 1)<|aA (aE 0) aL)<|aE 2)<|uC<|.int 0) aL) (fA<|aZ iX<|aA (aE 4) aL) dP)
def tV:US:=(aX (jZ (b59<|aA (uOp M.gSub (aE 1)<|uC<|.int 1)<|aA (a28<|uC<|.int 1)<|aA (a28<|uC<|.int 1) aL) (dX 5)<|cP 4<|uOp dJ (dO<|aA (uOp gI (uOp dJ (uIx (aS 0)<|aE 5)<|uOp iV (uOp iV (aE 3)<|uOp dJ (aE 5)<|uC<|.int 1)<|uOp dJ (aE 3)<|uC<|.int 7)<|aE 2) aL)<|aE 4) tU)
def tW:US:=(aX (cP 4<|dO<|aA (uC<|.int 1) aL) tV)
def vP:US:=(fA<|uIf (cS<|uOp (iW false) (aE 2)<|uC<|.int 2) (gD<|aA (uC<|.int 1)<|aA (uC<|.int 1)<|aA (uC<|.int 1) aL)<|uC .non)
def uW:US:=(aX (jZ (kJ<|aA (uC<|.int 40) aL) (dX 3) tW) vP)
theorem aW0: ∀ds Q,pN ds Q->uW {nx:=λ_=>Q (.pu .non),rt:=Q} (init ["d","m","p","s","f","k"] ds):=by
 rintro ds Q ⟨xs,m,p,rfl,m2,m3,ml,hx,p2,p9,h0,h⟩;unfold uW;show(aX _ _:US) _ [some<|.pu<|.lst<|xs.map .int,some<|.pu<|.int (m:Int),some<|.pu<|.int p,none,none,none];rw[bG];refine cG 40 (λk=> .int (0+(k:Int))) [some<|.pu<|.lst<|xs.map .int,some<|.pu<|.int (m:Int),some<|.pu<|.int p,none,none,none] (λQ' q'=> ?_)
  (λk ρ=> ∃x y z,ρ=[some<|.pu<|.lst<|xs.map .int,some<|.pu<|.int (m:Int),some<|.pu<|.int p,x,y,z]) ⟨none,none,none,rfl⟩ ?_ ?_
 ·walk_at "u"
  exact⟨ac,q'⟩
 ·rintro k ρ hk ⟨x,y,z,rfl⟩;rw[cN];walk_at "u";unfold tW;refine⟨ac,?_⟩
  walk_at "u"
  unfold tV;obtain⟨c,ec⟩: ∃c:Nat->Int,c=λj=>(xs.getD j 0+(k:Int)*((j:Int)+1)*((k:Int)+7))%p:=⟨_,rfl⟩
  have cr: ∀j,0<=c j/\c j<p:=λj=>by rw[ec];exact⟨b9 _ ad,b7 _ ad⟩
  refine⟨ac,?_⟩
  rw[bG];refine cG m (λt=> .int ((m:Int)-1-(t:Int))) [some<|.pu<|.lst<|xs.map .int,some<|.pu<|.int (m:Int),some<|.pu<|.int p,some<|.pu<|.int (k:Int),some<|.ow [.int 1],z] (λQ' q'=> ?_)
   (λt ρ=> ∃z,ρ=[some<|.pu<|.lst<|xs.map .int,some<|.pu<|.int (m:Int),some<|.pu<|.int p,some<|.pu<|.int (k:Int),some<|.ow<|(rwF (t+1) λi=>if i<t then c (m-t+i)else 1).map .int,z]) ⟨z,rfl⟩ ?_ ?_
  ·walk_at "u"
   refine⟨trivial,⟨ad,ad,ac,ac⟩,?_⟩
   rw[show((m:Int)-1- -1).toNat=m by lia]
   exact q'
  ·rintro t ρ ht ⟨z,rfl⟩;have e0:(m:Int)-1-(t:Int)=((m-(t+1):Nat):Int):=ad
   rw[e0];walk_at "u";have hj:m-(t+1)<xs.length:=ad
   rw[c6 (j:=m-(t+1)) (v:= .int (xs.getD (m-(t+1)) 0)) (by rw[dD,bJ hj,aQ,bJ hj];rfl)]
   dsimp only;refine⟨ac,cmL ad ad,cmR ad ad,ad,ac,?_,some<|.pu<|.int ((m-(t+1):Nat):Int),?_⟩
   ·rw[bS];exact aV (show 0+1+(t+1)<=10 by lia) ac
   ·rw[bN _ ad]
    have ex:(xs.getD (m-(t+1)) 0+(k:Int)*(((m-(t+1):Nat):Int)+1)*((k:Int)+7))%p=c (m-(t+1)):=by rw[ec]
    rw[ex,List.singleton_append,bO9];have er:(rwF (t+1+1) λi=>if i=0 then c (m-(t+1))else if i-1<t then c (m-t+(i-1))else 1)=rwF (t+1+1) λi=>if i<t+1 then c (m-(t+1)+i)else 1:=hJ λi hi=>by
     by_cases z0:i=0
     ·rw[a8 z0,a8 ad,z0]
      rfl
     ·rw[a7 z0]
      by_cases z1:i-1<t
      ·rw[a8 z1,a8 ad]
       congr 1
       lia
      ·rw[a7 z1,a7 ad]
    rw[er]
  ·rintro ρ ⟨z,rfl⟩;obtain⟨F,eF⟩: ∃F:Nat->Int,F=λj=>if j<m then c j else if j=m then 1 else 0:=⟨_,rfl⟩
   have eR:(rwF (m+1) λi=>if i<m then c (m-m+i)else 1)=rwF (m+1) F:=hJ λi hi=>by
    rw[eF];dsimp only
    by_cases z0:i<m
    ·rw[a8 z0,a8 z0]
     congr 1
     lia
    ·rw[a7 z0,a7 z0,a8 ad]
   rw[eR];have mF:MP p m F:=by
    rw[eF];refine⟨by rw[a7 ad,a8 rfl],λj hj=>by rw[a7 ad,a7 ad],λj=> ?_⟩
    split
    ·exact cr j
    ·split<;>lia
   have ok: ∀z:Nat,z<200->aV0 (m+1) 8 8 F (z:Int):=λz hz=>⟨λj=>by have:=mF.rng j;lia,ad,ad,ac,ad⟩
   dsimp only;unfold tU;rw[fP,aN4,jG,jH]
   refine j5 (t0:=0) p.toNat (λk=> .int (0+(k:Int))) [some<|.pu<|.lst<|xs.map .int,some<|.pu<|.int (m:Int),some<|.pu<|.int p,some<|.pu<|.int (k:Int),some<|.ow<|(rwF (m+1) F).map .int,z] (λQ' q=> ?_) ad (λx l=>[x,some<|.pu<|.lst<|(rwF (m+1) F).map .int,some<|.pu<|.int p,some<|.ow l]) none rfl (λ_ _ _=>rfl) (λ_ _=>cM _) (λ_ _ _ q=>q) (λ_ _ _=>rfl) (λr=> .bl (!decide (ps F (r:Int) (m+1)%p=0))) ?_ ?_
   ·walk_at "u"
    exact⟨⟨ad,ad⟩,q⟩
   ·intro r l Q' hr q;rw[cN]at q⊢;walk_at "u";refine⟨m+1,8,8,F,(r:Int),_,rfl,.inr rfl,ok r ad,?_⟩
    walk_at "u"
    rw[bN _ ad]
    exact⟨ad,q⟩
   ·have e:(List.range p.toNat).map (λr:Nat=>D.bl (!decide (ps F (r:Int) (m+1)%p=0)))=((List.range p.toNat).map λr:Nat=> !decide (ps F (r:Int) (m+1)%p=0)).map D.bl:=by rw[cE];rfl
    rw[e];walk_at "u";rw[sV];dsimp only
    by_cases al:((List.range p.toNat).map λr:Nat=> !decide (ps F (r:Int) (m+1)%p=0)).all id=true
    ·rw[a8 al];have:=h (m,F) mF m2 m3 (λe=>e) (aO6 p2 λz hz=> ?_)
     ·exact this
     ·have:=gN.mp al _ (eC.mpr ⟨z,cC.mpr hz,rfl⟩)
      simpa using this
    ·rw[a7 al];exact⟨_,_,_,rfl⟩
 ·rintro ρ ⟨x,y,z,rfl⟩;dsimp only;unfold vP;walk_at "u"
  by_cases c:p=2
  ·subst c;rw[a8 rfl];refine⟨ac,?_⟩
   have:=h (quF 1 1) (MP.qu ac ac ac ac ac) ac ac (λ_=>rfl) (aO6 ac λz hz=> ?_)
   ·exact this
   ·have:z=0\/z=1:=by
     have:z<2:=hz
     lia
    rcases this with rfl|rfl<;>decide
  ·rw[a7 c];exact h0
def r3 (f:Nat->Int)(a:Int):Int:=f 3-1*a
def r2 (f:Nat->Int)(b a:Int):Int:=f 2-1*b-r3 f a*a
def r1 (f:Nat->Int)(b a:Int):Int:=f 1-r3 f a*b-r2 f b a*a
def r0 (f:Nat->Int)(b a:Int):Int:=f 0-r2 f b a*b
def Bad (f:Nat->Int)(p b a:Int):Prop:= ¬(r0 f b a%p=0/\r1 f b a%p=0)
theorem noq_of {p:Int}(p2:2<=p){f:Nat->Int}(mf:MP p 4 f)(nr:NoR p (4,f))(h: ∀b a:Int,1<=b->b<p->0<=a->a<p->Bad f p b a):NoQ p (4,f):=by
 intro v u w s v0 v1 u0 u1 w0 w1 s0 s1 e;have m1:=MP.qu (p:=p) p2 v0 v1 u0 u1;have m2:=MP.qu (p:=p) p2 w0 w1 s0 s1;obtain⟨e0,e1,e2,e3⟩:=(bN8 mf m1 m2 p2).mp e;have d0:p∣f 0-v*w:=by rw[e0];exact cgE _
 have d1:p∣f 1-(v*s+u*w):=by rw[e1];exact cgE _
 have d2:p∣f 2-(v+u*s+w):=by rw[e2];exact cgE _
 have d3:p∣f 3-(u+s):=by rw[e3];exact cgE _
 by_cases vz:v=0
 ·subst vz;refine nr 0 ad ?_
  show ps f (-((0:Nat):Int)) (4+1)%p=0
  have:ps f (-((0:Nat):Int)) (4+1)=f 0:=by simp[ps]
  rw[this,e0,fW];rfl
 ·have k3:p∣r3 f u-s:=dv1 (x:=1) d3 (by unfold r3;grind)
  have k2:p∣r2 f v u-w:=dv2 (x:=1) (y:= -u) d2 k3 (by unfold r2;grind)
  refine h v u ad v1 u0 u1 ⟨nZ ?_,nZ ?_⟩
  ·exact dv2 (x:=1) (y:= -v) d0 k2 (by unfold r0;grind)
  ·exact dv3 (x:=1) (y:= -v) (z:= -u) d1 k3 k2 (by unfold r1;grind)
def qC:Φ:=λds Q=> ∃(f:Nat->Int) (p:Int),ds=[.lst<|(rwF 5 f).map .int,.int p]/\MP p 4 f/\2<=p/\p<200/\Q (.pu<|.bl false)/\(NoR p (4,f)->NoQ p (4,f)->Q (.pu<|.bl true))
def kL:US:=(aG9 4 (uOp M.gSub (uIx (aS 4)<|aE 5)<|uOp iV (aE 6)<|aE 2)<|aE 5)
def kM:US:=(aX (aG9 4 (uOp M.gSub (uIx (aS 4)<|uOp dJ (aE 5)<|uC<|.int 1)<|uOp iV (aE 6)<|aE 3)<|uOp dJ (aE 5)<|uC<|.int 1) kL)
def kN:US:=(aX (cP 6<|uIx (aS 4)<|uOp dJ (aE 5)<|uC<|.int 2) kM)
def nH:US:=(gT (aD9 (cS<|uOp (iW false) (uOp gI (uIx (aS 4)<|uC<|.int 0)<|aE 1)<|uC<|.int 0)<|cS<|uOp (iW false) (uOp gI (uIx (aS 4)<|uC<|.int 1)<|aE 1)<|uC<|.int 0) (fA<|uC<|.bl false) dP)
def nI:US:=(aX (jZ (b59<|aA (uC<|.int 2)<|aA (a28<|uC<|.int 1)<|aA (a28<|uC<|.int 1) aL) (dX 5) kN) nH)
def jD:US:=(aX (cP 4<|aZ sT<|aA (aE 0) aL) nI)
def yX:US:=(jZ (kJ<|aA (aE 1) aL) (dX 3) jD)
def tX:US:=(fA<|uC<|.bl true)
def tY:US:=(aX (jZ (aG8<|aA (uC<|.int 1)<|aA (aE 1) aL) (dX 2) yX) tX)
def qD:US:=(aX (gT (cS<|aZ gAny<|aA (iJ [0,1] [none,some 0,some 1,none] 3 (kJ<|aA (aE 1) aL) (dX 0) (λρ Q=>Q true ρ)<|uOp (iW false) (uOp gI (aZ uU<|aA (aE 1)<|aA (aE 0) aL)<|aE 2)<|uC<|.int 0) aL) (fA<|uC<|.bl false) dP) tY)
theorem at5 {a b c d e:Int}:atI [D.int a,.int b,.int c,.int d,.int e] 0=some (.int a)/\atI [D.int a,.int b,.int c,.int d,.int e] 1=some (.int b)/\atI [D.int a,.int b,.int c,.int d,.int e] 2=some (.int c)/\atI [D.int a,.int b,.int c,.int d,.int e] 3=some (.int d)/\atI [D.int a,.int b,.int c,.int d,.int e] 4=some (.int e):=
 ⟨c6 (j:=0) rfl,c6 (j:=1) rfl,c6 (j:=2) rfl,c6 (j:=3) rfl,c6 (j:=4) rfl⟩
def stL (f:Nat->Int)(b a:Int):Nat->List D
 | 0=>[.int<|f 0,.int<|f 1,.int<|f 2,.int<|f 3,.int 1]
 | 1=>[.int<|f 0,.int<|f 1,.int<|f 2-1*b,.int<|r3 f a,.int 1]
 | 2=>[.int<|f 0,.int<|f 1-r3 f a*b,.int<|r2 f b a,.int<|r3 f a,.int 1]
 | _=>[.int<|r0 f b a,.int<|r1 f b a,.int<|r2 f b a,.int<|r3 f a,.int 1]
theorem bY6 {f:Nat->Int}{p b a:Int}(mf:MP p 4 f)(p2:2<=p)(p9:p<200)(b0:0<=b/\b<p)(a0:0<=a/\a<p){E:UD}{z u v:Option B}(hF:E.rt (.pu<|.bl false))(hN:Bad f p b a-> ∀z u v,E.nx [some<|.pu<|.lst<|(rwF (4+1) f).map .int,some<|.pu<|.int p,some<|.pu<|.int b,some<|.pu<|.int a,z,u,v]) :
  jD E [some<|.pu<|.lst<|(rwF (4+1) f).map .int,some<|.pu<|.int p,some<|.pu<|.int b,some<|.pu<|.int a,z,u,v]:=by
 have e5:(rwF (4+1) f).map D.int=stL f b a 0:=by
  show [D.int<|f 0,.int<|f 1,.int<|f 2,.int<|f 3,.int<|f 4]=_
  rw[mf.top];rfl
 have x5: ∀j:Nat,j<5->ixN (0+1+1+1+1+1) (j:Int)=some j:=λj hj=>by unfold ixN;simp;lia
 unfold jD;walk_at "u";unfold nI;rw[bG];refine cG 3 (λk=> .int (2-(k:Int))) [some<|.pu<|.lst<|(rwF (4+1) f).map .int,some<|.pu<|.int p,some<|.pu<|.int b,some<|.pu<|.int a,some<|.ow<|stL f b a 0,u,v] (λQ' q=> ?_)
  (λk ρ=> ∃u v,ρ=[some<|.pu<|.lst<|(rwF (4+1) f).map .int,some<|.pu<|.int p,some<|.pu<|.int b,some<|.pu<|.int a,some<|.ow<|stL f b a k,u,v]) ⟨u,v,rfl⟩ ?_ ?_
 ·walk_at "u"
  rw[<-e5]at q;exact⟨trivial,ac,q⟩
 ·rintro k ρ hk ⟨u,v,rfl⟩;unfold kN kM kL;rcases(show k=0\/k=1\/k=2 by lia)with rfl|rfl|rfl
  ·obtain⟨a0',a1,a2,a3,a4⟩:= @at5 (f 0) (f 1) (f 2) (f 3) 1;obtain⟨b0',b1,b2,b3,b4⟩:= @at5 (f 0) (f 1) (f 2) (f 3-1*a) 1;simp only[stL];walk_at "u";rw[show(2:Int)-((0:Nat):Int)+2=4 from rfl,show(2:Int)-((0:Nat):Int)+1=3 from rfl,show(2:Int)-((0:Nat):Int)=2 from rfl,a4,a3]
   dsimp only;rw[show ixN (0+1+1+1+1+1) 3=some 3 by decide]
   dsimp only[List.set];rw[b2];dsimp only;rw[show ixN (length [D.int _,D.int _,D.int _,D.int _,D.int _]) 2=some 2 from rfl]
   exact⟨ac,cmR ad ad,cmR ad ad,_,_,rfl⟩
  ·obtain⟨a0',a1,a2,a3,a4⟩:= @at5 (f 0) (f 1) (f 2-1*b) (r3 f a) 1;obtain⟨b0',b1,b2,b3,b4⟩:= @at5 (f 0) (f 1) (f 2-1*b-r3 f a*a) (r3 f a) 1;simp only[stL];walk_at "u";rw[show(2:Int)-((1:Nat):Int)+2=3 from rfl,show(2:Int)-((1:Nat):Int)+1=2 from rfl,show(2:Int)-((1:Nat):Int)=1 from rfl,a3,a2]
   dsimp only;rw[show ixN (0+1+1+1+1+1) 2=some 2 by decide]
   dsimp only[List.set];rw[b1];dsimp only;rw[show ixN (length [D.int _,D.int _,D.int _,D.int _,D.int _]) 1=some 1 from rfl]
   exact⟨ac,cmR ad ad,cmR ad ad,_,_,rfl⟩
  ·obtain⟨a0',a1,a2,a3,a4⟩:= @at5 (f 0) (f 1-r3 f a*b) (r2 f b a) (r3 f a) 1;obtain⟨b0',b1,b2,b3,b4⟩:= @at5 (f 0) (f 1-r3 f a*b-r2 f b a*a) (r2 f b a) (r3 f a) 1;simp only[stL];walk_at "u";rw[show(2:Int)-((2:Nat):Int)+2=2 from rfl,show(2:Int)-((2:Nat):Int)+1=1 from rfl,show(2:Int)-((2:Nat):Int)=0 from rfl,a2,a1]
   dsimp only;rw[show ixN (0+1+1+1+1+1) 1=some 1 by decide]
   dsimp only[List.set];rw[b0'];dsimp only;rw[show ixN (length [D.int _,D.int _,D.int _,D.int _,D.int _]) 0=some 0 from rfl]
   exact⟨ac,cmR ad ad,cmR ad ad,_,_,rfl⟩
 ·rintro ρ ⟨u,v,rfl⟩;dsimp only;unfold nH;obtain⟨a0',a1,a2,a3,a4⟩:= @at5 (r0 f b a) (r1 f b a) (r2 f b a) (r3 f a) 1;simp only[stL];walk_at "u";rw[a0',a1];walk_at "u";rw[bN _ ad,bN _ ad]
  refine⟨ad,?_⟩
  by_cases c:r0 f b a%p=0
  ·rw[a8 c];refine⟨ad,?_⟩
   by_cases d:r1 f b a%p=0
   ·rw[a8 d];exact hF
   ·rw[a7 d];exact hN (λz=>d z.2) _ _ _
  ·rw[a7 c];exact hN (λz=>c z.1) _ _ _
theorem aE9: ∀ds Q,qC ds Q->qD {nx:=λ_=>Q (.pu .non),rt:=Q} (init ["f","p","b","a","l","k","t"] ds):=by
 rintro ds Q ⟨f,p,rfl,mf,p2,p9,hF,hT⟩;have ok: ∀z:Nat,z<200->aV0 (4+1) 8 8 f (z:Int):=λz hz=>⟨λj=>by have:=mf.rng j;lia,ad,ad,ac,ad⟩
 have x0: ∀j:Nat,j<5->ixN 5 (j:Int)=some j:=λj hj=>by unfold ixN;simp;lia
 unfold qD;show(aX _ _:US) _ [some<|.pu<|.lst<|(rwF (4+1) f).map .int,some<|.pu<|.int p,none,none,none,none,none];rw[bG,fP,aN4,jG,jH]
 refine j5 (t0:=0) p.toNat (λk=> .int (0+(k:Int))) [some<|.pu<|.lst<|(rwF (4+1) f).map .int,some<|.pu<|.int p,none,none,none,none,none] (λQ' q=> ?_) ad (λx l=>[x,some<|.pu<|.lst<|(rwF (4+1) f).map .int,some<|.pu<|.int p,some<|.ow l]) none rfl (λ_ _ _=>rfl) (λ_ _=>cM _) (λ_ _ _ q=>q) (λ_ _ _=>rfl) (λr=> .bl (decide (ps f (r:Int) (4+1)%p=0))) ?_ ?_
 ·walk_at "u"
  exact⟨⟨ad,ad⟩,q⟩
 ·intro r l Q' hr q;rw[cN]at q⊢;walk_at "u";refine⟨4+1,8,8,f,(r:Int),_,rfl,.inr rfl,ok r ad,?_⟩
  walk_at "u"
  rw[bN _ ad]
  exact⟨ad,q⟩
 ·have e:(List.range p.toNat).map (λr:Nat=>D.bl (decide (ps f (r:Int) (4+1)%p=0)))=((List.range p.toNat).map λr:Nat=>decide (ps f (r:Int) (4+1)%p=0)).map D.bl:=by rw[cE];rfl
  rw[e];walk_at "u";rw[sV];dsimp only
  by_cases al:((List.range p.toNat).map λr:Nat=>decide (ps f (r:Int) (4+1)%p=0)).any id=true
  ·rw[a8 al];exact hF
  ·rw[a7 al];have nr:NoR p (4,f):=aO6 p2 λz hz e=>al (List.any_eq_true.mpr ⟨true,eC.mpr ⟨z,cC.mpr hz,bB e⟩,rfl⟩)
   unfold tY;rw[bG];refine cG (p-1).toNat (λk=> .int (1+(k:Int))) [some<|.pu<|.lst<|(rwF (4+1) f).map .int,some<|.pu<|.int p,none,none,none,none,none] (λQ' q=> ?_)
    (λi ρ=>(∀b a:Int,1<=b->b<1+(i:Int)->0<=a->a<p->Bad f p b a)/\ ∃x y z u v,ρ=[some<|.pu<|.lst<|(rwF (4+1) f).map .int,some<|.pu<|.int p,x,y,z,u,v]) ⟨λb a h1 h2=>ad,none,none,none,none,none,rfl⟩ ?_ ?_
   ·walk_at "u"
    exact⟨⟨ad,ad⟩,q⟩
   ·rintro i ρ hi ⟨hb,x,y,z,u,v,rfl⟩;refine⟨ae,?_⟩
    show(jZ _ _ _:US) _ [some<|.pu<|.lst<|(rwF (4+1) f).map .int,some<|.pu<|.int p,some<|.pu<|.int<|1+(i:Int),y,z,u,v]
    obtain⟨b,eb⟩: ∃b:Int,b=1+(i:Int):=⟨_,rfl⟩;rw[<-eb]at hb⊢;refine cG p.toNat (λk=> .int (0+(k:Int))) [some<|.pu<|.lst<|(rwF (4+1) f).map .int,some<|.pu<|.int p,some<|.pu<|.int b,y,z,u,v] (λQ' q=> ?_)
     (λj ρ=>(∀a:Int,0<=a->a< (j:Int)->Bad f p b a)/\ ∃y z u v,ρ=[some<|.pu<|.lst<|(rwF (4+1) f).map .int,some<|.pu<|.int p,some<|.pu<|.int b,y,z,u,v]) ⟨λa h1 h2=>ad,y,z,u,v,rfl⟩ ?_ ?_
    ·walk_at "u"
     exact⟨⟨ad,ad⟩,q⟩
    ·rintro j ρ hj ⟨ha,y,z,u,v,rfl⟩;rw[cN];refine⟨ae,?_⟩
     refine bY6 (a:=(j:Int)) mf p2 p9 ⟨ad,ad⟩ ⟨ad,ad⟩ hF λbd z u v=>⟨λa h1 h2=> ?_,_,_,_,_,rfl⟩
     by_cases c:a=(j:Int)
     ·rw[c];exact bd
     ·exact ha a h1 ad
    ·rintro ρ ⟨ha,y,z,u,v,rfl⟩;refine⟨λb' a h1 h2 h3 h4=> ?_,_,_,_,_,_,rfl⟩
     by_cases c:b'=b
     ·subst c;exact ha a h3 ad
     ·exact hb b' a h1 ad h3 h4
   ·rintro ρ ⟨hb,x,y,z,u,v,rfl⟩;dsimp only;unfold tX;walk_at "u";exact hT nr (noq_of p2 mf nr λb a h1 h2 h3 h4=>hb b a h1 ad h3 h4)
noncomputable def bP0 (x:qB):List D:=[bL<|rwF (x.1.1+1) x.1.2,.int (x.2:Int)]
noncomputable def fZ (x:qB):D:= .lst (bP0 x)
def PM (p:Int)(x:qB):Prop:=MP p x.1.1 x.1.2/\1<=x.1.1/\x.1.1<=4/\1<=x.2/\x.2<=4/\(2<=x.1.1->NoR p x.1)/\(x.1.1=4->NoQ p x.1)
theorem PM.lin {p c:Int}{k:Nat}(p2:2<=p)(c0:0<=c)(c1:c<p)(k1:1<=k)(k4:k<=4):PM p (dS c,k):=⟨MP.lin p2 c0 c1,aC 1,by show 1<=4;decide,k1,k4,λh=>absurd h (by show ¬2<=1;decide),λh=>absurd h (by show ¬1=4;decide)⟩
theorem PM.irr {p:Int}{F:Nat×(Nat->Int)}{k:Nat}(m:MP p F.1 F.2)(h2:2<=F.1)(h3:F.1<=3)(nr:NoR p F)(k1:1<=k)(k4:k<=4):PM p (F,k):=⟨m,by show 1<=F.1;lia,by show F.1<=4;lia,k1,k4,λ_=>nr,λh=>by have h:F.1=4:=h;lia⟩
theorem aW1 (p:Int): ∀(l:List qB) (a:Nat×(Nat->Int)),(allT p a l).1=a.1+(l.map λx=>x.1.1*x.2).sum
 | [],a=>rfl
 | x::l,a=>by
  show(allT p (powT p a x.1 x.2) l).1=_
  rw[aW1 p l,iE,cD,List.sum_cons,l6]
theorem gB.of {p:Int}{xs:List qB}(mem: ∀x∈xs,PM p x)(nd:xs.Pairwise λx y=>x.1≠y.1)(lo:2<=(xs.map λx=>x.1.1*x.2).sum)(hi:(xs.map λx=>x.1.1*x.2).sum<=4)(few:xs.length<=4):gB p xs:=by
 have e:(allT p dN xs).1=(xs.map λx=>x.1.1*x.2).sum:=by rw[aW1];exact zero_add _
 exact⟨mem,nd,by rw[e];exact lo,by rw[e];exact hi,few⟩
theorem gB.one {p:Int}{x:qB}(h:PM p x)(lo:2<=x.1.1*x.2)(hi:x.1.1*x.2<=4):gB p [x]:=
 .of (by simpa using h) ae (by simpa using lo) (by simpa using hi) ae
theorem gB.two {p:Int}{x y:qB}(h:PM p x)(h2:PM p y)(ne:x.1≠y.1)(lo:2<=x.1.1*x.2+y.1.1*y.2)(hi:x.1.1*x.2+y.1.1*y.2<=4):gB p [x,y]:=
 .of (by simpa using⟨h,h2⟩) (by simpa using ne) (by simpa using lo) (by simpa using hi) ae
theorem b33 {c d:Int}(h:c≠d):dS c≠dS d:=λe=>h (congrFun (bC Prod.snd e) 0)
theorem deg_ne {F G:Nat×(Nat->Int)}(h:F.1≠G.1):F≠G:=λe=>h (bC Prod.fst e)
structure Dr (ds:List Int)(d0 d1 d2 d3 d4 d5 d6:Int):Prop where
 e:ds=[d0,d1,d2,d3,d4,d5,d6]
 h0:0<=d0/\d0<10
 h1:0<=d1/\d1<199
 h2:0<=d2/\d2<199
 h3:0<=d3/\d3<199
 h4:0<=d4/\d4<199
 h5:0<=d5/\d5<4
 h6:0<=d6/\d6<199
theorem at7 {a b c d e f g:Int}:atI [D.int a,.int b,.int c,.int d,.int e,.int f,.int g] 0=some (.int a)/\atI [D.int a,.int b,.int c,.int d,.int e,.int f,.int g] 1=some (.int b)/\atI [D.int a,.int b,.int c,.int d,.int e,.int f,.int g] 2=some (.int c)/\atI [D.int a,.int b,.int c,.int d,.int e,.int f,.int g] 3=some (.int d)/\atI [D.int a,.int b,.int c,.int d,.int e,.int f,.int g] 4=some (.int e)/\atI [D.int a,.int b,.int c,.int d,.int e,.int f,.int g] 5=some (.int f)/\atI [D.int a,.int b,.int c,.int d,.int e,.int f,.int g] 6=some (.int g):=
 ⟨c6 (j:=0) rfl,c6 (j:=1) rfl,c6 (j:=2) rfl,c6 (j:=3) rfl,c6 (j:=4) rfl,c6 (j:=5) rfl,c6 (j:=6) rfl⟩
def dL (d0 d1 d2 d3 d4 d5 d6:Int):List D:=[.int d0,.int d1,.int d2,.int d3,.int d4,.int d5,.int d6]
theorem aO7 {r:Nat}{cap:List (Option Nat)}{last:Nat}{ui:UI}{te:UE}{E:UD}{ρ:Ev}(n:Nat)(it:Nat->D)(ρ1:Ev)(hui: ∀Q:Nat->(Nat->D)->Ev->Prop,Q n it ρ1->ui ρ Q)(nb:b05 ρ1)(hr:r<ρ1.length)(hn:n<=1000)(hc:0<cap.length)(G:D->List D->Ev)(hG: ∀x l,((iI ρ1 cap last).set 0<|some<|.pu x).set last (some<|.ow l)=G x l)
  (dF:Nat->List D) (hte: ∀(i:Nat) (l:List D) (Q:B->Ev->Prop),i<n->Q (.ow<|dF i) (G (it i) l)->te (G (it i) l) Q) (nx:E.nx (ρ1.set r<|some<|.ow<|((List.range n).map dF).map .lst)):aN1 r cap last ui te E ρ:=
 hui _ ⟨nb,hr,hn,hc,dF,λi l Q hi q=>by rw[hG]at q ⊢; exact hte i l Q hi q,nx⟩
theorem noBo5 {a b c d e:Option B}(h: ∀x∈[a,b,c,d,e],∀l,x≠some (.bo l)):b05 [a,b,c,d,e]:=λi l z=>h _ (gM z) l rfl
def a03:Φ:=λds Q=> ∃(d0 d1 d2 d3 d4 d5 d6 p:Int),ds=[.lst<|dL d0 d1 d2 d3 d4 d5 d6,.int p]/\Dr [d0,d1,d2,d3,d4,d5,d6] d0 d1 d2 d3 d4 d5 d6/\7<d0/\Pr p/\ ∀xs,gB p xs->Q (.ow<|xs.map fZ)
def oZ:US:=(tO 4)
def aA5:US:=(aX (uIfP (uOr (cS<|uOp (iW false) (aE 3)<|uC<|.int 2)<|aD9 (cS<|uOp (iW false) (aE 3)<|uC<|.int 3)<|cS<|uOp (iW false) (uIx (aS 0)<|uC<|.int 5)<|uC<|.int 0) (aN0 4 (uC<|.int 2) (uOp gI (uIx (aS 0)<|uC<|.int 5)<|aE 3)<|uC<|.int 1) dP) oZ)
def aA6:US:=(aX (aN1 4 [none,some 0,some 2,some 1,none] 4 (kJ<|aA (aE 3) aL)<|dO<|aA (gD<|aA (uOp gI (uOp dJ (uIx (aS 1)<|uC<|.int 1)<|uOp iV (aE 0)<|aE 2)<|aE 3)<|aA (uC<|.int 1) aL)<|aA (uC<|.int 1) aL) aA5)
def aA7:US:=(aX (cP 3<|aZ gMin<|aA (aE 1)<|aA (uOp M.gSub (uIx (aS 0)<|uC<|.int 0)<|uC<|.int 5) aL) aA6)
def a04:US:=(aX (cP 2<|uOp dJ (uC<|.int 1)<|uOp gI (uIx (aS 0)<|uC<|.int 2)<|aZ bI8<|aA (uC<|.int 1)<|aA (uOp M.gSub (aE 1)<|uC<|.int 1) aL) aA7)
theorem bD5: ∀ds Q,a03 ds Q->a04 {nx:=λ_=>Q (.pu .non),rt:=Q} (init ["d","p","s","m","f"] ds):=by
 rintro ds Q ⟨d0,d1,d2,d3,d4,d5,d6,p,rfl,dr,d8,pp,h⟩;have p2:=pp.lo;have p9:=pp.hi;obtain⟨a0,a1,a2,a3,a4,a5,a6⟩:= @at7 d0 d1 d2 d3 d4 d5 d6;have k0:=dr.h0;have k1:=dr.h1;have k2:=dr.h2;have k5:=dr.h5;unfold a04 dL;show(aX _ _:US) _ [some<|.pu<|.lst [.int d0,.int d1,.int d2,.int d3,.int d4,.int d5,.int d6],some<|.pu<|.int p,none,none,none];walk_at "u";rw[a2];walk_at "u"
 rw[show(if(1:Int)<p-1 then p-1 else 1)=max 1 (p-1)by rw[Int.max_def];split<;>split<;>lia]
 obtain⟨s,es⟩: ∃s:Int,s=1+d2%max 1 (p-1):=⟨_,rfl⟩;have m1:max (1:Int) (p-1)=p-1:=by rw[Int.max_def];split<;>lia
 rw[m1]at es⊢;have s1:1<=s/\s<p:=by
  have:=b9 d2 (show p-1≠0 by lia)
  have:=b7 d2 (show 0<p-1 by lia)
  lia
 rw[bN _ ad,<-es]
 refine⟨ad,?_⟩
 unfold aA7;walk_at "u";rw[a0];walk_at "u";obtain⟨m,em⟩: ∃m:Nat,(m:Int)=if d0-5<p then d0-5 else p:=⟨(if d0-5<p then d0-5 else p).toNat,by split<;>lia⟩
 rw[<-em];have mb:2<=m/\m<=4/\(m:Int)<=p/\(m=4\/m=3\/m=2):=by split at em<;>refine⟨ad,ad,ad,ad⟩
 unfold aA6;obtain⟨c,ec⟩: ∃c:Nat->Int,c=λk:Nat=>(d1+(k:Int)*s)%p:=⟨_,rfl⟩
 have c0: ∀k,0<=c k/\c k<p:=λk=>by rw[ec];exact⟨b9 _ ad,b7 _ ad⟩
 have cn: ∀i j,i<m->j<m->i≠j->c i≠c j:=λi j hi hj ne e=>by
  rw[ec]at e;have d:=aJ5 e;have d':p∣((i:Int)-(j:Int))*s:=dv1 (x:=1) d (by grind)
  have lt: ∀x:Int,x≠0-> -p<x->x<p-> ¬p∣x:=λx x0 h1 h2 ⟨k,hk⟩=>by
   rcases rR k 0 with k0|k0|k0
   ·have:=iL (show k<= -1 by lia) (show 0<=p by lia)
    lia
   ·rw[k0,bQ]at hk;lia
   ·have:=iL (show 1<=k by lia) (show 0<=p by lia)
    lia
  rcases pp.or d' with d|d
  ·exact lt _ ad ad ad d
  ·exact lt _ ad ad ad d
 rw[bG]
 refine aO7 m (λk=> .int (0+(k:Int))) [some<|.pu<|.lst [.int d0,.int d1,.int d2,.int d3,.int d4,.int d5,.int d6],some<|.pu<|.int p,some<|.pu<|.int s,some<|.pu<|.int (m:Int),none] (λQ' q=> ?_) (noBo5 ae) ae ad ac (λx l=>[some<|.pu x,some<|.pu<|.lst [.int d0,.int d1,.int d2,.int d3,.int d4,.int d5,.int d6],some<|.pu<|.int s,some<|.pu<|.int p,some<|.ow l]) (λ_ _=>rfl) (λk=>[bL [c k,1],.int 1]) (λi l Q' hi q=> ?_) ?_
 ·walk_at "u"
  refine⟨⟨ad,ad⟩,?_⟩
  rw[fH];exact q
 ·rw[cN]at q⊢;walk_at "u";rw[a1];walk_at "u";rw[bN _ ad]
  have e:(d1+(i:Int)*s)%p=c i:=by rw[ec]
  rw[e];exact⟨cmL ad ad,ad,ac,ac,q⟩
 ·dsimp only[List.set];unfold aA5;rw[bG];have fin: ∀i0:Nat,(∀k,k<m->k=i0->m<=3)->oZ {nx:=λ_=>Q (.pu .non),rt:=Q} [some<|.pu<|.lst [.int d0,.int d1,.int d2,.int d3,.int d4,.int d5,.int d6],some<|.pu<|.int p,some<|.pu<|.int s,some<|.pu<|.int (m:Int),some<|.ow<|(List.range m).map λk=>fZ (dS<|c k,if k=i0 then 2 else 1)]:=λi0 hi0=>by
   unfold oZ;walk_at "u";have:=h ((List.range m).map λk=>(dS<|c k,if k=i0 then 2 else 1)) (.of (λx hx=> ?_) ?_ ?_ ?_ ?_)
   ·rw[cE]at this;exact this
   ·obtain⟨k,hk,rfl⟩:=eC.mp hx;exact PM.lin p2 (c0 k).1 (c0 k).2 (by split<;>decide) (by split<;>decide)
   ·rw[kX];refine List.Pairwise.imp_of_mem (λ{i j} hi hj ne=>b33 (cn i j (cC.mp hi) (cC.mp hj) ne)) List.nodup_range
   ·rw[cE];rcases mb.2.2.2 with rfl|rfl|rfl<;>simp[fL,dS]<;>grind
   ·rw[cE];rcases mb.2.2.2 with rfl|rfl|rfl
    ·have:4<=i0:=Nat.not_lt.mp λz=>by have:=hi0 i0 z rfl;lia
     simp[fL,dS]
     grind
    ·simp[fL,dS]
     grind
    ·simp[fL,dS]
     grind
   ·rw[aI,iR];lia
  have no:oZ {nx:=λ_=>Q (.pu .non),rt:=Q} [some<|.pu<|.lst [.int d0,.int d1,.int d2,.int d3,.int d4,.int d5,.int d6],some<|.pu<|.int p,some<|.pu<|.int s,some<|.pu<|.int (m:Int),some<|.ow<|((List.range m).map λk=>[bL [c k,1],D.int 1]).map .lst]:=by
   have e:((List.range m).map λk=>[bL [c k,1],D.int 1]).map D.lst=(List.range m).map λk=>fZ (dS<|c k,if k=m then 2 else 1):=by
    rw[cE];refine kR λk hk=> ?_
    have:=cC.mp hk;rw[a7 ad]
    rfl
   rw[e];exact fin m λk h1 h2=>ad
  have yes:m<=3->aN0 4 (uC<|.int 2) (uOp gI (uIx (aS 0)<|uC<|.int 5)<|aE 3) (uC<|.int 1) {nx:=oZ {nx:=λ_=>Q (.pu .non),rt:=Q},rt:=Q} [some<|.pu<|.lst [.int d0,.int d1,.int d2,.int d3,.int d4,.int d5,.int d6],some<|.pu<|.int p,some<|.pu<|.int s,some<|.pu<|.int (m:Int),some<|.ow<|((List.range m).map λk=>[bL [c k,1],D.int 1]).map .lst]:=λm3=>by
   unfold aN0;walk_at "u";refine⟨2,rfl,?_⟩;rw[a5];walk_at "u";rw[bN _ ad]
   have i0:=b9 d5 (show(m:Int)≠0 by lia)
   have i1:=b7 d5 (show 0< (m:Int)by lia)
   obtain⟨i,ei⟩: ∃i:Nat,(i:Int)=d5%(m:Int):=⟨(d5%(m:Int)).toNat,ad⟩
   rw[<-ei];refine⟨ad,i,(List.range m).map λk=>[bL [c k,1],D.int 1],[bL [c i,1],D.int 1],rfl,rfl,by rw[dD,List.getElem?_range ad];rfl,1,rfl,ae,?_⟩
   have e:(((List.range m).map λk=>[bL [c k,1],D.int 1]).set i<|[bL [c i,1],D.int 1].set 1 (.int 2)).map D.lst=(List.range m).map λk=>fZ (dS<|c k,if k=i then 2 else 1):=by
    apply i9
    ·simp
    ·intro k h1 h2;simp only[aI,bT,iR]at h1 h2
     by_cases z:k=i
     ·subst z;simp[fZ,bP0,dS];rfl
     ·have z': ¬i=k:=λq=>z q.symm
      simp[List.getElem_set,z,fZ,bP0]
      rw[a7 z'];rfl
   rw[e];exact fin i λk _ _=>m3
  unfold uIfP;walk_at "u"
  by_cases z:(m:Int)=2
  ·rw[a8 z];exact yes ad
  ·rw[a7 z]
   by_cases z3:(m:Int)=3
   ·rw[a8 z3,a5];walk_at "u"
    by_cases z5:d5=0
    ·rw[a8 z5];exact yes ad
    ·rw[a7 z5];exact no
   ·rw[a7 z3];exact no
theorem qu_of {p:Int}{F:Nat×(Nat->Int)}(m:MP p F.1 F.2)(h:F.1=2):F=quF (F.2 0) (F.2 1):=xJ m h
theorem bP1 (v u z:Int):ps (quF v u).2 z ((quF v u).1+1)=v+u*z+z*z:=by
 show 0+v*z^0+u*z^1+1*z^2=_
 rw[gS,pow_one,lB,pow_one]
 lia
theorem bD6 {p v u:Int}(pp:Pr p)(nr:NoR p (quF v u)):NoR p (quF ((v+u+1)%p)<|(u+2)%p):=by
 have p2:=pp.lo;refine aO6 p2 λz hz e=> ?_
 rw[bP1]at e;have d:=iN e;have a:=cgE (q:=p) (v+u+1);have b:=cgE (q:=p) (u+2);refine nr.no pp (z:=(z:Int)+1) ?_;rw[bP1];exact dv3 (x:=1) (y:= -1) (z:= -(z:Int)) d a b (by grind)
theorem qu_ne {p v u w:Int}(p2:2<p)(u0:0<=u)(u1:u<p):quF v u≠quF w ((u+2)%p):=λe=>by
 have h:u=(u+2)%p:=congrFun (bC Prod.snd e) 1;have d:p∣(u+2)%p-(u+2):=cgE _;rw[<-h]at d;have:=Int.le_of_dvd ac (show p∣2 from dv1 (x:= -1) d (by grind))
 lia
def FarD (p:Int)(d:D):Prop:=d= .non\/ ∃v u:Int,d=bL [v,u,1]/\0<=v/\v<p/\0<=u/\u<p/\NoR p (quF v u)
def qE:Φ:=λds Q=> ∃(d0 d1 d2 d3 d4 d5 d6 p:Int) (d:D),ds=[.lst<|dL d0 d1 d2 d3 d4 d5 d6,.int p,d]/\Dr [d0,d1,d2,d3,d4,d5,d6] d0 d1 d2 d3 d4 d5 d6/\Pr p/\FarD p d/\Q (.pu .non)/\ ∀xs,gB p xs->Q (.ow<|xs.map fZ)
def nJ:US:=(gT (cS<|aZ qC<|aA (aE 4)<|aA (aE 1) aL) (fA<|dO<|aA (dO<|aA (aZ iX<|aA (aE 4) aL)<|aA (uC<|.int 1) aL) aL) dP)
def nK:US:=(aX (cP 4<|uOp dJ (iJ [3,1] [none,some 0,some 3,some 1,none] 4 (aG8<|aA (uC<|.int 1)<|aA (uC<|.int 5) aL) (dX 0) (λρ Q=>Q true ρ)<|uOp gI (uOp dJ (uIx (aS 1)<|aE 0)<|uOp iV (aE 2)<|uOp dJ (aE 0)<|aE 2)<|aE 3)<|dO<|aA (uC<|.int 1) aL) nJ)
def pO:US:=(jZ (kJ<|aA (uC<|.int 20) aL) (dX 3) nK)
def n6:US:=(fA<|uC .non)
def n8:US:=(aX (gT (aD9 (cS<|uOp (iW false) (uIx (aS 0)<|uC<|.int 0)<|uC<|.int 7)<|cS<|uOp (mC λi j=>decide (i<j)) (aE 1)<|uC<|.int 12) pO dP) n6)
def qF:US:=(aX (gT (aD9 (cS<|uOp (iW false) (uIx (aS 0)<|uC<|.int 0)<|uC<|.int 6)<|aD9 (cS<|uOp (mC λi j=>decide (j<i)) (aE 1)<|uC<|.int 2)<|cS<|aS5 true<|aE 2) (fA<|dO<|aA (dO<|aA (aE 2)<|aA (uC<|.int 1) aL)<|aA (dO<|aA (gD<|aA (uOp gI (aZ uU<|aA (aE 2)<|aA (uC<|.int 1) aL)<|aE 1)<|aA (uOp gI (uOp dJ (uIx (aS 2)<|uC<|.int 1)<|uC<|.int 2)<|aE 1)<|aA (uC<|.int 1) aL)<|aA (uC<|.int 1) aL) aL) dP) n8)
theorem bY7 (v u:Int):atI [D.int v,.int u,.int 1] 1=some (.int u):=c6 (j:=1) rfl
theorem aA8 {Q:B->Prop}{d0 d1 d2 d3 d4 d5 d6 p:Int}{d:D}(dr:Dr [d0,d1,d2,d3,d4,d5,d6] d0 d1 d2 d3 d4 d5 d6)(pp:Pr p)(h0:Q (.pu .non))(h: ∀xs,gB p xs->Q (.ow<|xs.map fZ)) :
  n8 {nx:=λ_=>Q (.pu .non),rt:=Q} [some<|.pu<|.lst<|dL d0 d1 d2 d3 d4 d5 d6,some<|.pu<|.int p,some<|.pu d,none,none]:=by
 have p2:=pp.lo;have p9:=pp.hi;obtain⟨a0,a1,a2,a3,a4,a5,a6⟩:= @at7 d0 d1 d2 d3 d4 d5 d6;have k1:=dr.h1;have k2:=dr.h2;have k3:=dr.h3;have k4:=dr.h4;have no: ∀x y,n6 {nx:=λ_=>Q (.pu .non),rt:=Q} [some<|.pu<|.lst<|dL d0 d1 d2 d3 d4 d5 d6,some<|.pu<|.int p,some<|.pu d,x,y]:=λx y=>by
  unfold n6;exact h0
 unfold n8;unfold dL at no⊢;rw[bG,fP];walk_at "u";rw[a0];walk_at "u"
 by_cases c0:d0=7
 ·rw[a8 c0]
  by_cases c1:p<12
  ·rw[a8 c1];unfold pO;refine cG 20 (λk=> .int (0+(k:Int))) [some<|.pu<|.lst [.int d0,.int d1,.int d2,.int d3,.int d4,.int d5,.int d6],some<|.pu<|.int p,some<|.pu d,none,none] (λQ' q=> ?_)
    (λk ρ=> ∃x y,ρ=[some<|.pu<|.lst [.int d0,.int d1,.int d2,.int d3,.int d4,.int d5,.int d6],some<|.pu<|.int p,some<|.pu d,x,y]) ⟨none,none,rfl⟩ ?_ ?_
   ·walk_at "u"
    exact⟨ac,q⟩
   ·rintro k ρ hk ⟨x,y,rfl⟩;rw[cN];refine⟨ae,?_⟩
    dsimp only[List.set];unfold nK;obtain⟨c,ec⟩: ∃c:Nat->Int,c=λj:Nat=>([d1,d2,d3,d4].getD j 0+(k:Int)*((1+(j:Int))+(k:Int)))%p:=⟨_,rfl⟩
    have cr: ∀j,0<=c j/\c j<p:=λj=>by rw[ec];exact⟨b9 _ ad,b7 _ ad⟩
    rw[bG,vG,a88]
    refine j5 (t0:=0) 4 (λk=> .int (1+(k:Int))) [some<|.pu<|.lst [.int d0,.int d1,.int d2,.int d3,.int d4,.int d5,.int d6],some<|.pu<|.int p,some<|.pu d,some<|.pu<|.int (k:Int),y] (λQ' q=> ?_) ac (λx l=>[x,some<|.pu<|.lst [.int d0,.int d1,.int d2,.int d3,.int d4,.int d5,.int d6],some<|.pu<|.int (k:Int),some<|.pu<|.int p,some<|.ow l]) none rfl (λ_ _ _=>rfl) (λ_ _=>cM _) (λ_ _ _ q=>q) (λ_ _ _=>rfl) (λj=> .int (c j)) ?_ ?_
    ·walk_at "u"
     exact⟨ac,q⟩
    ·intro j l Q' hj q;have ai:atI [D.int d0,.int d1,.int d2,.int d3,.int d4,.int d5,.int d6] (1+(j:Int))=some (.int<|[d1,d2,d3,d4].getD j 0):=by
      rcases(show j=0\/j=1\/j=2\/j=3 by lia)with rfl|rfl|rfl|rfl
      ·exact a1
      ·exact a2
      ·exact a3
      ·exact a4
     walk_at "u"
     rw[ai];dsimp only;rw[bN _ ad]
     have e:([d1,d2,d3,d4].getD j 0+(k:Int)*((1+(j:Int))+(k:Int)))%p=c j:=by rw[ec]
     rw[e];exact⟨cmL ad ad,ad,q⟩
    ·obtain⟨F,eF⟩: ∃F:Nat->Int,F=λj=>if j<4 then c j else if j=4 then 1 else 0:=⟨_,rfl⟩
     have mF:MP p 4 F:=by
      rw[eF];refine⟨rfl,λj hj=>by rw[a7 ad,a7 ad],λj=> ?_⟩
      split
      ·exact cr j
      ·split<;>lia
     walk_at "u"
     have eL:(List.range 4).map (λj=>D.int (c j))++[D.int 1]=(rwF 5 F).map .int:=by
      rw[eF];rfl
     rw[eL];refine⟨ac,?_,?_⟩
     ·rw[aI,iR];decide
     ·unfold nJ;walk_at "u";refine⟨F,p,rfl,mF,p2,p9,?_,λnr nq=> ?_⟩
      ·walk_at "u"
       exact⟨_,_,rfl⟩
      ·walk_at "u"
       refine⟨ac,ac,?_⟩
       exact h [((4,F),1)] (.one ⟨mF,by show 1<=4;decide,by show 4<=4;decide,by show 1<=1;decide,by show 1<=4;decide,λ_=>nr,λ_=>nq⟩ (by show 2<=4*1;decide) (by show 4*1<=4;decide))
   ·rintro ρ ⟨x,y,rfl⟩;exact no x y
  ·rw[a7 c1];exact no _ _
 ·rw[a7 c0];exact no _ _
theorem aF0: ∀ds Q,qE ds Q->qF {nx:=λ_=>Q (.pu .non),rt:=Q} (init ["d","p","f","s","r"] ds):=by
 rintro ds Q ⟨d0,d1,d2,d3,d4,d5,d6,p,d,rfl,dr,pp,far,h0,h⟩;have p2:=pp.lo;have p9:=pp.hi;obtain⟨a0,a1,a2,a3,a4,a5,a6⟩:= @at7 d0 d1 d2 d3 d4 d5 d6;have eH:=aA8 (d:=d) dr pp h0 h;unfold qF;show(aX _ _:US) _ [some<|.pu<|.lst<|dL d0 d1 d2 d3 d4 d5 d6,some<|.pu<|.int p,some<|.pu d,none,none];unfold dL at eH⊢;rw[bG,fP];walk_at "u";rw[a0];walk_at "u"
 by_cases c0:d0=6
 ·rw[a8 c0]
  by_cases c1:2<p
  ·rw[a8 c1];rcases far with rfl| ⟨v,u,rfl,v0,v1,u0,u1,nr⟩
   ·exact eH
   ·simp only[bL,cD,l8]at eH⊢;walk_at "u";have ok:aV0 3 8 8 (quF v u).2 1:=⟨λj=>by have:=(MP.qu p2 v0 v1 u0 u1).rng j;lia,ac,ac,ac,ac⟩
    refine⟨ac,3,8,8,(quF v u).2,1,_,rfl,.inl rfl,ok,?_⟩
    rw[bY7];dsimp only;rw[show ps (quF v u).2 1 3=v+u+1 by rw[show ps (quF v u).2 1 3=_ from bP1 v u 1];lia,bN _ ad,bN _ ad]
    have g0:=b9 (v+u+1) (show p≠0 by lia)
    have g1:=b7 (v+u+1) (show 0<p by lia)
    have g2:=b9 (u+2) (show p≠0 by lia)
    have g3:=b7 (u+2) (show 0<p by lia)
    refine⟨ad,ad,ac,ac,ac,?_⟩
    exact h [(quF v u,1),(quF ((v+u+1)%p)<|(u+2)%p,1)] (.two (PM.irr (MP.qu p2 v0 v1 u0 u1) (aC 2) (by show 2<=3;decide) nr ac ac) (PM.irr (MP.qu p2 g0 g1 g2 g3) (aC 2) (by show 2<=3;decide) (bD6 pp nr) ac ac) (qu_ne c1 u0 u1) (by show 2<=2*1+2*1;decide) (by show 2*1+2*1<=4;decide))
  ·rw[a7 c1];exact eH
 ·rw[a7 c0];exact eH
def aA9:Φ:=λds Q=> ∃(ns:List Int) (p:Int),ds=[.rol<|ns.map .int,.int p]/\ns.length<=63/\Pr p/\ ∀xs,gB p xs->Q (.ow<|xs.map fZ)/\Q (.pu<|.lst<|xs.map fZ)
def xK:US:=(fA<|uIf (cS<|uOp (iW false) (uIx (aS 2)<|uC<|.int 5)<|uC<|.int 1) (dO<|aA (dO<|aA (aE 6)<|aA (uC<|.int 1) aL) aL)<|dO<|aA (dO<|aA (aE 3)<|aA (uC<|.int 2) aL)<|aA (dO<|aA (aE 6)<|aA (uC<|.int 1) aL) aL)
def xL:US:=(aX (gT (uOr (cS<|uOp (iW false) (kI<|aS 6)<|uC<|.int 4)<|cS<|uOp (iW false) (uIx (aS 2)<|uC<|.int 5)<|uC<|.int 0) (fA<|dO<|aA (dO<|aA (aE 3)<|aA (uC<|.int 1) aL)<|aA (dO<|aA (aE 6)<|aA (uC<|.int 1) aL) aL) dP) xK)
def xM:US:=(aX (gT (aD9 (cS<|uOp (mC λi j=>decide (j<i)) (uIx (aS 2)<|uC<|.int 0)<|uC<|.int 3)<|cS<|uOp (iW false) (kI<|aS 6)<|uC<|.int 3) (fA<|dO<|aA (dO<|aA (aE 6)<|aA (uC<|.int 2) aL) aL) dP) xL)
def xN:US:=(aX (gT (cS<|aS5 false<|aE 6) (fA<|dO<|aA (dO<|aA (aE 3)<|aA (uC<|.int 3) aL)<|aA (dO<|aA (aE 4)<|aA (uC<|.int 1) aL) aL) dP) xM)
def a05:US:=(aX (gT (cS<|uOp (mC λi j=>decide (j<i)) (uIx (aS 2)<|uC<|.int 0)<|uC<|.int 5) (aX (cP 7<|aZ qE<|aA (aE 2)<|aA (aE 1)<|aA (aZ pN<|aA (dO<|aA (uIx (aS 2)<|uC<|.int 3)<|aA (uIx (aS 2)<|uC<|.int 4) aL)<|aA (uC<|.int 2)<|aA (aE 1) aL) aL)<|gT (cS<|aS5 true<|aE 7) (tO 7) dP) dP) xN)
def aJ8:US:=(aX (cP 6<|aZ pN<|aA (dO<|aA (uIx (aS 2)<|uC<|.int 3)<|aA (uIx (aS 2)<|uC<|.int 4)<|aA (uIx (aS 2)<|uC<|.int 6) aL)<|aA (aE 5)<|aA (aE 1) aL) a05)
def aJ9:US:=(aX (cP 5<|uOp dJ (uC<|.int 2)<|uOp gI (uIx (aS 2)<|uC<|.int 0)<|uC<|.int 2) aJ8)
def aK0:US:=(aX (gT (cS<|uOp (iW false) (uIx (aS 2)<|uC<|.int 0)<|uC<|.int 1) (fA<|dO<|aA (dO<|aA (aE 3)<|aA (uOp dJ (uC<|.int 1)<|uOp gI (uIx (aS 2)<|uC<|.int 5)<|uC<|.int 2) aL)<|aA (dO<|aA (aE 4)<|aA (uOp dJ (uC<|.int 1)<|uOp bI3 (uIx (aS 2)<|uC<|.int 5)<|uC<|.int 2) aL) aL) dP) aJ9)
def aK1:US:=(aX (gT (cS<|uOp (iW false) (uIx (aS 2)<|uC<|.int 0)<|uC<|.int 0) (fA<|dO<|aA (dO<|aA (aE 3)<|aA (uOp dJ (uC<|.int 2)<|uOp gI (uIx (aS 2)<|uC<|.int 5)<|uC<|.int 3) aL) aL) dP) aK0)
def a06:US:=(aX (gT (cS<|uOp (mC λi j=>decide (j<i)) (uIx (aS 2)<|uC<|.int 0)<|uC<|.int 7) (fA<|aZ a03<|aA (aE 2)<|aA (aE 1) aL) dP) aK1)
def aK2:US:=(aX (gT (cS<|uOp (aM5 false) (aE 4)<|aE 3) (cP 4<|gD<|aA (uOp gI (uOp dJ (uIx (aS 2)<|uC<|.int 2)<|uC<|.int 1)<|aE 1)<|aA (uC<|.int 1) aL) dP) a06)
def aK3:US:=(aX (cP 4<|gD<|aA (uOp gI (uIx (aS 2)<|uC<|.int 2)<|aE 1)<|aA (uC<|.int 1) aL) aK2)
def aK4:US:=(aX (cP 3<|gD<|aA (uOp gI (uIx (aS 2)<|uC<|.int 1)<|aE 1)<|aA (uC<|.int 1) aL) aK3)
def aB0:US:=(aX (cP 2<|aZ uK<|aA (aZ yM<|aA (aE 0)<|aA (uC<|.int 1) aL)<|aA (dO<|aA (uC<|.int 10)<|aA (uC<|.int 199)<|aA (uC<|.int 199)<|aA (uC<|.int 199)<|aA (uC<|.int 199)<|aA (uC<|.int 4)<|aA (uC<|.int 199) aL)<|aA (uC<|.int 999999929) aL) aK4)
theorem dr_of {xs:List Int}(h:Below xs [10,199,199,199,199,4,199]): ∃d0 d1 d2 d3 d4 d5 d6,xs=[d0,d1,d2,d3,d4,d5,d6]/\Dr [d0,d1,d2,d3,d4,d5,d6] d0 d1 d2 d3 d4 d5 d6:=by
 match xs,h.1 with
 | [d0,d1,d2,d3,d4,d5,d6],_=>exact⟨d0,d1,d2,d3,d4,d5,d6,rfl,rfl,h.2 0 d0 10 rfl rfl,h.2 1 d1 199 rfl rfl,h.2 2 d2 199 rfl rfl,h.2 3 d3 199 rfl rfl,h.2 4 d4 199 rfl rfl,h.2 5 d5 4 rfl rfl,h.2 6 d6 199 rfl rfl⟩
theorem xO {ns:List Int}{Q:B->Prop}{d0 d1 d2 d3 d4 d5 d6 p c e:Int}{b:B}{x y:Option B}{d:D}(dr:Dr [d0,d1,d2,d3,d4,d5,d6] d0 d1 d2 d3 d4 d5 d6)(pp:Pr p)(hb:b= .ow (dL d0 d1 d2 d3 d4 d5 d6)\/b= .pu (.lst<|dL d0 d1 d2 d3 d4 d5 d6))(c0:0<=c/\c<p)(e0:0<=e/\e<p)(ne:c≠e)(hd:d= .non\/ ∃F:Nat×(Nat->Int),d=bL (rwF (F.1+1) F.2)/\MP p F.1 F.2/\2<=F.1/\F.1<=3/\NoR p F)(h: ∀xs,gB p xs->Q (.ow<|xs.map fZ)/\Q (.pu<|.lst<|xs.map fZ)) :
  xN {nx:=λ_=>Q (.pu .non),rt:=Q} [some<|.pu<|.rol<|ns.map .int,some<|.pu<|.int p,some b,some<|.pu<|.tup [.int c,.int 1],some<|.pu<|.tup [.int e,.int 1],x,some<|.pu d,y]:=by
 have p2:=pp.lo;have p9:=pp.hi;obtain⟨a0,a1,a2,a3,a4,a5,a6⟩:= @at7 d0 d1 d2 d3 d4 d5 d6;have lc: ∀k,1<=k->k<=4->PM p (dS c,k):=λk h1 h2=>PM.lin p2 c0.1 c0.2 h1 h2
 have le: ∀k,1<=k->k<=4->PM p (dS e,k):=λk h1 h2=>PM.lin p2 e0.1 e0.2 h1 h2
 unfold xN;rw[bG,fP];rcases hd with rfl| ⟨F,rfl,mF,f2,f3,nr⟩
 ·walk_at "u"
  refine⟨ac,ac,ac,?_⟩
  exact(h [(dS c,3),(dS e,1)]<|.two (lc 3 ac ac) (le 1 ac ac) (b33 ne) (by show 2<=1*3+1*1;decide) (by show 1*3+1*1<=4;decide)).1
 ·have pF: ∀k,1<=k->k<=4->PM p (F,k):=λk h1 h2=>PM.irr mF f2 f3 nr h1 h2
  have nF:dS c≠F:=deg_ne (show 1≠F.1 by lia)
  simp only[bL];walk_at "u";have one: ∀{k:Nat},(k=1\/k=2)->2<=F.1*k->F.1*k<=4->Q (.ow [.lst [.tup<|(rwF (F.1+1) F.2).map .int,.int (k:Int)]]):=λ{k} hk h1 h2=>(h [(F,k)]<|.one (pF k ad ad) h1 h2).1
  have two: ∀{k:Nat},(k=1\/k=2)->1*k+F.1*1<=4->Q (.ow [.lst [.tup [.int c,.int 1],.int (k:Int)],.lst [.tup<|(rwF (F.1+1) F.2).map .int,.int 1]]):=λ{k} hk h2=>(h [(dS c,k),(F,1)]<|.two (lc k ad ad) (pF 1 ac ac) nF (by show 2<=1*k+F.1*1;lia) (by show 1*k+F.1*1<=4;exact h2)).1
  have key:xM {nx:=λ_=>Q (.pu .non),rt:=Q} [some<|.pu<|.rol<|ns.map .int,some<|.pu<|.int p,some b,some<|.pu<|.tup [.int c,.int 1],some<|.pu<|.tup [.int e,.int 1],x,some<|.pu<|.tup<|(rwF (F.1+1) F.2).map .int,y]:=by
   have k12:(d0<=3\/F.1=3)->xL {nx:=λ_=>Q (.pu .non),rt:=Q} [some<|.pu<|.rol<|ns.map .int,some<|.pu<|.int p,some b,some<|.pu<|.tup [.int c,.int 1],some<|.pu<|.tup [.int e,.int 1],x,some<|.pu<|.tup<|(rwF (F.1+1) F.2).map .int,y]:=λ_=>by
    have k13:F.1=2->xK {nx:=λ_=>Q (.pu .non),rt:=Q} [some<|.pu<|.rol<|ns.map .int,some<|.pu<|.int p,some b,some<|.pu<|.tup [.int c,.int 1],some<|.pu<|.tup [.int e,.int 1],x,some<|.pu<|.tup<|(rwF (F.1+1) F.2).map .int,y]:=λe2=>by
     unfold xK;have y1:Q (.ow [.lst [.tup<|(rwF (F.1+1) F.2).map .int,.int 1]]):=one (k:=1) (.inl rfl) ad ad
     have y2:Q (.ow [.lst [.tup [.int c,.int 1],.int 2],.lst [.tup<|(rwF (F.1+1) F.2).map .int,.int 1]]):=two (k:=2) (.inr rfl) ad
     rcases hb with rfl|rfl<;>unfold dL<;>walk_at "u"<;>rw[a5]<;>walk_at "u"<;>by_cases z:d5=1<;>simp only[z,eT,dR]
     ·exact⟨ac,ac,y1⟩
     ·exact⟨ac,ac,ac,y2⟩
     ·exact⟨ac,ac,y1⟩
     ·exact⟨ac,ac,ac,y2⟩
    unfold xL;rw[bG,fP];have y1:Q (.ow [.lst [.tup [.int c,.int 1],.int 1],.lst [.tup<|(rwF (F.1+1) F.2).map .int,.int 1]]):=two (k:=1) (.inl rfl) ad
    walk_at "u"
    rw[bS]
    by_cases z3:((F.1+1:Nat):Int)=4
    ·rw[a8 z3];exact⟨ac,ac,ac,y1⟩
    ·rw[a7 z3];rcases hb with rfl|rfl<;>unfold dL at k13⊢ <;>walk_at "u"<;>rw[a5]<;>walk_at "u"<;>by_cases z:d5=0
     ·rw[a8 z];exact⟨ac,ac,ac,y1⟩
     ·rw[a7 z];exact k13 ad
     ·rw[a8 z];exact⟨ac,ac,ac,y1⟩
     ·rw[a7 z];exact k13 ad
   unfold xM;rw[bG,fP];rcases hb with rfl|rfl<;>unfold dL at k12⊢ <;>walk_at "u"<;>rw[a0]<;>walk_at "u"<;>by_cases z:3<d0
   ·rw[a8 z,bS]
    by_cases z3:((F.1+1:Nat):Int)=3
    ·rw[a8 z3];exact⟨ac,ac,one (k:=2) (.inr rfl) ad ad⟩
    ·rw[a7 z3];exact k12 ad
   ·rw[a7 z];exact k12 ad
   ·rw[a8 z,bS]
    by_cases z3:((F.1+1:Nat):Int)=3
    ·rw[a8 z3];exact⟨ac,ac,one (k:=2) (.inr rfl) ad ad⟩
    ·rw[a7 z3];exact k12 ad
   ·rw[a7 z];exact k12 ad
  exact key
theorem aK5 {ns:List Int}{Q:B->Prop}{d0 d1 d2 d3 d4 d5 d6 p c e:Int}(dr:Dr [d0,d1,d2,d3,d4,d5,d6] d0 d1 d2 d3 d4 d5 d6)(pp:Pr p)(c0:0<=c/\c<p)(e0:0<=e/\e<p)(ne:c≠e)(h: ∀xs,gB p xs->Q (.ow<|xs.map fZ)/\Q (.pu<|.lst<|xs.map fZ)) :
  a06 {nx:=λ_=>Q (.pu .non),rt:=Q} [some<|.pu<|.rol<|ns.map .int,some<|.pu<|.int p,some<|.ow<|dL d0 d1 d2 d3 d4 d5 d6,some<|.pu<|.tup [.int c,.int 1],some<|.pu<|.tup [.int e,.int 1],none,none,none]:=by
 have p2:=pp.lo;have p9:=pp.hi;obtain⟨a0,a1,a2,a3,a4,a5,a6⟩:= @at7 d0 d1 d2 d3 d4 d5 d6;have k0:=dr.h0;have k1:=dr.h1;have k2:=dr.h2;have k3:=dr.h3;have k4:=dr.h4;have k5:=dr.h5;have k6:=dr.h6;have lc: ∀k,1<=k->k<=4->PM p (dS c,k):=λk h1 h2=>PM.lin p2 c0.1 c0.2 h1 h2
 have le: ∀k,1<=k->k<=4->PM p (dS e,k):=λk h1 h2=>PM.lin p2 e0.1 e0.2 h1 h2
 unfold a06 dL;rw[bG,fP];walk_at "u";rw[a0];walk_at "u"
 by_cases z7:7<d0
 ·rw[a8 z7];exact⟨d0,d1,d2,d3,d4,d5,d6,p,rfl,dr,z7,pp,λxs ok=>(h xs ok).1⟩
 ·rw[a7 z7];unfold aK1;rw[bG,fP];walk_at "u";rw[a0];walk_at "u"
  by_cases z0:d0=0
  ·rw[a8 z0,a5];walk_at "u";rw[bN _ ac]
   have r0:=b9 d5 (show(3:Int)≠0 by decide)
   have r1:=b7 d5 (show(0:Int)<3 by decide)
   obtain⟨k,ek⟩: ∃k:Nat,(k:Int)=2+d5%3:=⟨(2+d5%3).toNat,ad⟩
   rw[<-ek];refine⟨ac,ac,ac,?_⟩
   exact(h [(dS c,k)]<|.one (lc k ad ad) (by show 2<=1*k;lia) (by show 1*k<=4;lia)).1
  ·rw[a7 z0];unfold aK0;rw[bG,fP];walk_at "u";rw[a0];walk_at "u"
   by_cases z1:d0=1
   ·rw[a8 z1,a5];walk_at "u";rw[bN _ ac,aT5 _ ac]
    obtain⟨k,ek⟩: ∃k:Nat,(k:Int)=1+d5%2:=⟨(1+d5%2).toNat,ad⟩
    obtain⟨l,el⟩: ∃l:Nat,(l:Int)=1+d5/2:=⟨(1+d5/2).toNat,ad⟩
    rw[<-ek,<-el];refine⟨ac,ac,⟨ac,sm64 ac ac⟩,ac,ac,?_⟩
    exact(h [(dS c,k),(dS e,l)]<|.two (lc k ad ad) (le l ad ad) (b33 ne) (by show 2<=1*k+1*l;lia) (by show 1*k+1*l<=4;lia)).1
   ·rw[a7 z1];unfold aJ9;walk_at "u";rw[a0];walk_at "u";rw[bN _ ac]
    obtain⟨m,em⟩: ∃m:Nat,(m:Int)=2+d0%2:=⟨(2+d0%2).toNat,ad⟩
    rw[<-em];unfold aJ8;walk_at "u";rw[a3,a4,a6];walk_at "u"
    have nx: ∀d:D,(d= .non\/ ∃F:Nat×(Nat->Int),d=bL (rwF (F.1+1) F.2)/\MP p F.1 F.2/\2<=F.1/\F.1<=3/\NoR p F)->a05 {nx:=λ_=>Q (.pu .non),rt:=Q} [some<|.pu<|.rol<|ns.map .int,some<|.pu<|.int p,some<|.ow [.int d0,.int d1,.int d2,.int d3,.int d4,.int d5,.int d6],some<|.pu<|.tup [.int c,.int 1],some<|.pu<|.tup [.int e,.int 1],some<|.pu<|.int (m:Int),some<|.pu d,none]:=λd hd=>by
     unfold a05;rw[bG,fP];walk_at "u";rw[a0];walk_at "u"
     by_cases z5:5<d0
     ·rw[a8 z5,a3,a4];walk_at "u";refine⟨ac,?_⟩
      refine⟨[d3,d4],2,p,rfl,ac,ac,by show 2<=2;decide,λx hx=> ?_,p2,p9,?_,λF mF f2 f3 fe nr=> ?_⟩
      ·simp at hx
       rcases hx with rfl|rfl<;>lia
      ·refine⟨d0,d1,d2,d3,d4,d5,d6,p,.non,rfl,dr,pp,.inl rfl,?_,λxs ok=> ?_⟩
       ·dsimp only;rw[a7 ac]
        exact xO dr pp (.inr rfl) c0 e0 ne hd h
       ·exact(h xs ok).2
      ·have e2:=fe rfl;have eF:=qu_of mF e2;have v0:=mF.rng 0;have u0:=mF.rng 1;generalize F.2 0=v at *;generalize F.2 1=u at *;subst eF;refine⟨d0,d1,d2,d3,d4,d5,d6,p,bL [v,u,1],rfl,dr,pp,.inr ⟨v,u,rfl,v0.1,v0.2,u0.1,u0.2,nr⟩,?_,λxs ok=> ?_⟩
       ·dsimp only;rw[a7 ac]
        exact xO dr pp (.inr rfl) c0 e0 ne hd h
       ·exact(h xs ok).2
     ·rw[a7 z5];exact xO dr pp (.inl rfl) c0 e0 ne hd h
    refine⟨ac,ac,[d3,d4,d6],m,p,rfl,ad,ad,by show m<=3;lia,λx hx=> ?_,p2,p9,nx _<|.inl rfl,λF mF f2 f3 _ nr=>nx _ (.inr ⟨F,rfl,mF,f2,f3,nr⟩)⟩
    simp at hx
    rcases hx with rfl|rfl|rfl<;>lia
theorem bP2: ∀ds Q,aA9 ds Q->aB0 {nx:=λ_=>Q (.pu .non),rt:=Q} (init ["s","p","d","o","t","m","f","e"] ds):=by
 rintro ds Q ⟨ns,p,rfl,hns,pp,h⟩;have p2:=pp.lo;have p9:=pp.hi;unfold aB0;show(aX _ _:US) _ [some<|.pu<|.rol<|ns.map .int,some<|.pu<|.int p,none,none,none,none,none,none];walk_at "u";refine⟨ns,1,rfl,hns,ac,ac,λcc=> ?_⟩
 walk_at "u"
 refine⟨ac,cc,[10,199,199,199,199,4,199],999999929,rfl,ac,ac,ac,λxs hx=> ?_⟩
 obtain⟨d0,d1,d2,d3,d4,d5,d6,rfl,dr⟩:=dr_of hx;obtain⟨a0,a1,a2,a3,a4,a5,a6⟩:= @at7 d0 d1 d2 d3 d4 d5 d6;have k1:=dr.h1;have k2:=dr.h2;simp only[cD,l8];unfold aK4;walk_at "u";rw[a1];walk_at "u";unfold aK3;walk_at "u";rw[a2];walk_at "u";unfold aK2;rw[bN _ ad,bN _ ad,bG,fP]
 have r0:=b9 d1 (show p≠0 by lia)
 have r1:=b7 d1 (show 0<p by lia)
 have s0:=b9 d2 (show p≠0 by lia)
 have s1:=b7 d2 (show 0<p by lia)
 have t0:=b9 (d2+1) (show p≠0 by lia)
 have t1:=b7 (d2+1) (show 0<p by lia)
 refine⟨ad,ac,ad,ac,?_⟩
 walk_at "u"
 refine aU0 (a:=[d2%p,1]) (b:=[d1%p,1]) ?_
 rw[gP];dsimp only
 by_cases c:d2%p=d1%p
 ·rw[bB<|by rw[c],a8 rfl,a2]
  dsimp only;rw[bN _ ad]
  refine⟨ad,ac,aK5 dr pp ⟨r0,r1⟩ ⟨t0,t1⟩ (λz=> ?_) h⟩
  have d1':=aJ5 (z▸c:d2%p=(d2+1)%p);have:=Int.le_of_dvd ac (show p∣1 from dv1 (x:= -1) d1' (by grind))
  lia
 ·rw[bD<|by simpa using c,a7 ac]
  exact aK5 dr pp ⟨r0,r1⟩ ⟨s0,s1⟩ (λz=>c z.symm) h
structure AOk (p:Int)(A:List (List Int×Int)):Prop where
 mem: ∀e∈A,∃F:Nat×(Nat->Int),MP p F.1 F.2/\1<=F.1/\F.1<=4/\e.1=rwF (F.1+1) F.2/\1<=e.2/\e.2<=4
 nd:(A.map Prod.fst).Nodup
 lo:1<=A.length
 hi:A.length<=4
theorem AOk.perm {p:Int}{A C:List (List Int×Int)}(h:AOk p A)(q:C.Perm A):AOk p C:=⟨λe he=>h.mem e (q.mem_iff.mp he),(q.map Prod.fst).symm.nodup h.nd,by rw[q.length_eq];exact h.lo,by rw[q.length_eq];exact h.hi⟩
theorem gB.a {p:Int}{xs:List qB}(h:gB p xs):AOk p (xs.map toE):=by
 refine⟨λe he=> ?_,?_,?_,by rw[aI];exact h.few⟩
 ·obtain⟨x,hx,rfl⟩:=eC.mp he;have m:=h.mem x hx;exact⟨x.1,m.1,m.2.1,m.2.2.1,rfl,by show 1<=(x.2:Int);have:=m.2.2.2.1;lia,by show(x.2:Int)<=4;have:=m.2.2.2.2.1;lia⟩
 ·rw[cE];refine kX.mpr (h.nd.imp_of_mem λ{x y} hx hy ne e=>ne ?_)
  exact b32 (h.mem x hx).1 (h.mem y hy).1 e
 ·rw[aI];cases xs with
  | nil=>have:=h.lo;exact absurd this (by show ¬2<=0;decide)
  | cons x xs=>exact Nat.succ_le_succ (cO _)
theorem AOk.uniq {p:Int}{A:List (List Int×Int)}(h:AOk p A){x y:List Int×Int}(hx:x∈A)(hy:y∈A)(e:x.1=y.1):x=y:=by
 have nd:=kX.mp h.nd;obtain⟨i,hi,ei⟩:=List.getElem_of_mem hx;obtain⟨j,hj,ej⟩:=List.getElem_of_mem hy;rcases Nat.lt_trichotomy i j with l|l|l
 ·exact absurd (by rw[ei,ej];exact e) (rC.mp nd i j hi hj l)
 ·subst l;rw[<-ei,<-ej]
 ·exact absurd (by rw[ei,ej];exact e.symm) (rC.mp nd j i hj hi l)
theorem a58 {x y:List Int×Int}{R:List (List Int×Int)}(h:x≠y): ¬(x::R).Perm (y::R):=λq=>by
 have:=q.count_eq x;rw[List.count_cons_self,List.count_cons_of_ne λz=>h z.symm]at this
 lia
theorem xP {C A:List (List Int×Int)}(h:C.length≠A.length): ¬C.Perm A:=λq=>h q.length_eq
theorem bP3 {C A:List (List Int×Int)}{x:List Int×Int}(h:x∈C)(h2:x ∉ A): ¬C.Perm A:=λq=>h2 (q.mem_iff.mp h)
def nR:Φ:=λds Q=> ∃(A:List (List Int×Int)) (k:Int),ds=[.lst<|A.map elE,.int k]/\A.length<=20/\0<=k/\ ∀C:List (List Int×Int),C.Perm A->Q (.ow<|C.map elE)
def vQ:US:=(fA<|uOp dJ (uSl (aS 0) (iU<|aE 2) eI)<|uSl (aS 0) eI<|iU<|aE 2)
def t7:US:=(aX (cP 2<|uOp gI (aE 1)<|aZ bI8<|aA (uC<|.int 1)<|aA (kI<|aS 0) aL) vQ)
theorem aO8: ∀ds Q,nR ds Q->t7 {nx:=λ_=>Q (.pu .non),rt:=Q} (init ["r","m","a"] ds):=by
 rintro ds Q ⟨A,k,rfl,hA,k0,h⟩;unfold t7;show(aX _ _:US) _ [some<|.pu<|.lst<|A.map elE,some<|.pu<|.int k,none];walk_at "u";rw[aI,show(if(1:Int)< (A.length:Int)then(A.length:Int)else 1)=((max 1 A.length:Nat):Int)by rw[Nat.max_def];split<;>split<;>lia]
 have m1:0<max 1 A.length:=ad
 have r0:=b9 k (show((max 1 A.length:Nat):Int)≠0 by lia)
 have r1:=b7 k (show 0< ((max 1 A.length:Nat):Int)by lia)
 rw[bN _ ad]
 obtain⟨i,ei⟩: ∃i:Nat,(i:Int)=k%((max 1 A.length:Nat):Int):=⟨(k%((max 1 A.length:Nat):Int)).toNat,ad⟩
 rw[<-ei];have hi:i<=A.length:=ad
 refine⟨ad,?_⟩
 unfold vQ;walk_at "u";rw[kC _ i (by rw[aI];exact hi),uL _ i (by rw[aI];exact hi),<-List.map_drop,<-kZ,<-bU]
 refine⟨?_,h _ ?_⟩
 ·rw[aI,aI,rT,rS];exact aV (show _<=40 by lia) ac
 ·exact List.perm_append_comm.trans (by rw[List.take_append_drop])
noncomputable def BsD (Bs:List (List<|List Int×Int)):List D:=Bs.map λC=> .lst (C.map elE)
def uX (A:List (List Int×Int))(Bs:List (List<|List Int×Int)):Prop:= ∀C∈Bs,C.length<=5/\ ¬C.Perm A
def a07:Φ:=λds Q=> ∃(A:List (List Int×Int)) (f:List Int) (p:Int),ds=[.lst<|A.map elE,bL f,.int p]/\AOk p A/\f.length<=10/\2<=p/\p<200/\ ∀Bs,Bs.length<=11->uX A Bs->Q (.ow<|BsD Bs)
def xQ:US:=(tO 5)
def xR:US:=(aX (gT (cS<|uOp (mC λi j=>decide (j<i)) (kI<|aS 0)<|uC<|.int 1) (zR 5<|uOp dJ (dO<|aA (gD<|aA (aZ a57<|aA (aE 3)<|aA (uIx (uV<|uIx (aS 0)<|uC<|.int 1)<|uC<|.int 0)<|aA (aE 2) aL)<|aA (uC<|.int 1) aL) aL)<|uSl (aS 0) (iU<|uC<|.int 2) eI) dP) xQ)
def xS:US:=(aX (gT (cS<|uOp (mC λi j=>decide (j<i)) (aE 4)<|uC<|.int 1) (zR 5<|uOp dJ (dO<|aA (gD<|aA (aE 3)<|aA (uOp M.gSub (aE 4)<|uC<|.int 1) aL)<|aA (gD<|aA (aE 3)<|aA (uC<|.int 1) aL) aL)<|uSl (aS 0) (iU<|uC<|.int 1) eI) dP) xR)
def xT:US:=(aX (cP 5<|iJ [0] [none,some 0,none] 2 (oQ<|aE 5) (dX 0) (cS<|uOp (aM5 true) (aE 0)<|aE 1)<|aE 0) xS)
def aB1:US:=(aX (cP 5<|uOp dJ (aE 5)<|dO<|aA (dO<|aA (gD<|aA (aE 1)<|aA (uC<|.int 1) aL) aL)<|aA (uOp dJ (aE 0)<|dO<|aA (gD<|aA (gD<|aA (uC<|.int 1) aL)<|aA (uC<|.int 1) aL) aL) aL) xT)
def aB2:US:=(aX (cP 5<|uOp dJ (aE 5)<|dO<|aA (uOp dJ (aE 0)<|dO<|aA (gD<|aA (gD<|aA (uC<|.int 1)<|aA (uC<|.int 1) aL)<|aA (uC<|.int 0) aL) aL)<|aA (uOp dJ (dO<|aA (gD<|aA (uOp dJ (gD<|aA (uOp dJ (uIx (aS 3)<|uC<|.int 0)<|aE 2) aL)<|aS2 (aE 3) (iU<|uC<|.int 1) eI)<|aA (aE 4) aL) aL)<|uSl (aS 0) (iU<|uC<|.int 1) eI) aL) aB1)
def aB3:US:=(aX (cP 5<|dO<|aA (uSl (aS 0) (iU<|uC<|.int 1) eI)<|aA (uOp dJ (aE 0)<|uSl (aS 0) eI<|iU<|uC<|.int 1)<|aA (uOp dJ (dO<|aA (gD<|aA (aE 3)<|aA (uOp dJ (aE 4)<|uC<|.int 1) aL) aL)<|uSl (aS 0) (iU<|uC<|.int 1) eI)<|aA (uOp dJ (dO<|aA (gD<|aA (aE 3)<|aA (uOp bB4 (uC<|.int 10)<|uC<|.int 50) aL) aL)<|uSl (aS 0) (iU<|uC<|.int 1) eI)<|aA (dO aL) aL) aB2)
def a08:US:=(aX (aY8 (uIx (aS 0)<|uC<|.int 0)<|pH<|cV 3<|cV 4 jY) aB3)
theorem at0_ (x:D)(l:List D):atI (x::l) 0=some x:=c6 (j:=0) rfl
theorem b34 {Q:B->Prop}{A R:List (List Int×Int)}{f g:List Int}{p m:Int}{Bs:List (List<|List Int×Int)}(eA:A=(g,m)::R)(ok:AOk p A)(p2:2<=p)(p9:p<200)(h: ∀Bs,Bs.length<=11->uX A Bs->Q (.ow<|BsD Bs))(bl:Bs.length<=9)(hB: ∀C∈Bs,C.length<=5/\(C≠A-> ¬C.Perm A)) :
  xT {nx:=λ_=>Q (.pu .non),rt:=Q} [some<|.pu<|.lst<|A.map elE,some<|.pu<|.tup<|f.map .int,some<|.pu<|.int p,some<|.pu<|.tup<|g.map .int,some<|.pu<|.int m,some<|.ow<|BsD Bs]:=by
 have l4:R.length<=3:=by have:=ok.hi;rw[eA,cT]at this;lia
 obtain⟨G,mG,g1,g4,eg,m1,m4⟩:=ok.mem (g,m) (by rw[eA];exact aP ..)
 dsimp only at eg m1 m4;have sl: ∀k,k<=100->k<=sizeLine:=λk hk=>aV hk ac
 have sl': ∀k,k<=100->k<sizeLine:=λk hk=>kW hk ac
 have cf: ∀(x:D) (l:List D),cutD (x::l) (some 1) none=l:=λx l=>kC (x::l) 1 ae
 have s7: ∀Bs,Bs.length<=11->uX A Bs->xQ {nx:=λ_=>Q (.pu .non),rt:=Q} [some<|.pu<|.lst<|A.map elE,some<|.pu<|.tup<|f.map .int,some<|.pu<|.int p,some<|.pu<|.tup<|g.map .int,some<|.pu<|.int m,some<|.ow<|BsD Bs]:=λBs h1 h2=>by
  unfold xQ;walk_at "u";exact h Bs h1 h2
 have snoc: ∀(Bs:List (List<|List Int×Int)) C,BsD Bs++[.lst<|C.map elE]=BsD (Bs++[C]):=λBs C=>by unfold BsD;rw[bU];rfl
 have s6: ∀Bs,Bs.length<=10->uX A Bs->xR {nx:=λ_=>Q (.pu .non),rt:=Q} [some<|.pu<|.lst<|A.map elE,some<|.pu<|.tup<|f.map .int,some<|.pu<|.int p,some<|.pu<|.tup<|g.map .int,some<|.pu<|.int m,some<|.ow<|BsD Bs]:=λBs h1 h2=>by
  unfold xR;rw[bG,fP];walk_at "u";rw[aI]
  by_cases z:(1:Int)< (A.length:Int)
  ·rw[a8 z];obtain⟨⟨g',m'⟩,S,rfl⟩: ∃e S,R=e::S:=by
    cases R with
    | nil=>rw[eA]at z;simp at z
    | cons e S=>exact⟨e,S,rfl⟩
   obtain⟨H,mH,h1',h4',eh,_,_⟩:=ok.mem (g',m') (by rw[eA];simp)
   dsimp only at eh;have a1:atI (A.map elE) 1=some (elE (g',m')):=by rw[eA];exact c6 (j:=1) rfl
   have c2:cutD (A.map elE) (some 2) none=S.map elE:=by
    rw[eA];exact kC _ 2 ae
   rw[a1,c2];simp only[elE,bL];rw[at0_];dsimp only;refine⟨G,H,p,by rw[<-eg,<-eh];rfl,mG,mH,p2,p9,ad,ad,?_⟩
   dsimp only;have sl2:(BsD Bs).length<sizeLine:=sl' _ (by unfold BsD;rw[aI];lia)
   rw[cT]at l4;refine⟨ac,ac,sl _ (by simp;lia),sl2,?_⟩
   have:=snoc Bs ((rwF ((tm p G H).1+1) (tm p G H).2,1)::S);simp only[bL];rw[show BsD Bs++[D.lst<|[D.tup [.tup<|(rwF ((tm p G H).1+1) (tm p G H).2).map .int,.int 1]]++S.map elE]=_ from this]
   refine s7 _ (by simp;lia) λC hC=> ?_
   rcases cB.mp hC with hC|hC
   ·exact h2 C hC
   ·rw[d7.mp hC];refine⟨by simp;lia,xP ?_⟩
    rw[eA];simp
  ·rw[a7 z];exact s7 Bs ad h2
 have s5: ∀Bs,Bs.length<=9->uX A Bs->xS {nx:=λ_=>Q (.pu .non),rt:=Q} [some<|.pu<|.lst<|A.map elE,some<|.pu<|.tup<|f.map .int,some<|.pu<|.int p,some<|.pu<|.tup<|g.map .int,some<|.pu<|.int m,some<|.ow<|BsD Bs]:=λBs h1 h2=>by
  unfold xS;rw[bG,fP];walk_at "u"
  by_cases z:1<m
  ·rw[a8 z];have c1:cutD (A.map elE) (some 1) none=R.map elE:=by rw[eA];exact cf _ _
   rw[c1];have sl2:(BsD Bs).length<sizeLine:=sl' _ (by unfold BsD;rw[aI];lia)
   refine⟨ac,ac,ac,sl _ (by simp;lia),sl2,?_⟩
   have:=snoc Bs ((g,m-1)::(g,1)::R);rw[show BsD Bs++[D.lst<|[D.tup [.tup<|g.map .int,.int<|m-1],.tup [.tup<|g.map .int,.int 1]]++R.map elE]=_ from this]
   refine s6 _ (by simp;lia) λC hC=> ?_
   rcases cB.mp hC with hC|hC
   ·exact h2 C hC
   ·rw[d7.mp hC];refine⟨by simp;lia,xP ?_⟩
    rw[eA];simp
  ·rw[a7 z];exact s6 Bs ad h2
 unfold xT;rw[bG,vG]
 refine yR (t0:=0) Bs.length (λk=>(BsD Bs).getD k .non) [some<|.pu<|.lst<|A.map elE,some<|.pu<|.tup<|f.map .int,some<|.pu<|.int p,some<|.pu<|.tup<|g.map .int,some<|.pu<|.int m,some<|.pu<|.lst<|BsD Bs] (λQ' q=> ?_) ad (λx l=>[x,some<|.pu<|.lst<|A.map elE,some<|.ow l]) none rfl (λ_ _ _=>rfl) (λ_ _=>cM _) (λ_ _ _ q=>q) (λ_ _ _=>rfl) (λk=> !decide (Bs.getD k []=A)) (λk=>(BsD Bs).getD k .non) (λk l Q' hk q=> ?_) (λk l Q' hk q=> ?_) ?_
 ·walk_at "u"
  rw[show(BsD Bs).length=Bs.length by unfold BsD;rw[aI]]
  exact q
 ·have e:(BsD Bs).getD k .non= .lst ((Bs.getD k []).map elE):=by unfold BsD;simp[aQ,hk]
  rw[e]at q⊢;walk_at "u";refine aO4 ?_;rw[iA];exact q
 ·walk_at "u"
  exact q
 ·have e:((List.range Bs.length).filter λk=> !decide (Bs.getD k []=A)).map (λk=>(BsD Bs).getD k .non)=BsD (Bs.filter λC=> !decide (C=A)):=by
   have e1:Bs=(List.range Bs.length).map λk=>Bs.getD k []:=by
    apply i9
    ·simp
    ·intro i h1 h2;simp[aQ,h1]
   have e2:Bs.filter (λC=> !decide (C=A))=((List.range Bs.length).filter λk=> !decide (Bs.getD k []=A)).map λk=>Bs.getD k []:=by
    conv=>lhs;rw[e1]
    rw[List.filter_map];rfl
   rw[e2];unfold BsD;rw[cE];refine kR λk hk=> ?_
   have:=cC.mp (rV.mp hk).1;simp[aQ,this]
  rw[e];dsimp only[List.set,pW,bJ0];refine s5 _ (aV (List.length_filter_le ..) bl) λC hC=> ?_
  obtain⟨hC,ne⟩:=rV.mp hC;obtain⟨c5,cn⟩:=hB C hC;exact⟨c5,cn<|by simpa using ne⟩
theorem bD7: ∀ds Q,a07 ds Q->a08 {nx:=λ_=>Q (.pu .non),rt:=Q} (init ["r","f","p","g","m","s"] ds):=by
 rintro ds Q ⟨A,f,p,rfl,ok,hf,p2,p9,h⟩;obtain⟨⟨g,m⟩,R,rfl⟩: ∃e R,A=e::R:=by
  cases A with
  | nil=>have:=ok.lo;simp at this
  | cons e R=>exact⟨e,R,rfl⟩
 have l4:R.length<=3:=by have:=ok.hi;rw[cT]at this;lia
 obtain⟨G,mG,g1,g4,eg,m1,m4⟩:=ok.mem _ (aP ..);dsimp only at eg m1 m4;have gl:g.length=G.1+1:=by rw[eg,nP]
 unfold a08;show(aX _ _:US) _ [some<|.pu<|.lst (elE (g,m)::R.map elE),some<|.pu<|bL f,some<|.pu<|.int p,none,none,none];walk_at "u";have at0': ∀(x:D) (l:List D),atI (x::l) 0=some x:=λx l=>c6 (j:=0) rfl
 rw[at0'];simp only[elE,bL]
 (try walk_at "u")
 refine⟨ae,ae,trivial,?_⟩
 have cf: ∀(x:D) (l:List D),cutD (x::l) (some 1) none=l:=λx l=>kC (x::l) 1 ae
 have ct: ∀(x:D) (l:List D),cutD (x::l) none (some 1)=[x]:=λx l=>uL (x::l) 1 ae
 have sl: ∀k,k<=100->k<=sizeLine:=λk hk=>aV hk ac
 unfold aB3;walk_at "u";rw[cf,ct];refine⟨sl _ (by simp;lia),ac,ac,sl _ (by simp;lia),cpl ac ac ac,ac,ac,sl _ (by simp;lia),ac,ac,?_⟩
 obtain⟨t,big,et⟩: ∃t:Int,4<t/\(10:Int)^toNat 50=t:=⟨_,ac,rfl⟩
 rw[et];obtain⟨g0,gt,rfl⟩: ∃g0 gt,g=g0::gt:=by
  cases g with
  | nil=>simp at gl
  | cons a b=>exact⟨a,b,rfl⟩
 have t4:gt.length<=4:=by rw[cT]at gl;lia
 have t1:1<=gt.length:=by rw[cT]at gl;lia
 unfold aB2;walk_at "u";simp only[cD];rw[at0',cf];dsimp only;rw[cf];refine⟨ac,ac,ac,sl _ (by simp;lia),ac,sl _ (by simp;lia),ac,ac,sl _ (by simp;lia),ac,ac,?_⟩
 unfold aB1;walk_at "u";refine⟨ac,ac,ac,ac,ac,sl _ (by simp;lia),ac,by simp;decide,?_⟩
 obtain⟨A,eA⟩: ∃A,A=(g0::gt,m)::R:=⟨_,rfl⟩;have eE:D.tup [.tup (.int g0::gt.map .int),.int m]::R.map elE=A.map elE:=by rw[eA];rfl
 obtain⟨Bs,eB⟩: ∃Bs:List (List<|List Int×Int),Bs=[R,A++[(g0::gt,m)],(g0::gt,m+1)::R,(g0::gt,t)::R,[],A++[([1,1],0)],((g0+p)::gt,m)::R,[(f,1)],A++[([1],1)]]:=⟨_,rfl⟩;have fin:=b34 (f:=f) eA (eA▸ok) p2 p9 (eA▸h) (Bs:=Bs) (by rw[eB];simp) (λC hC=> ?_)
 ·rw[eB]at fin;rw[eA]at fin;simp only[BsD,cD,l8,bU,elE,bL]at fin
  simpa using fin
 ·rw[eB]at hC;have lA:A.length=R.length+1:=by rw[eA];rfl
  simp only[aR,eO,eS]at hC;rcases hC with rfl|rfl|rfl|rfl|rfl|rfl|rfl|rfl|rfl
  ·exact⟨ad,λ_=>xP ad⟩
  ·exact⟨by simp;lia,λ_=>xP ae⟩
  ·exact⟨by simp;lia,λ_=>by rw[eA];exact a58 (by simp;lia)⟩
  ·exact⟨by simp;lia,λ_=>by rw[eA];exact a58 (by simp;lia)⟩
  ·exact⟨ae,λ_=>xP (by simp;lia)⟩
  ·exact⟨by simp;lia,λ_=>xP ae⟩
  ·exact⟨by simp;lia,λ_=>by rw[eA];exact a58 (by simp;lia)⟩
  ·refine⟨ae,λne q=>ne ?_⟩
   exact(List.perm_singleton.mp q.symm).symm
  ·exact⟨by simp;lia,λ_=>xP ae⟩
def t9:Φ:=λds Q=> ∃(A:List (List Int×Int)) (p:Int),ds=[.lst<|A.map elE,.int p]/\AOk p A/\2<=p/\p<200/\ ∀Bs,Bs.length<=4->uX A Bs->Q (.ow<|BsD Bs)
def qG:US:=(tO 5)
def qH:US:=(aX (gT (cS<|uOp (mC λi j=>decide (j<i)) (kI<|aS 0)<|uC<|.int 1) (aX (aY8 (uIx (aS 0)<|uC<|.int 1)<|pH<|cV 6<|cV 7 jY)<|aX (zR 5<|uOp dJ (uSl (aS 0) eI<|iU<|uC<|.int 1)<|uSl (aS 0) eI<|iU<|uOp M.gSub (kI<|aS 0)<|uC<|.int 1)<|aX (zR 5<|uOp dJ (uOp dJ (dO<|aA (gD<|aA (aE 6)<|aA (uOp dJ (aE 7)<|uC<|.int 1) aL) aL)<|uSl (uV<|dO<|aA (gD<|aA (aE 2)<|aA (uOp M.gSub (aE 3)<|uC<|.int 1) aL) aL) eI<|iU<|aZ aZ2<|aA (uOp (mC λi j=>decide (j<i)) (aE 3)<|uC<|.int 1) aL)<|uSl (aS 0) (iU<|uC<|.int 2) eI)<|gT (cS<|uOp (iW true) (aE 3)<|aE 7) (zR 5<|uOp dJ (dO<|aA (gD<|aA (aE 2)<|aA (aE 7) aL)<|aA (gD<|aA (aE 6)<|aA (aE 3) aL) aL)<|uSl (aS 0) (iU<|uC<|.int 2) eI) dP) dP) qG)
def vR:US:=(aX (gT (cS<|uOp b68 (aE 4)<|iJ [] [none,none,none] 2 (oQ<|aE 0) (pH<|cV 0<|cV 1 jY) (λρ Q=>Q true ρ)<|aE 0) (zR 5<|uOp dJ (dO<|aA (gD<|aA (aE 4)<|aA (aE 3) aL) aL)<|uSl (aS 0) (iU<|uC<|.int 1) eI) dP) qH)
def qI:US:=(aX (cP 5<|dO aL) vR)
def vS:US:=(aX (gT (cS<|uOp (mC λi j=>decide (j<i)) (kI<|aS 2)<|uC<|.int 2) (cP 4<|uOp dJ (gD<|aA (uOp gI (uOp iV (uIx (aS 2)<|uC<|.int 0)<|uC<|.int 4)<|aE 1)<|aA (uOp gI (uOp iV (uIx (aS 2)<|uC<|.int 1)<|uC<|.int 2)<|aE 1) aL)<|aS2 (aE 2) (iU<|uC<|.int 2) eI) dP) qI)
def vT:US:=(aX (cP 4<|gD<|aA (uOp gI (uOp dJ (uIx (aS 2)<|uC<|.int 0)<|uC<|.int 1)<|aE 1)<|aA (uC<|.int 1) aL) vS)
def tD:US:=(aX (aY8 (uIx (aS 0)<|uC<|.int 0)<|pH<|cV 2<|cV 3 jY) vT)
theorem aK6 {js:List Nat}{cap:List (Option Nat)}{last t0 t1:Nat}{ui:UI}{te:UE}{ρ:Ev}{Q:B->Ev->Prop}{g:UG}(hg:g=pH (cV t0<|cV t1 jY)\/g=a83 (cV t0<|cV t1 jY))(n:Nat)(it i1 i2:Nat->D)(hit: ∀i,i<n->(g=pH (cV t0<|cV t1 jY)/\it i= .tup [i1 i,i2 i])\/(g=a83 (cV t0<|cV t1 jY)/\it i= .lst [i1 i,i2 i]))(ρ1:Ev)(hui: ∀Q:Nat->(Nat->D)->Ev->Prop,Q n it ρ1->ui ρ Q)(hn:n<=1000000)
  (G:Option B->Option B->List D->Ev) (x0 y0:Option B) (h0:iI (pW ρ1 js) cap last=G x0 y0 []) (h1: ∀x y l b c,((G x y l).set t0<|some b).set t1 (some c)=G (some b) (some c) l) (h1': ∀x y l,t0< (G x y l).length/\t1< (G x y l).length)
  (h2: ∀x y l (Q:List D->Prop),Q l->kK (G x y l) last Q) (h3: ∀x y l l',(G x y l).set last (some<|.ow l')=G x y l')
  (f:Nat->D) (hte: ∀i l (Q':B->Ev->Prop),i<n->Q' (.pu<|f i) (G (some<|.pu<|i1 i) (some<|.pu<|i2 i) l)->te (G (some<|.pu<|i1 i) (some<|.pu<|i2 i) l) Q') (hq:Q (.ow<|(List.range n).map f) (pW ρ1 js)) :
  iJ js cap last ui g (λρ Q=>Q true ρ) te ρ Q:=by
 refine hui _ ⟨λi ρ'=> ∃x y,ρ'=G x y ((List.range i).map f),⟨x0,y0,h0⟩,?_,?_⟩
 ·rintro i ρ' hi ⟨x,y,rfl⟩;have key:cV t0 (cV t1 jY) [i1 i,i2 i] (G x y<|(List.range i).map f) λρ2=>(fun(ρ:Ev) (Q:Bool->Ev->Prop)=>Q true ρ) ρ2 λc ρ3=>if c=true then uPut last te (λρ'=> ∃x y,ρ'=G x y ((List.range<|i+1).map f)) ρ3 else ∃x y,ρ3=G x y ((List.range<|i+1).map f):=by
   refine⟨(h1' _ _ _).1,by rw[bT];exact(h1' _ _ _).2,rfl,?_⟩
   rw[h1];dsimp only;rw[a8 rfl];refine hte i _ _ hi (h2 _ _ _ _ ⟨?_,some<|.pu<|i1 i,some<|.pu<|i2 i,?_⟩)
   ·rw[aI,iR];exact bO hi (aV hn ac)
   ·rw[h3,fL,bU];rfl
  rcases hit i hi with⟨rfl,e⟩| ⟨rfl,e⟩
  ·rw[e];exact key
  ·rw[e];exact key
 ·rintro ρ' ⟨x,y,rfl⟩;exact h2 _ _ _ _ hq
theorem aB4 (Bs:List (List<|List Int×Int))(C:List (List Int×Int)):BsD Bs++[.lst<|C.map elE]=BsD (Bs++[C]):=by unfold BsD;rw[bU];rfl
theorem uX.snoc {A:List (List Int×Int)}{Bs:List (List<|List Int×Int)}(h:uX A Bs){C:List (List Int×Int)}(h1:C.length<=5)(h2: ¬C.Perm A):uX A (Bs++[C]):=λD hD=>by
 rcases cB.mp hD with hD|hD
 ·exact h D hD
 ·rw[d7.mp hD];exact⟨h1,h2⟩
theorem vU {Q:B->Prop}{A R:List (List Int×Int)}{g:List Int}{p m:Int}{d:D}{Bs:List (List<|List Int×Int)}(eA:A=(g,m)::R)(ok:AOk p A)(m1:1<=m)(h: ∀Bs,Bs.length<=4->uX A Bs->Q (.ow<|BsD Bs))(bl:Bs.length<=1)(hB:uX A Bs) :
  qH {nx:=λ_=>Q (.pu .non),rt:=Q} [some<|.pu<|.lst<|A.map elE,some<|.pu<|.int p,some<|.pu<|.tup<|g.map .int,some<|.pu<|.int m,some<|.pu d,some<|.ow<|BsD Bs,none,none]:=by
 have l4:R.length<=3:=by have:=ok.hi;rw[eA,cT]at this;lia
 have sl: ∀k,k<=100->k<=sizeLine:=λk hk=>aV hk ac
 have sl': ∀k,k<=100->k<sizeLine:=λk hk=>kW hk ac
 have bd: ∀Bs:List (List<|List Int×Int),Bs.length<=10->(BsD Bs).length<sizeLine:=λBs hb=>sl' _ (by unfold BsD;rw[aI];lia)
 have s6: ∀Bs x y,Bs.length<=4->uX A Bs->qG {nx:=λ_=>Q (.pu .non),rt:=Q} [some<|.pu<|.lst<|A.map elE,some<|.pu<|.int p,some<|.pu<|.tup<|g.map .int,some<|.pu<|.int m,some<|.pu d,some<|.ow<|BsD Bs,x,y]:=λBs x y h1 h2=>by
  unfold qG;walk_at "u";exact h Bs h1 h2
 unfold qH;rw[bG,fP];walk_at "u";rw[aI]
 by_cases z:(1:Int)< (A.length:Int)
 ·rw[a8 z];obtain⟨⟨g',m'⟩,S,rfl⟩: ∃e S,R=e::S:=by
   cases R with
   | nil=>rw[eA]at z;simp at z
   | cons e S=>exact⟨e,S,rfl⟩
  have ng:g≠g':=λe=>by
   have:=ok.nd;rw[eA]at this;simp[e]at this
  have in1:(g,m)∈A:=by rw[eA];simp
  have in2:(g',m')∈A:=by rw[eA];simp
  have a1:atI (A.map elE) 1=some (elE (g',m')):=by rw[eA];exact c6 (j:=1) rfl
  have c1:cutD (A.map elE) none (some 1)=[elE (g,m)]:=by rw[eA];exact uL _ 1 ae
  have c2:cutD (A.map elE) (some 2) none=S.map elE:=by rw[eA];exact kC _ 2 ae
  have cl:cutD (A.map elE) none (some<|(A.length:Int)-1)=A.dropLast.map elE:=by
   rw[show(A.length:Int)-1=((A.length-1:Nat):Int)by lia,uL _ _ (by rw[aI];lia),<-kZ,List.dropLast_eq_take]
  obtain⟨Y,eY,yl⟩: ∃Y:List (List Int×Int),cutD [D.tup [.tup<|g.map .int,.int<|m-1]] none (some<|if 1<m then 1 else 0)=Y.map elE/\Y.length<=1:=by
   by_cases q:1<m
   ·rw[a8 q];exact⟨[(g,m-1)],uL _ 1 ae,ae⟩
   ·rw[a7 q];exact⟨[],uL _ 0 ae,ae⟩
  have ndA:A.Nodup:=(kX.mp ok.nd).imp λh e=>h (bC Prod.fst e)
  rw[cT]at l4;have lA:A.length=S.length+2:=by rw[eA];rfl
  have n1:uX A (Bs++[(g,m)::A.dropLast]):=hB.snoc (by rw[cT,List.length_dropLast];lia) λq=>by
   have:=q.symm.nodup ndA;rw[eA]at this;simp at this
  have n2:=n1.snoc (C:=(g',m'+1)::Y++S) (by simp;lia) (bP3 (x:=(g',m'+1)) ae λq=>by
   have:=bC Prod.snd (ok.uniq q in2 rfl);dsimp only at this
   lia)
  have e1:BsD Bs++[D.lst<|[elE (g,m)]++A.dropLast.map elE]=BsD (Bs++[(g,m)::A.dropLast]):=aB4 Bs ((g,m)::A.dropLast);have e2: ∀Cs,BsD Cs++[D.lst<|[D.tup [.tup<|g'.map .int,.int<|m'+1]]++Y.map elE++S.map elE]=BsD (Cs++[(g',m'+1)::Y++S]):=λCs=>by
   have:=aB4 Cs ((g',m'+1)::Y++S);rw[bU]at this;exact this
  have e3: ∀Cs,BsD Cs++[D.lst<|[D.tup [.tup<|g.map .int,.int m'],.tup [.tup<|g'.map .int,.int m]]++S.map elE]=BsD (Cs++[(g,m')::(g',m)::S]):=λCs=>aB4 Cs ((g,m')::(g',m)::S)
  rw[a1];simp only[elE,bL];rw[c1,cl,c2,eY,e1,e2];refine⟨ac,ac,trivial,sl _ (by simp;lia),bd _ ad,ac,ac,ac,ac,sl _ (by simp;lia),sl _ (by simp;lia),bd _ (by simp;lia),?_⟩
  by_cases q:m=m'
  ·rw[a7<|by simpa using q]
   exact s6 _ _ _ (by simp;lia) n2
  ·rw[a8 q,e3];refine⟨ac,ac,ac,sl _ (by simp;lia),bd _ (by simp;lia),s6 _ _ _ (by simp;lia)<|n2.snoc (by simp;lia)<|bP3 (x:=(g,m')) ae λr=>q ?_⟩
   exact(bC Prod.snd<|ok.uniq r in1 rfl).symm
 ·rw[a7 z];exact s6 Bs _ _ ad hB
theorem aO9: ∀ds Q,t9 ds Q->tD {nx:=λ_=>Q (.pu .non),rt:=Q} (init ["r","p","g","m","n","f","o","c"] ds):=by
 rintro ds Q ⟨A,p,rfl,ok,p2,p9,h⟩;obtain⟨⟨g,m⟩,R,eA⟩: ∃e R,A=e::R:=by
  cases A with
  | nil=>have:=ok.lo;simp at this
  | cons e R=>exact⟨e,R,rfl⟩
 have l4:R.length<=3:=by have:=ok.hi;rw[eA,cT]at this;lia
 obtain⟨G,mG,g1,g4,eg,m1,m4⟩:=ok.mem (g,m) (by rw[eA];exact aP ..)
 dsimp only at eg m1 m4;have gl:g.length=G.1+1:=by rw[eg,nP]
 have gr: ∀x∈g,0<=x/\x<200:=λx hx=>by
  rw[eg]at hx;obtain⟨j,_,rfl⟩:=eC.mp hx;have:=mG.rng j
  lia
 have a0:atI (A.map elE) 0=some (elE (g,m)):=by rw[eA];exact c6 (j:=0) rfl
 have c1:cutD (A.map elE) (some 1) none=R.map elE:=by rw[eA];exact kC _ 1 ae
 have sl: ∀k,k<=100->k<=sizeLine:=λk hk=>aV hk ac
 obtain⟨g0,g1',gt,rfl⟩: ∃a b t,g=a::b::t:=by
  match g,gl with
  | [],h=>simp at h
  | [_],h=>simp at h;lia
  | a::b::t,_=>exact⟨a,b,t,rfl⟩
 have r0:=gr g0 ae
 have r1:=gr g1' ae
 unfold tD;show(aX _ _:US) _ [some<|.pu<|.lst<|A.map elE,some<|.pu<|.int p,none,none,none,none,none,none];walk_at "u";rw[a0];simp only[elE,bL]
 (try walk_at "u")
 refine⟨ae,ae,trivial,?_⟩
 have s4: ∀n:List Int,qI {nx:=λ_=>Q (.pu .non),rt:=Q} [some<|.pu<|.lst<|A.map elE,some<|.pu<|.int p,some<|.pu<|.tup<|(g0::g1'::gt).map .int,some<|.pu<|.int m,some<|.pu<|.tup<|n.map .int,none,none,none]:=λn=>by
  unfold qI;walk_at "u";refine⟨ac,?_⟩
  have nil:uX A []:=λC hC=>by simp at hC
  unfold vR;rw[bG,fP,aN4,a88]
  have ev: ∀Q':B->Ev->Prop,aE 4 [some<|.pu<|.lst<|A.map elE,some<|.pu<|.int p,some<|.pu<|.tup<|(g0::g1'::gt).map .int,some<|.pu<|.int m,some<|.pu<|.tup<|n.map .int,some<|.ow [],none,none] Q'=Q' (.pu<|.tup<|n.map .int) [some<|.pu<|.lst<|A.map elE,some<|.pu<|.int p,some<|.pu<|.tup<|(g0::g1'::gt).map .int,some<|.pu<|.int m,some<|.pu<|.tup<|n.map .int,some<|.ow [],none,none]:=λ_=>rfl
  rw[ev]
  refine aK6 (t0:=0) (t1:=1) (.inl rfl) A.length (λk=>(A.map elE).getD k .non) (λk=> .tup ((A.getD k ([],0)).1.map .int)) (λk=> .int (A.getD k ([],0)).2) (λk hk=> .inl ⟨rfl,by simp[aQ,hk];rfl⟩) [some<|.pu<|.lst<|A.map elE,some<|.pu<|.int p,some<|.pu<|.tup<|(g0::g1'::gt).map .int,some<|.pu<|.int m,some<|.pu<|.tup<|n.map .int,some<|.ow [],none,none] (λQ' q=> ?_) (by have:=ok.hi;lia) (λx y l=>[x,y,some<|.ow l]) none none rfl (λ_ _ _ _ _=>rfl) (λ_ _ _=>⟨cM _,wT<|cM _⟩) (λ_ _ _ _ q=>q) (λ_ _ _ _=>rfl) (λk=> .tup ((A.getD k ([],0)).1.map .int)) (λk l Q' hk q=> ?_) ?_
  ·walk_at "u"
   rw[aI];exact q
  ·walk_at "u"
   exact q
  ·have e:(List.range A.length).map (λk=>D.tup ((A.getD k ([],0)).1.map .int))=(A.map Prod.fst).map λr=>D.tup (r.map .int):=by
    apply i9
    ·simp
    ·intro i h1 h2;simp at h1;simp[aQ,h1]
   rw[e];refine⟨n,A.map Prod.fst,rfl,rfl,?_⟩
   by_cases c:n∈A.map Prod.fst
   ·rw[bB c];dsimp only[isB,Bool.not_true];rw[a7 ac]
    exact vU (Bs:=[]) eA ok m1 h ae nil
   ·rw[bD c];dsimp only[isB];rw[a8 ac]
    dsimp only[pW];walk_at "u";rw[c1];refine⟨ac,ac,sl _ (by simp;lia),ac,?_⟩
    have:=vU (Bs:=[(n,m)::R]) (d:= .tup (n.map .int)) eA ok m1 h ae (λC hC=> ?_)
    ·exact this
    ·rw[d7.mp hC];have nn:(n,m)≠(g0::g1'::gt,m):=λz=>c (by rw[eA,show n=_ from bC Prod.fst z];simp)
     refine⟨by simp;lia,?_⟩
     rw[eA];exact a58 nn
 have a0':atI ((g0::g1'::gt).map D.int) 0=some (.int g0):=c6 (j:=0) rfl;have a1':atI ((g0::g1'::gt).map D.int) 1=some (.int g1'):=c6 (j:=1) rfl;have cg:cutD ((g0::g1'::gt).map D.int) (some 2) none=gt.map D.int:=kC _ 2 ae
 unfold vT;walk_at "u";rw[a0'];dsimp only;rw[bN _ ad]
 refine⟨ad,ac,?_⟩
 unfold vS;rw[bG,fP];walk_at "u";rw[aI]
 by_cases z:(2:Int)< ((g0::g1'::gt).length:Int)
 ·rw[a8 z,a0',a1',cg];dsimp only;rw[bN _ ad,bN _ ad]
  exact⟨cmR ac ac,ad,cmR ac ac,ad,ac,sl _ (by simp at gl ⊢; lia),s4 (g0*4%p::g1'*2%p::gt)⟩
 ·rw[a7 z];exact s4 [(g0+1)%p,1]
def aB5:US:=(fA<|bH4 (a78 false false<|aZ bZ<|aA (uOp dJ (aS2 (aE 5) (iU<|uC<|.int 1) eI)<|gD<|aA (uC<|.int 2) aL)<|aA (aE 3)<|aA (aE 10) aL)<|a78 false false<|aZ bZ<|aA (gD<|aA (uC<|.int 1)<|aA (uC<|.int 1) aL)<|aA (aE 3)<|aA (dO<|aA (gD<|aA (gD<|aA (uC<|.int 1)<|aA (uC<|.int 1) aL)<|aA (uC<|.int 1) aL) aL) aL)
def aB6:US:=(aX (gT (cS<|a78 true false<|aZ bZ<|aA (uOp dJ (gD<|aA (uOp dJ (uIx (aS 5)<|uC<|.int 0)<|uOp iV (uC<|.int 1000)<|aE 3) aL)<|aS2 (aE 5) (iU<|uC<|.int 1) eI)<|aA (aE 3)<|aA (aE 10) aL) (fA<|uC<|.bl false) dP) aB5)
def aB7:US:=(aX (jZ (oQ<|dO<|aA (uC<|.int 0)<|aA (uC<|.int 1)<|aA (a28<|aE 3)<|aA (uC<|.int 211)<|aA (uOp iV (aE 3)<|uC<|.int 199)<|aA (uC<|.int 4)<|aA (uOp bB4 (uC<|.int 10)<|uC<|.int 60) aL) (dX 13)<|gT (cS<|a78 true false<|aZ bZ<|aA (aE 5)<|aA (aE 13)<|aA (aE 10) aL) (fA<|uC<|.bl false) dP) aB6)
def aB8:US:=(aX (jZ (oQ<|uOp dJ (aZ a07<|aA (aE 10)<|aA (aE 5)<|aA (aE 3) aL)<|aZ t9<|aA (aE 10)<|aA (aE 3) aL) (dX 13)<|gT (cS<|a78 true false<|aZ bZ<|aA (aE 5)<|aA (aE 3)<|aA (aZ nR<|aA (aE 13)<|aA (uIx (aS 1)<|uC<|.int 5) aL) aL) (fA<|uC<|.bl false) dP) aB7)
def aB9:US:=(aX (gT (uOr (cS<|a78 true true<|aZ bZ<|aA (aE 5)<|aA (aE 3)<|aA (aE 11) aL)<|uOr (cS<|uOp (aM5 true) (aE 11)<|aE 12)<|cS<|a78 true true<|aZ bZ<|aA (aE 5)<|aA (aE 3)<|aA (b61 (aS 10)<|a28<|uC<|.int 1) aL) (fA<|uC<|.bl false) dP) aB8)
def aC0:US:=(aX (cP 12<|aZ sT<|aA (aE 11) aL) aB9)
def aC1:US:=(aX (cP 11<|uIf (cS<|uOp (iW false) (uIx (aS 1)<|uC<|.int 3)<|uC<|.int 1) (b61 (aS 10)<|a28<|uC<|.int 1)<|aZ sT<|aA (aE 10) aL) aC0)
def aW2:US:=(aX (cP 10<|aZ nR<|aA (aE 10)<|aA (uIx (aS 1)<|uC<|.int 4) aL) aC1)
def yY:US:=(aX (cP 10<|iJ [] [none,none,none] 2 (oQ<|aE 4) (a83<|cV 0<|cV 1 jY) (λρ Q=>Q true ρ)<|gD<|aA (aE 0)<|aA (aE 1) aL) aW2)
def b84:US:=(aX (cP 5<|aZ iX<|aA (iJ [3] [none,some 3,none] 2 (oQ<|aE 5) (dX 0) (λρ Q=>Q true ρ)<|uIf (cS<|uOp (mC λi j=>decide (i<j)) (aZ bU1<|aA (aE 0) aL)<|uC<|.int 500) (aE 0)<|uOp gI (aE 0)<|aE 1) aL) yY)
def b85:US:=(aX (cP 5<|uOp dJ (aZ iX<|aA (iJ [3] [none,none,some 3,none] 3 (uZip<|aA (aE 2)<|aA (aE 9) aL) (pH<|cV 0<|cV 1 jY) (λρ Q=>Q true ρ)<|uOp dJ (aE 0)<|uOp iV (aE 2)<|uOp M.gSub (aE 1)<|uC<|.int 2) aL)<|gD<|aA (uC<|.int 1) aL) b84)
def b86:US:=(aX (cP 2<|aS2 (aE 5) eI<|iU<|uOp M.gSub (kI<|aS 5)<|uC<|.int 1) b85)
def aP0:US:=(aX (cP 9<|aZ uK<|aA (aZ yM<|aA (aE 0)<|aA (uC<|.int 2) aL)<|aA (dO<|aA (uC<|.int 5)<|aA (uC<|.int 5)<|aA (uC<|.int 5)<|aA (uC<|.int 5) aL)<|aA (uC<|.int 999999893) aL) b86)
def aP1:US:=(aX (jZ (oQ<|aE 4) (a83<|cV 6<|cV 7 jY)<|jZ (kJ<|aA (aE 7) aL) (dX 8)<|cP 5<|aZ a57<|aA (aE 5)<|aA (aE 6)<|aA (aE 3) aL) aP0)
def aP2:US:=(aX (cP 5<|gD<|aA (uC<|.int 1) aL) aP1)
def b87:US:=(aX (cP 4<|aZ aA9<|aA (aE 0)<|aA (aE 3) aL) aP2)
def b88:US:=(aX (cP 3<|uIx (aS 2)<|uOp gI (uIx (aS 1)<|uC<|.int 0)<|uOp dJ (uC<|.int 5)<|uOp iV (uC<|.int 41)<|uIx (aS 1)<|uC<|.int 1) b87)
def b89:US:=(aX (cP 2<|iJ [] [none,none] 1 (aG8<|aA (uC<|.int 2)<|aA (uC<|.int 200) aL) (dX 0) (cS<|aZ uQ<|aA (aE 0) aL)<|aE 0) b88)
def aP3:US:=(aX (cP 1<|aZ uK<|aA (aZ yM<|aA (aE 0)<|aA (uC<|.int 0) aL)<|aA (dO<|aA (uC<|.int 46)<|aA (uC<|.int 2)<|aA (uC<|.int 7)<|aA (uC<|.int 2)<|aA (uC<|.int 12)<|aA (uC<|.int 60) aL)<|aA (uC<|.int 999999937) aL) b89)
structure LW (p:Int)(f:List Int)(A:List (List Int×Int)):Prop where
 rp:oT f
 pr:p∈prL
 ok:AOk p A
 sp: ∀ys,SP p (f.length-1,md p<|fOf f) ys->(ys.map toE).Perm A
theorem LW.perm {p:Int}{f:List Int}{A C:List (List Int×Int)}(h:LW p f A)(q:C.Perm A):LW p f C:=⟨h.rp,h.pr,h.ok.perm q,λys s=>(h.sp ys s).trans q.symm⟩
theorem a59 {p:Int}{f:List Int}{A C:List (List Int×Int)}{Q:B->Prop}(h:LW p f A)(q:C.Perm A)(hq:Q (.pu<|.bl true)):bZ [bL f,.int p,.lst<|C.map elE] Q:=
 ⟨f,p,C,rfl,by have:=h.rp.ok.hi;lia,by rw[q.length_eq];have:=h.ok.hi;lia,λn=>absurd h.rp n,λ_ n=>absurd h.pr n,λ_ _ ys s=>by
  rw[bB<|q.trans (h.sp ys s).symm];exact hq⟩
theorem ask_no {p:Int}{f:List Int}{A C:List (List Int×Int)}{Q:B->Prop}(h:LW p f A)(c5:C.length<=5)(q: ¬C.Perm A)(hq:Q (.pu<|.bl false)):bZ [bL f,.int p,.lst<|C.map elE] Q:=
 ⟨f,p,C,rfl,by have:=h.rp.ok.hi;lia,c5,λn=>absurd h.rp n,λ_ n=>absurd h.pr n,λ_ _ ys s=>by
  rw[bD λz=>q (z.trans<|h.sp ys s)]
  exact hq⟩
theorem aC2 {p:Int}{f:List Int}{C:List (List Int×Int)}{Q:B->Prop}(l:f.length<=1000)(c5:C.length<=5)(n: ¬oT f)(hq:Q (.pu<|.bl false)):bZ [bL f,.int p,.lst<|C.map elE] Q:=
 ⟨f,p,C,rfl,l,c5,λ_=>hq,λr=>absurd r n,λr=>absurd r n⟩
theorem bD8 {p:Int}{f:List Int}{C:List (List Int×Int)}{Q:B->Prop}(l:f.length<=1000)(c5:C.length<=5)(n:p ∉ prL)(hq:Q (.pu<|.bl false)):bZ [bL f,.int p,.lst<|C.map elE] Q:=
 ⟨f,p,C,rfl,l,c5,λ_=>hq,λ_ _=>hq,λ_ r=>absurd r n⟩
theorem bP4 {ui:UI}{g:UG}{tb:US}{E:UD}{ρ:Ev}(h: ∀K:Nat->(Nat->D)->Ev->Prop,(∀n it ρ1,(∃Pv:Nat->Ev->Prop,Pv 0 ρ1/\(∀i ρ,i<n->Pv i ρ->g (.pu<|it i) ρ λρ2=>tb {E with nx:=Pv (i+1),ct:=Pv (i+1),bk:=E.nx} ρ2)/\ ∀ρ,Pv n ρ->E.nx ρ)->K n it ρ1)->ui ρ K):jZ ui g tb E ρ:=h _ λ_ _ _ z=>z
theorem b90 {f:List Int}(rp:oT f): ∃f0 ft,f=f0::ft/\2<=ft.length/\ft.length<=4/\f0.natAbs<=499:=by
 have lo:=rp.ok.lo;have hi:=rp.ok.hi;cases f with
 | nil=>simp at lo
 | cons a b=>exact⟨a,b,rfl,by simp at lo;lia,by simp at hi;lia,rp.ok.small a ae⟩
theorem bP5 {Q:B->Prop}{p:Int}{f:List Int}{A:List (List Int×Int)}(lw:LW p f A)(h:Q (.pu<|.bl true)){x0 x1 x2 x4 x6 x7 x8 x9 x11 x12 x13:Option B} :
  aB5 {nx:=λ_=>Q (.pu .non),rt:=Q} [x0,x1,x2,some<|.pu<|.int p,x4,some<|.pu<|bL f,x6,x7,x8,x9,some<|.pu<|.lst<|A.map elE,x11,x12,x13]:=by
 obtain⟨f0,ft,rfl,f2,f4,_⟩:=b90 lw.rp;have cf:cutD ((f0::ft).map D.int) (some 1) none=ft.map D.int:=kC _ 1 ae
 have l5:A.length<=5:=by have:=lw.ok.hi;lia
 unfold aB5;simp only[bL];walk_at "u";rw[cf];refine⟨ac,aV (show _<=10 by simp;lia) ac,?_⟩
 have e:(ft.map D.int++[D.int 2]:List D)=(ft++[2]).map D.int:=by rw[bU];rfl
 rw[e];refine aC2 (f:=ft++[2]) (by simp;lia) l5 (λr=> ?_) ?_
 ·obtain⟨q,hq⟩:=r.one;have:=bC List.getLast? hq;simp at this
 ·walk_at "u"
  refine⟨ac,ac,ac,ac,?_⟩
  exact aC2 (f:=[1,1]) (C:=[([1,1],1)]) ac ac (λr=>by have:=r.ok.lo;simp at this) h
theorem bP6 {Q:B->Prop}{p:Int}{f:List Int}{A:List (List Int×Int)}(lw:LW p f A)(h:Q (.pu<|.bl true)){x0 x1 x2 x4 x6 x7 x8 x9 x11 x12 x13:Option B} :
  aB6 {nx:=λ_=>Q (.pu .non),rt:=Q} [x0,x1,x2,some<|.pu<|.int p,x4,some<|.pu<|bL f,x6,x7,x8,x9,some<|.pu<|.lst<|A.map elE,x11,x12,x13]:=by
 have fin:=bP5 (x0:=x0) (x1:=x1) (x2:=x2) (x4:=x4) (x6:=x6) (x7:=x7) (x8:=x8) (x9:=x9) (x11:=x11) (x12:=x12) (x13:=x13) lw h;obtain⟨f0,ft,rfl,f2,f4,fb⟩:=b90 lw.rp;have cf:cutD ((f0::ft).map D.int) (some 1) none=ft.map D.int:=kC _ 1 ae
 have a0:atI ((f0::ft).map D.int) 0=some (.int f0):=c6 (j:=0) rfl;have l5:A.length<=5:=by have:=lw.ok.hi;lia
 have p2:=(kF lw.pr).lo;unfold aB6;simp only[bL]at fin⊢;rw[bG,fP];walk_at "u";rw[a0,cf];dsimp only;refine⟨cmL ac ac,ac,aV (show _<=10 by simp;lia) ac,?_⟩
 refine aC2 (f:=(f0+1000*p)::ft) (by simp;lia) l5 (λr=> ?_) ?_
 ·have:=r.ok.small (f0+1000*p) ae
  lia
 ·dsimp only;rw[a7 ac]
  exact fin
theorem bP7 {p:Int}(pr:p∈prL): ∀x∈[(0:Int),1,-p,211,p*199,4,10^toNat 60],x ∉ prL:=λx hx hp=>by
 have p2:=(kF pr).lo;have lo:=(kF hp).lo;have hi:=(kF hp).hi;simp only[aR,eO,eS]at hx;rcases hx with rfl|rfl|rfl|rfl|rfl|rfl|rfl
 ·lia
 ·lia
 ·lia
 ·lia
 ·lia
 ·exact absurd hp af
 ·exact absurd hi ac
theorem bP8 {Q:B->Prop}{p:Int}{f:List Int}{A:List (List Int×Int)}(lw:LW p f A)(h:Q (.pu<|.bl true)){x0 x1 x2 x4 x6 x7 x8 x9 x11 x12 x13:Option B} :
  aB7 {nx:=λ_=>Q (.pu .non),rt:=Q} [x0,x1,x2,some<|.pu<|.int p,x4,some<|.pu<|bL f,x6,x7,x8,x9,some<|.pu<|.lst<|A.map elE,x11,x12,x13]:=by
 have l5:A.length<=5:=by have:=lw.ok.hi;lia
 have fl:f.length<=1000:=by have:=lw.rp.ok.hi;lia
 have p2:=(kF lw.pr).lo;have p9:=(kF lw.pr).hi;unfold aB7;rw[bG];refine cG 7 (λk=>([(0:Int),1,-p,211,p*199,4,10^toNat 60].map D.int).getD k .non) [x0,x1,x2,some<|.pu<|.int p,x4,some<|.pu<|bL f,x6,x7,x8,x9,some<|.pu<|.lst<|A.map elE,x11,x12,x13] (λQ' q=> ?_)
  (λk ρ=> ∃x13,ρ=[x0,x1,x2,some<|.pu<|.int p,x4,some<|.pu<|bL f,x6,x7,x8,x9,some<|.pu<|.lst<|A.map elE,x11,x12,x13]) ⟨x13,rfl⟩ ?_ ?_
 ·walk_at "u"
  exact⟨cmL ad ad,cpl ac ac ac,ac,q⟩
 ·rintro k ρ hk ⟨y,rfl⟩;have e:([(0:Int),1,-p,211,p*199,4,10^toNat 60].map D.int).getD k .non= .int ([(0:Int),1,-p,211,p*199,4,10^toNat 60].getD k 0):=by
   rw[aQ,dD,aQ,bJ<|by simpa using hk]
   rfl
  have np:=bP7 lw.pr ([(0:Int),1,-p,211,p*199,4,10^toNat 60].getD k 0) (by rw[aQ,bJ<|by simpa using hk];exact fU _)
  rw[e];generalize [(0:Int),1,-p,211,p*199,4,10^toNat 60].getD k 0=x at np⊢;walk_at "u";refine⟨ae,bD8 fl l5 np ?_⟩
  dsimp only;rw[a7 ac]
  exact⟨_,rfl⟩
 ·rintro ρ ⟨y,rfl⟩;exact bP6 lw h
theorem aW3 {Q:B->Prop}{p d3 d4 d5:Int}{f:List Int}{A:List (List Int×Int)}(lw:LW p f A)(h:Q (.pu<|.bl true)){d0 d1 d2:Int}(k5:0<=d5){b10:B}(e10:b10= .ow (A.map elE)\/b10= .pu (.lst<|A.map elE)){x0 x2 x4 x6 x7 x8 x9 x11 x12 x13:Option B} :
  aB8 {nx:=λ_=>Q (.pu .non),rt:=Q} [x0,some<|.ow [.int d0,.int d1,.int d2,.int d3,.int d4,.int d5],x2,some<|.pu<|.int p,x4,some<|.pu<|bL f,x6,x7,x8,x9,some b10,x11,x12,x13]:=by
 have l5:A.length<=5:=by have:=lw.ok.hi;lia
 have p2:=(kF lw.pr).lo;have p9:=(kF lw.pr).hi;have a5:atI [D.int d0,.int d1,.int d2,.int d3,.int d4,.int d5] 5=some (.int d5):=c6 (j:=5) rfl;have bl: ∀Es,(BsD Es).length=Es.length:=λEs=>by unfold BsD;rw[aI]
 unfold aB8;rw[bG];refine bP4 λK hK=> ?_
 simp only[bL]at hK⊢
 have go: ∀Bs Cs:List (List<|List Int×Int),Bs.length<=11->uX A Bs->Cs.length<=4->uX A Cs->Bs.length+Cs.length<=sizeLine/\K (BsD Bs++BsD Cs).length (λk=>(BsD Bs++BsD Cs).getD k .non) [x0,some<|.ow [.int d0,.int d1,.int d2,.int d3,.int d4,.int d5],x2,some<|.pu<|.int p,x4,some<|.pu<|.tup<|f.map .int,x6,x7,x8,x9,some<|.pu<|.lst<|A.map elE,x11,x12,x13]:=λBs Cs b11 hB c4 hC=>by
  have e:BsD Bs++BsD Cs=BsD (Bs++Cs):=by unfold BsD;rw[bU]
  have hE:uX A (Bs++Cs):=λC h=>(cB.mp h).elim (hB C) (hC C)
  have el:(Bs++Cs).length<=15:=by rw[fG];lia
  refine⟨aV (show _<=15 by rw[fG]at el;exact el) ac,?_⟩
  rw[e,bl];generalize Bs++Cs=Es at hE el⊢;refine hK _ _ _ ⟨λk ρ=> ∃x13,ρ=[x0,some<|.ow [.int d0,.int d1,.int d2,.int d3,.int d4,.int d5],x2,some<|.pu<|.int p,x4,some<|.pu<|.tup<|f.map .int,x6,x7,x8,x9,some<|.pu<|.lst<|A.map elE,x11,x12,x13],⟨x13,rfl⟩,?_,?_⟩
  ·rintro k ρ hk ⟨y,rfl⟩;have e:(BsD Es).getD k .non= .lst ((Es.getD k []).map elE):=by unfold BsD;simp[aQ,hk]
   obtain⟨c5,cn⟩:=hE (Es.getD k []) (by rw[aQ,bJ hk];exact fU _)
   rw[e];generalize Es.getD k []=C at c5 cn⊢;walk_at "u";rw[a5];dsimp only;refine⟨ae,C,d5,rfl,ad,k5,λC' q=> ?_⟩
   walk_at "u"
   refine ask_no lw (C:=C') (by rw[q.length_eq];exact c5) (λz=>cn (q.symm.trans z)) ?_
   dsimp only;rw[a7 ac]
   exact⟨_,rfl⟩
  ·rintro ρ ⟨y,rfl⟩;exact bP8 lw h
 rcases e10 with rfl|rfl
 ·walk_at "u"
  refine⟨A,f,p,rfl,lw.ok,by have:=lw.rp.ok.hi;lia,p2,p9,λBs b11 hB=> ?_⟩
  walk_at "u"
  refine⟨A,p,rfl,lw.ok,p2,p9,λCs c4 hC=> ?_⟩
  walk_at "u"
  rw[bl,bl];exact go Bs Cs b11 hB c4 hC
 ·walk_at "u"
  refine⟨A,f,p,rfl,lw.ok,by have:=lw.rp.ok.hi;lia,p2,p9,λBs b11 hB=> ?_⟩
  walk_at "u"
  refine⟨A,p,rfl,lw.ok,p2,p9,λCs c4 hC=> ?_⟩
  walk_at "u"
  rw[bl,bl];exact go Bs Cs b11 hB c4 hC
theorem aW4 {Q:B->Prop}{p d3 d4 d5:Int}{f:List Int}{A C:List (List Int×Int)}(lw:LW p f A)(q:C.Perm A)(h:Q (.pu<|.bl true)){d0 d1 d2:Int}(k5:0<=d5){b10:B}(e10:b10= .ow (A.map elE)\/b10= .pu (.lst<|A.map elE)){x0 x2 x4 x6 x7 x8 x9 x13:Option B} :
  aB9 {nx:=λ_=>Q (.pu .non),rt:=Q} [x0,some<|.ow [.int d0,.int d1,.int d2,.int d3,.int d4,.int d5],x2,some<|.pu<|.int p,x4,some<|.pu<|bL f,x6,x7,x8,x9,some b10,some<|.pu<|.lst<|C.map elE,some<|.ow<|C.map elE,x13]:=by
 have er:(A.map elE).reverse=A.reverse.map elE:=by rw[List.map_reverse]
 have pr:A.reverse.Perm A:=List.reverse_perm A;unfold aB9;rw[bG,fP];rcases e10 with rfl|rfl
 ·walk_at "u"
  rw[er];refine a59 lw q ?_;dsimp only;rw[a7 ac]
  refine aO4 ?_
  rw[bB rfl];dsimp only[xor_true,Bool.not_true];rw[a7 ac]
  refine⟨trivial,a59 lw pr ?_⟩
  dsimp only;rw[a7 ac]
  exact aW3 lw h k5 (.inl rfl)
 ·walk_at "u"
  rw[er];refine a59 lw q ?_;dsimp only;rw[a7 ac]
  refine aO4 ?_
  rw[bB rfl];dsimp only[xor_true,Bool.not_true];rw[a7 ac]
  refine⟨trivial,a59 lw pr ?_⟩
  dsimp only;rw[a7 ac]
  exact aW3 lw h k5 (.inr rfl)
theorem bP9 {Q:B->Prop}{p d3 d4 d5:Int}{f:List Int}{A:List (List Int×Int)}(lw:LW p f A)(h:Q (.pu<|.bl true)){d0 d1 d2:Int}(k5:0<=d5){x0 x2 x4 x6 x7 x8 x9 x13:Option B} :
  aC1 {nx:=λ_=>Q (.pu .non),rt:=Q} [x0,some<|.ow [.int d0,.int d1,.int d2,.int d3,.int d4,.int d5],x2,some<|.pu<|.int p,x4,some<|.pu<|bL f,x6,x7,x8,x9,some<|.ow<|A.map elE,none,none,x13]:=by
 have a3:atI [D.int d0,.int d1,.int d2,.int d3,.int d4,.int d5] 3=some (.int d3):=c6 (j:=3) rfl;have er:(A.map elE).reverse=A.reverse.map elE:=by rw[List.map_reverse]
 unfold aC1;walk_at "u";rw[a3];dsimp only
 by_cases z:d3=1
 ·rw[a8 z];refine⟨trivial,?_⟩;rw[er];unfold aC0;walk_at "u";exact aW4 lw (List.reverse_perm A) h k5 (.inl rfl)
 ·rw[a7 z];unfold aC0;walk_at "u";exact aW4 lw (List.Perm.refl A) h k5 (.inr rfl)
theorem bQ0 {Q:B->Prop}{p d3 d4 d5:Int}{f:List Int}{xs:List qB}(ok:gB p xs)(pr:p∈prL)(rp:oT f)(ef:(f.length-1,md p<|fOf f)=allT p dN xs)(h:Q (.pu<|.bl true)){d0 d1 d2:Int}(k4:0<=d4)(k5:0<=d5){x0 x2 x6 x7 x8 x9:Option B} :
  yY {nx:=λ_=>Q (.pu .non),rt:=Q} [x0,some<|.ow [.int d0,.int d1,.int d2,.int d3,.int d4,.int d5],x2,some<|.pu<|.int p,some<|.pu<|.lst<|xs.map fZ,some<|.pu<|bL f,x6,x7,x8,x9,none,none,none,none]:=by
 have a4:atI [D.int d0,.int d1,.int d2,.int d3,.int d4,.int d5] 4=some (.int d4):=c6 (j:=4) rfl;have lw:LW p f (xs.map toE):=⟨rp,pr,ok.a,λys sp=>(aV7 (kF pr) ok (by rw[<-ef];exact sp)).map toE⟩
 unfold yY;rw[bG,vG]
 refine aK6 (t0:=0) (t1:=1) (.inr rfl) xs.length (λk=>(xs.map fZ).getD k .non) (λk=>bL ((xs.map toE).getD k ([],0)).1) (λk=> .int ((xs.map toE).getD k ([],0)).2) (λk hk=> .inr ⟨rfl,by simp[aQ,hk];rfl⟩) [x0,some<|.ow [.int d0,.int d1,.int d2,.int d3,.int d4,.int d5],x2,some<|.pu<|.int p,some<|.pu<|.lst<|xs.map fZ,some<|.pu<|bL f,x6,x7,x8,x9,none,none,none,none] (λQ' q=> ?_) (by have:=ok.few;lia) (λx y l=>[x,y,some<|.ow l]) none none rfl (λ_ _ _ _ _=>rfl) (λ_ _ _=>⟨cM _,wT<|cM _⟩) (λ_ _ _ _ q=>q) (λ_ _ _ _=>rfl) (λk=>elE ((xs.map toE).getD k ([],0))) (λk l Q' hk q=> ?_) ?_
 ·walk_at "u"
  rw[aI];exact q
 ·walk_at "u"
  exact⟨ac,q⟩
 ·have e:(List.range xs.length).map (λk=>elE ((xs.map toE).getD k ([],0)))=(xs.map toE).map elE:=by
   apply i9
   ·simp
   ·intro i h1 h2;simp at h1;simp[aQ,h1]
  rw[e];dsimp only[List.set,pW];unfold aW2;walk_at "u";rw[a4];dsimp only;refine⟨xs.map toE,d4,rfl,by rw[aI];have:=ok.few;lia,k4,λC q=> ?_⟩
  exact bP9 (lw.perm q) h k5
theorem bY8 {Q:B->Prop}{ns:List Int}(hns:ns.length<=63){p d3 d4 d5:Int}{xs:List qB}(ok:gB p xs)(pr:p∈prL)(h:Q (.pu<|.bl true)){d0 d1 d2:Int}(k4:0<=d4)(k5:0<=d5){x2 x6 x7 x8:Option B} :
  aP0 {nx:=λ_=>Q (.pu .non),rt:=Q} [some<|.pu<|.rol<|ns.map .int,some<|.ow [.int d0,.int d1,.int d2,.int d3,.int d4,.int d5],x2,some<|.pu<|.int p,some<|.pu<|.lst<|xs.map fZ,some<|.pu<|bL<|rwF ((allT p dN xs).1+1) (allT p dN xs).2,x6,x7,x8,none,none,none,none,none]:=by
 have pp:=kF pr;have p2:=pp.lo;have p9:=pp.hi;have mF:=MP.allT p2 xs (MP.one p2) λx hx=>(ok.mem x hx).1
 have n2:=ok.lo;have n4:=ok.hi;have eF:(allT p dN xs)=((allT p dN xs).1,(allT p dN xs).2):=rfl;obtain⟨n,en⟩: ∃n,n=(allT p dN xs).1:=⟨_,rfl⟩;obtain⟨F,eF'⟩: ∃F,F=(allT p dN xs).2:=⟨_,rfl⟩
 have key: ∀f:List Int,oT f->(f.length-1,md p<|fOf f)=(n,F)-> ∀x2 x9,yY {nx:=λ_=>Q (.pu .non),rt:=Q} [some<|.pu<|.rol<|ns.map .int,some<|.ow [.int d0,.int d1,.int d2,.int d3,.int d4,.int d5],x2,some<|.pu<|.int p,some<|.pu<|.lst<|xs.map fZ,some<|.pu<|bL f,x6,x7,x8,x9,none,none,none,none]:=λf rp ef x2 x9=>bQ0 ok pr rp (by rw[ef,en,eF']) h k4 k5
 rw[<-en,<-eF']at mF⊢;rw[<-en]at n2 n4;clear eF en eF';unfold aP0;walk_at "u";refine⟨ns,2,rfl,hns,ac,ac,λc=> ?_⟩
 walk_at "u"
 refine⟨ac,c,[5,5,5,5],999999893,rfl,ac,ac,ac,λys hy=> ?_⟩
 obtain⟨m0,m1,m2,m3,rfl⟩: ∃a b c d,ys=[a,b,c,d]:=by
  match ys,hy.1 with
  | [a,b,c,d],_=>exact⟨a,b,c,d,rfl⟩
 obtain⟨Y,eY⟩: ∃Y:Nat->Int,Y=λj=>[m0,m1,m2,m3].getD j 0:=⟨_,rfl⟩
 have yb: ∀j,j<4->0<=Y j/\Y j<5:=λj hj=>by
  rw[eY];rcases(show j=0\/j=1\/j=2\/j=3 by lia)with rfl|rfl|rfl|rfl
  ·exact hy.2 0 m0 5 rfl rfl
  ·exact hy.2 1 m1 5 rfl rfl
  ·exact hy.2 2 m2 5 rfl rfl
  ·exact hy.2 3 m3 5 rfl rfl
 have e4:([m0,m1,m2,m3].map D.int)=(rwF 4 Y).map .int:=by rw[eY];rfl
 rw[e4];unfold b86;simp only[bL];walk_at "u";rw[bS,show((n+1:Nat):Int)-1=(n:Int)by lia,uL _ n (by rw[bS];lia)]
 have et:((rwF (n+1) F).map D.int).take n=(rwF n F).map D.int:=by
  rw[<-kZ]
  congr 1
  unfold rwF;rw[<-kZ,List.take_range]
  congr 2
  lia
 rw[et];unfold b85;obtain⟨W,eW⟩: ∃W:Nat->Int,W=λj=>if j<n then F j+p*(Y j-2)else 1:=⟨_,rfl⟩
 rw[bG,vG,a88,jG,jH]
 refine b18 (t0:=0) (t1:=1) n (λj=>((rwF n F).map D.int).getD j .non) (λj=>((rwF 4 Y).map D.int).getD j .non) [some<|.pu<|.rol<|ns.map .int,some<|.ow [.int d0,.int d1,.int d2,.int d3,.int d4,.int d5],some<|.pu<|.tup<|(rwF n F).map .int,some<|.pu<|.int p,some<|.pu<|.lst<|xs.map fZ,some<|.pu<|.tup<|(rwF (n+1) F).map .int,x6,x7,x8,some<|.pu<|.lst<|(rwF 4 Y).map .int,none,none,none,none] (λQ' q=> ?_) ad (λx y l=>[x,y,some<|.pu<|.int p,some<|.ow l]) none none rfl (λ_ _ _ _ _=>rfl) (λ_ _ _=>⟨cM _,wT<|cM _⟩) (λ_ _ _ _ q=>q) (λ_ _ _ _=>rfl) (λj=> .int (F j+p*(Y j-2))) (λj l Q' hj q=> ?_) ?_
 ·walk_at "u"
  rw[bS,bS,show min n 4=n by lia]
  exact q
 ·rw[mE hj,mE<|show j<4 by lia]at q⊢
  walk_at "u"
  exact⟨cmL ad ad,q⟩
 ·have e1:(List.range n).map (λj=>D.int (F j+p*(Y j-2)))++[D.int 1]=(rwF (n+1) W).map .int:=by
   unfold rwF;rw[fL,bU,bU,eW,cE]
   congr 1
   ·refine kR λj hj=> ?_
    show _=D.int (if j<n then _ else _)
    rw[a8<|cC.mp hj]
   ·show _=[D.int<|if n<n then _ else 1]
    rw[a7 ad]
  walk_at "u"
  rw[e1];refine⟨ac,aV (show _<=10 by simp;lia) ac,?_⟩
  unfold b84;obtain⟨Z,eZ⟩: ∃Z:Nat->Int,Z=λj=>if(if W j<0 then -W j else W j)<500 then W j else W j%p:=⟨_,rfl⟩
  rw[bG,vG,jG,jH]
  refine j5 (t0:=0) (n+1) (λj=>((rwF (n+1) W).map D.int).getD j .non) [some<|.pu<|.rol<|ns.map .int,some<|.ow [.int d0,.int d1,.int d2,.int d3,.int d4,.int d5],some<|.pu<|.tup<|(rwF n F).map .int,some<|.pu<|.int p,some<|.pu<|.lst<|xs.map fZ,some<|.pu<|.tup<|(rwF (n+1) W).map .int,x6,x7,x8,some<|.pu<|.lst<|(rwF 4 Y).map .int,none,none,none,none] (λQ' q=> ?_) ad (λx l=>[x,some<|.pu<|.int p,some<|.ow l]) none rfl (λ_ _ _=>rfl) (λ_ _=>cM _) (λ_ _ _ q=>q) (λ_ _ _=>rfl) (λj=> .int (Z j)) (λj l Q' hj q=> ?_) ?_
  ·walk_at "u"
   rw[bS];exact q
  ·rw[mE hj]at q⊢;walk_at "u";rw[eZ]at q;dsimp only at q
   by_cases z:(if W j<0 then -W j else W j)<500
   ·rw[a8 z]at q⊢;exact q
   ·rw[a7 z]at q⊢;rw[bN _ ad]
    exact⟨ad,q⟩
  ·have e2:(List.range<|n+1).map (λj=>D.int (Z j))=(rwF (n+1) Z).map .int:=by unfold rwF;rw[cE];rfl
   rw[e2];walk_at "u";have zn:Z n=1:=by
    have wn:W n=1:=by rw[eW];exact a7 ad
    rw[eZ];dsimp only;rw[wn,a8 ac]
   have zb: ∀j,j<=n->(Z j).natAbs<=499/\p∣Z j-F j:=λj hj=>by
    have wd:p∣W j-F j:=by
     rw[eW];dsimp only
     by_cases c:j<n
     ·rw[a8 c];exact⟨Y j-2,ad⟩
     ·rw[a7 c,show j=n by lia,mF.top]
      exact⟨0,ad⟩
    rw[eZ];dsimp only
    by_cases c:(if W j<0 then -W j else W j)<500
    ·rw[a8 c];refine⟨?_,wd⟩;split at c<;>lia
    ·rw[a7 c];have:=b9 (W j) (show p≠0 by lia)
     have:=b7 (W j) (show 0<p by lia)
     exact⟨ad,dv2 (x:=1) (y:=1) (cgE<|W j) wd<|by grind⟩
   refine key (rwF (n+1) Z) ⟨⟨by rw[nP];lia,by rw[nP];lia,λx hx=> ?_⟩,rwF n Z,?_⟩ ?_ _ _
   ·obtain⟨j,hj,rfl⟩:=eC.mp hx;exact(zb j (by have:=cC.mp hj;lia)).1
   ·unfold rwF;rw[fL,bU,List.map_singleton,zn]
   ·rw[nP,jM]
    congr 1
    funext j
    by_cases c:j<=n
    ·have e3:fOf (rwF (n+1) Z) j=Z j:=by
      unfold fOf;rw[aQ,a52 ad]
      rfl
     show fOf (rwF (n+1) Z) j%p=F j
     rw[e3];have r:=mF.rng j;exact yW ⟨b9 _ ad,b7 _ ad⟩ r (dv2 (x:=1) (y:=1) (cgE<|Z j) (zb j c).2<|by grind)
    ·show fOf (rwF (n+1) Z) j%p=F j
     rw[mF.hi j ad]
     unfold fOf;rw[aQ,iO (by rw[nP];lia)]
     exact c9 p
theorem b91 {Q:B->Prop}{ns:List Int}(hns:ns.length<=63){p d3 d4 d5:Int}{xs:List qB}(ok:gB p xs)(pr:p∈prL)(h:Q (.pu<|.bl true)){d0 d1 d2:Int}(k4:0<=d4)(k5:0<=d5){b4:B}(e4:b4= .ow (xs.map fZ)\/b4= .pu (.lst<|xs.map fZ)){x2:Option B} :
  aP1 {nx:=λ_=>Q (.pu .non),rt:=Q} [some<|.pu<|.rol<|ns.map .int,some<|.ow [.int d0,.int d1,.int d2,.int d3,.int d4,.int d5],x2,some<|.pu<|.int p,some b4,some<|.pu<|.tup [.int 1],none,none,none,none,none,none,none,none]:=by
 have pp:=kF pr;have p2:=pp.lo;have p9:=pp.hi;unfold aP1;rw[bG];refine cG xs.length (λk=>(xs.map fZ).getD k .non) [some<|.pu<|.rol<|ns.map .int,some<|.ow [.int d0,.int d1,.int d2,.int d3,.int d4,.int d5],x2,some<|.pu<|.int p,some<|.pu<|.lst<|xs.map fZ,some<|.pu<|.tup [.int 1],none,none,none,none,none,none,none,none] (λQ' q=> ?_)
  (λk ρ=> ∃x6 x7 x8,ρ=[some<|.pu<|.rol<|ns.map .int,some<|.ow [.int d0,.int d1,.int d2,.int d3,.int d4,.int d5],x2,some<|.pu<|.int p,some<|.pu<|.lst<|xs.map fZ,some<|.pu<|bL<|rwF ((allT p dN<|xs.take k).1+1) (allT p dN<|xs.take k).2,x6,x7,x8,none,none,none,none,none]) ⟨none,none,none,rfl⟩ ?_ ?_
 ·rcases e4 with rfl|rfl
  ·walk_at "u"
   rw[aI];exact q
  ·walk_at "u"
   rw[aI];exact q
 ·rintro k ρ hk ⟨x6,x7,x8,rfl⟩;have ex:(xs.map fZ).getD k .non=fZ xs[k]:=by simp[aQ,hk]
  have tk:allT p dN (xs.take<|k+1)=powT p (allT p dN<|xs.take k) xs[k].1 xs[k].2:=by
   rw[List.take_succ_eq_append_getElem hk,i4];rfl
  have mk:=ok.mem xs[k] (fU hk);have ma:=MP.allT p2 (xs.take k) (MP.one p2) λx hx=>(ok.mem x<|List.mem_of_mem_take hx).1
  have dg:(allT p dN<|xs.take<|k+1).1<=4:=by
   have a:=i4 p (xs.take<|k+1) (xs.drop<|k+1) dN;rw[List.take_append_drop]at a;have:=a54 p (xs.drop<|k+1) (allT p dN<|xs.take<|k+1);rw[<-a]at this;exact aV this ok.hi
  rw[ex,tk]at *;generalize xs[k]=x at *;generalize allT p dN (xs.take k)=a at *;refine⟨ae,ae,rfl,?_⟩
  show(jZ _ _ _:US) _ [some<|.pu<|.rol<|ns.map .int,some<|.ow [.int d0,.int d1,.int d2,.int d3,.int d4,.int d5],x2,some<|.pu<|.int p,some<|.pu<|.lst<|xs.map fZ,some<|.pu<|bL<|rwF (a.1+1) a.2,some<|.pu<|bL<|rwF (x.1.1+1) x.1.2,some<|.pu<|.int (x.2:Int),x8,none,none,none,none,none]
  refine cG x.2 (λk=> .int (0+(k:Int))) [some<|.pu<|.rol<|ns.map .int,some<|.ow [.int d0,.int d1,.int d2,.int d3,.int d4,.int d5],x2,some<|.pu<|.int p,some<|.pu<|.lst<|xs.map fZ,some<|.pu<|bL<|rwF (a.1+1) a.2,some<|.pu<|bL<|rwF (x.1.1+1) x.1.2,some<|.pu<|.int (x.2:Int),x8,none,none,none,none,none] (λQ' q=> ?_)
   (λk ρ=> ∃x8,ρ=[some<|.pu<|.rol<|ns.map .int,some<|.ow [.int d0,.int d1,.int d2,.int d3,.int d4,.int d5],x2,some<|.pu<|.int p,some<|.pu<|.lst<|xs.map fZ,some<|.pu<|bL<|rwF ((powT p a x.1 k).1+1) (powT p a x.1 k).2,some<|.pu<|bL<|rwF (x.1.1+1) x.1.2,some<|.pu<|.int (x.2:Int),x8,none,none,none,none,none]) ⟨x8,rfl⟩ ?_ ?_
  ·walk_at "u"
   refine⟨⟨ad,ad⟩,?_⟩
   rw[fH];exact q
  ·rintro j ρ hj ⟨x8,rfl⟩;have dj:(powT p a x.1 j).1<=4:=by
    rw[iE]at dg⊢;have:x.1.1*j<=x.1.1*x.2:=kS _ ad
    lia
   walk_at "u"
   exact⟨ae,powT p a x.1 j,x.1,p,rfl,MP.powT p2 ma mk.1 j,mk.1,p2,p9,ad,ad,_,rfl⟩
  ·rintro ρ ⟨x8,rfl⟩;exact⟨_,_,_,rfl⟩
 ·rintro ρ ⟨x6,x7,x8,rfl⟩;rw[wH<|aC _];exact bY8 hns ok pr h k4 k5
theorem rd_law: ∀ds Q,aH0 ds Q->aP3 {nx:=λ_=>Q (.pu .non),rt:=Q} (init ["s","d","l","p","h","f","g","m","t","o","r","a","c","b"] ds):=by
 rintro ds Q ⟨ns,rfl,hns,h⟩;unfold aP3;show(aX _ _:US) _ [some<|.pu<|.rol<|ns.map .int,none,none,none,none,none,none,none,none,none,none,none,none,none];rw[bG];walk_at "u";refine⟨ns,0,rfl,hns,ac,ac,λc=> ?_⟩
 walk_at "u"
 refine⟨ac,c,[46,2,7,2,12,60],999999937,rfl,ac,ac,ac,λys hy=> ?_⟩
 obtain⟨d0,d1,d2,d3,d4,d5,rfl⟩: ∃a b c d e f,ys=[a,b,c,d,e,f]:=by
  match ys,hy.1 with
  | [a,b,c,d,e,f],_=>exact⟨a,b,c,d,e,f,rfl⟩
 have k0:=hy.2 0 d0 46 rfl rfl;have k1:=hy.2 1 d1 2 rfl rfl;have k4:=hy.2 4 d4 12 rfl rfl;have k5:=hy.2 5 d5 60 rfl rfl;simp only[cD,l8];unfold b89;rw[bG,vG]
 refine yR (t0:=0) 198 (λk=> .int (2+(k:Int))) [some<|.pu<|.rol<|ns.map .int,some<|.ow [.int d0,.int d1,.int d2,.int d3,.int d4,.int d5],none,none,none,none,none,none,none,none,none,none,none,none] (λQ' q=> ?_) ac (λx l=>[x,some<|.ow l]) none rfl (λ_ _ _=>rfl) (λ_ _=>cM _) (λ_ _ _ q=>q) (λ_ _ _=>rfl) prC (λi=> .int (2+(i:Int))) (λi l Q' hi q=> ?_) (λi l Q' hi q=> ?_) ?_
 ·walk_at "u"
  exact⟨ac,q⟩
 ·walk_at "u"
  exact⟨i,rfl,q⟩
 ·walk_at "u"
  exact q
 ·have e:((List.range 198).filter prC).map (λi:Nat=>D.int (2+(i:Int)))=prL.map .int:=by unfold prL;rw[cE];rfl
  rw[e];dsimp only[List.set,pW];have a0:atI [D.int d0,.int d1,.int d2,.int d3,.int d4,.int d5] 0=some (.int d0):=c6 (j:=0) rfl;have a1:atI [D.int d0,.int d1,.int d2,.int d3,.int d4,.int d5] 1=some (.int d1):=c6 (j:=1) rfl;unfold b88;walk_at "u";rw[a0,a1];dsimp only;rw[bN _ ad]
  have r0:=b9 d0 (show 5+41*d1≠0 by lia)
  have r1:=b7 d0 (show 0<5+41*d1 by lia)
  obtain⟨i,ei⟩: ∃i:Nat,(i:Int)=d0%(5+41*d1):=⟨(d0%(5+41*d1)).toNat,ad⟩
  rw[<-ei];have hi:i<prL.length:=by rw[pr_len];lia
  rw[c6 (j:=i) (v:= .int prL[i]) (by rw[dD,bJ hi];rfl)]
  dsimp only;have pr:=fU hi;generalize prL[i]=p at pr⊢;refine⟨cmL ac ac,ad,?_⟩
  unfold b87;walk_at "u";refine⟨ns,p,rfl,hns,kF pr,λxs ok=>⟨?_,?_⟩⟩
  ·unfold aP2;walk_at "u";exact⟨ac,b91 hns ok pr h k4.1 k5.1<|.inl rfl⟩
  ·unfold aP2;walk_at "u";exact⟨ac,b91 hns ok pr h k4.1 k5.1<|.inr rfl⟩
theorem a09:bootBuiltins "sorted"=some (.builtin "sorted"):=af
end M
end
namespace M
open PySem PySem.Spec PyProof.Rows L2
set_option maxHeartbeats 4000000
def top (i:Nat):Stmt:=PySem.Challenge.pw_ringhouse_k72_whole_sees_split.main.body.getD i (.Pass ⟨0,0,0,0⟩)
def nk:NameKind->Bool
 | .local=>true
 | .cell=>true
 | _=>false
def nm (s:Stmt):List Str:=((aJ s).names.filter λx=>nk x.2).map (·.1)
def pm (s:Stmt):List Str:=(nm s).take (nN s).args.length
abbrev fR:Stmt:=top 5
abbrev lM:List Str:=nm fR
abbrev pP:List Str:=pm fR
abbrev yZ:Stmt:=top 7
abbrev b92:List Str:=nm yZ
abbrev aW5:List Str:=pm yZ
abbrev iF:Stmt:=top 8
abbrev tZ:List Str:=nm iF
abbrev qV:List Str:=pm iF
abbrev mM:Stmt:=top 9
abbrev a21:List Str:=nm mM
abbrev zA:List Str:=pm mM
abbrev hR:Stmt:=top 12
abbrev qW:List Str:=nm hR
abbrev pQ:List Str:=pm hR
abbrev j6:Stmt:=top 14
abbrev tE:List Str:=nm j6
abbrev vV:List Str:=pm j6
abbrev iY:Stmt:=top 15
abbrev uY:List Str:=nm iY
abbrev u3:List Str:=pm iY
abbrev lN:Stmt:=top 16
abbrev xU:List Str:=nm lN
abbrev a22:List Str:=pm lN
abbrev iZ:Stmt:=top 17
abbrev uZ:List Str:=nm iZ
abbrev u4:List Str:=pm iZ
abbrev kH:Stmt:=top 19
abbrev zB:List Str:=nm kH
abbrev vW:List Str:=pm kH
abbrev jI:Stmt:=top 20
abbrev vX:List Str:=nm jI
abbrev v4:List Str:=pm jI
abbrev eV:Stmt:=top 21
abbrev jT:List Str:=nm eV
abbrev nL:List Str:=pm eV
abbrev j0:Stmt:=top 22
abbrev v5:List Str:=nm j0
abbrev u5:List Str:=pm j0
abbrev j1:Stmt:=top 24
abbrev v6:List Str:=nm j1
abbrev u6:List Str:=pm j1
abbrev aC3:Stmt:=top 26
abbrev bQ1:List Str:=nm aC3
abbrev b93:List Str:=pm aC3
abbrev zC:Stmt:=top 27
abbrev b94:List Str:=nm zC
abbrev aW6:List Str:=pm zC
abbrev zD:Stmt:=top 28
abbrev b95:List Str:=nm zD
abbrev aW7:List Str:=pm zD
abbrev zE:Stmt:=top 29
abbrev b96:List Str:=nm zE
abbrev aW8:List Str:=pm zE
abbrev lP:Stmt:=top 30
abbrev xV:List Str:=nm lP
abbrev a23:List Str:=pm lP
abbrev aC4:Stmt:=top 31
abbrev bQ2:List Str:=nm aC4
abbrev b97:List Str:=pm aC4
abbrev lQ:Stmt:=top 32
abbrev xW:List Str:=nm lQ
abbrev a24:List Str:=pm lQ
abbrev j7:Stmt:=top 33
abbrev tF:List Str:=nm j7
abbrev vY:List Str:=pm j7
abbrev j8:Stmt:=top 34
abbrev tG:List Str:=nm j8
abbrev vZ:List Str:=pm j8
abbrev qX:Stmt:=top 35
abbrev aC5:List Str:=nm qX
abbrev aK7:List Str:=pm qX
abbrev zF:Stmt:=top 36
abbrev b98:List Str:=nm zF
abbrev aW9:List Str:=pm zF
abbrev qY:Stmt:=top 37
abbrev aC6:List Str:=nm qY
abbrev aK8:List Str:=pm qY
abbrev pR:Stmt:=top 38
abbrev v7:List Str:=["_law_rows","_law_p","_law_g","_law_many","_law_near","_law_found","_law_other","_law_count"]
abbrev zG:List Str:=["_law_rows","_law_p"]
abbrev mO:Stmt:=top 39
abbrev a25:List Str:=nm mO
abbrev zH:List Str:=pm mO
abbrev qZ:Stmt:=top 40
abbrev aK9:List Str:=nm qZ
abbrev PP_law:List Str:=pm qZ
local macro_rules| `(tactic| walk_at "s")=> `(tactic| exact⟨rfl,rfl,rfl,by decide +kernel,rfl,by decide +kernel,by decide +kernel⟩)
theorem zI:bW lM pP (aJ fR):=by walk_at "s"
theorem aC7:bW b92 aW5 (aJ yZ):=by walk_at "s"
theorem cY:bW tZ qV (aJ iF):=by walk_at "s"
theorem nS:bW a21 zA (aJ mM):=by walk_at "s"
theorem zJ:bW qW pQ (aJ hR):=by walk_at "s"
theorem aF1:bW tE vV (aJ j6):=by walk_at "s"
theorem iG:bW uY u3 (aJ iY):=by walk_at "s"
theorem aX0:bW xU a22 (aJ lN):=by walk_at "s"
theorem jK:bW uZ u4 (aJ iZ):=by walk_at "s"
theorem qJ:bW zB vW (aJ kH):=by walk_at "s"
theorem g9:bW vX v4 (aJ jI):=by walk_at "s"
theorem nM:bW jT nL (aJ eV):=by walk_at "s"
theorem gG:bW v5 u5 (aJ j0):=by walk_at "s"
theorem a37:bW v6 u6 (aJ j1):=by walk_at "s"
theorem bY9:bW bQ1 b93 (aJ aC3):=by walk_at "s"
theorem aC8:bW b94 aW6 (aJ zC):=by walk_at "s"
theorem r6:bW b95 aW7 (aJ zD):=by walk_at "s"
theorem zK:bW b96 aW8 (aJ zE):=by walk_at "s"
theorem aX1:bW xV a23 (aJ lP):=by walk_at "s"
theorem a60:bW bQ2 b97 (aJ aC4):=by walk_at "s"
theorem mP:bW xW a24 (aJ lQ):=by walk_at "s"
theorem iH:bW tF vY (aJ j7):=by walk_at "s"
theorem qK:bW tG vZ (aJ j8):=by walk_at "s"
theorem vJ:bW aC5 aK7 (aJ qX):=by walk_at "s"
theorem mQ:bW b98 aW9 (aJ zF):=by walk_at "s"
theorem lU:bW aC6 aK8 (aJ qY):=by walk_at "s"
theorem gK:bW v7 zG (aJ pR):=by walk_at "s"
theorem zL:bW a25 zH (aJ mO):=by walk_at "s"
theorem hV:bW aK9 PP_law (aJ qZ):=by walk_at "s"
structure Zs (mg:Str->Option Value):Prop where
 z0:mg "len"=none
 z1:mg "all"=none
 z2:mg "abs"=none
 z3:mg "max"=none
 z4:mg "list"=none
 z5:mg "reversed"=none
 z6:mg "range"=none
 z7:mg "enumerate"=none
 z8:mg "tuple"=none
 z9:mg "sorted"=none
 z10:mg "any"=none
 z11:mg "min"=none
 z12:mg "int"=none
 z13:mg "zip"=none
abbrev DT (P:Program)(w:World)(K:Frag)(mg:Str->Option Value)(base:Heap)(N:List Str)(q:Str)(t:Stmt)(k:Nat)(u:US):Prop:= ∀{f:Addr} {cdv:Value} {A:Around} {outer:List Env} {s:Shared} {H:Hp} {E:XK},jS k (A.deeper<|envOfC q (aJ t) s.heap.objs.size f cdv)->pB (zQ CX0 P w K mg base N q (aJ t) f cdv A outer s H E).nox (gW t) u
section
variable (P:Program)(w:World)(K:Frag)(mg:Str->Option Value)(base:Heap)
abbrev zM:=Fn P w K mg base "is_ring_poly" pP 1 kD
abbrev aX2:=Fn P w K mg base "cut" aW5 1 uM
abbrev a10:=Fn P w K mg base "poly_parted" qV 2 lJ
abbrev aP4:=Fn P w K mg base "poly_at" zA 1 t5
abbrev pS:=Fn P w K mg base "small_primes" pQ 1 iK
abbrev qL:=Fn P w K mg base "mod_poly" vV 2 gU
abbrev a38:=Fn P w K mg base "mod_parted" u3 4 mV
abbrev aX3:=Fn P w K mg base "scaled" a22 3 pM
abbrev a39:=Fn P w K mg base "inverse_of" u4 1 mT
abbrev aF2:=Fn P w K mg base "split_by" vW 6 q0
abbrev aC9:=Fn P w K mg base "lines_out" v4 5 oV
abbrev vM:=Fn P w K mg base "rootless_parts" nL 2 jB
abbrev a40:=Fn P w K mg base "two_by_two" u5 1 mY
abbrev a41:=Fn P w K mg base "sees_split" u6 7 bZ
abbrev b99:=Fn P w K mg base "_law_cell" b93 1 yM
abbrev bQ3:=Fn P w K mg base "_law_mixed" aW6 1 yL
abbrev aX4:=Fn P w K mg base "_law_draws" aW7 2 uK
abbrev aD0:=Fn P w K mg base "_law_value" aW8 1 uU
abbrev aX5:=Fn P w K mg base "_law_is_prime" a23 1 uQ
abbrev bA0:=Fn P w K mg base "_law_full" b97 1 a57
abbrev aX6:=Fn P w K mg base "_law_rootless" a24 2 pN
abbrev aF3:=Fn P w K mg base "_law_stays_four" vY 2 qC
abbrev aF4:=Fn P w K mg base "_law_deep_parts" vZ 3 qE
abbrev bD9:=Fn P w K mg base "_law_unlike" aK7 1 a03
abbrev bQ4:=Fn P w K mg base "_law_parts" aW9 4 aA9
abbrev bE0:=Fn P w K mg base "_law_spoilt" aK8 2 a07
abbrev aP5:=Fn P w K mg base "_law_exchanged" zG 1 t9
abbrev aP6:=Fn P w K mg base "_law_set_about" zH 1 nR
end
section
variable {P:Program}{w:World}{K:Frag}{mg:Str->Option Value}{base:Heap}
theorem xX (Z:Zs mg){lW:Tok}(eX:mg "GREATEST_PLACE"=some (.int 499 lW)):DT P w K mg base lM "is_ring_poly" fR 0 kE:=λhr=>
 (gZ (PUW.pt<|xB (gE b53 (fN (bP 0) rfl Z.z0) aD)<|xB (gE qQ (fN (bP 0) rfl Z.z0) aD)<|y9<|gE b54 (cX (bP 0)<|pV aD) aD) (gF y8)<|gF<|gX (aZ6 rfl) rfl Z.z1 aZ7 (aG (yI ["c",".acc"] (aJ fR).names lM (oR<|aT 0) (λ_ _ _ _ _ _=>j4) λ_ _ _ _ _ _=>(b13 ou_le (gX bI7 rfl Z.z2 bM6 (aK 0 aB))<|bU8 rfl eX)) aB))
theorem bE1 (Z:Zs mg):DT P w K mg base b92 "cut" yZ 0 a91:=λhr=>
 (cI 1 aC7.nd (fN (bP 0) rfl Z.z0)<|cH (aR3 oC (PUW.pt<|pE (gE qQ (aT 1) aD)<|oO<|gE iD (cX (bP 0)<|aH iC (aT 1) aD) aD)<|bX<|us_g 1 aC7.nd aD iu_sub)<|gF<|nW (aT 0) dH<|dI<|aT 1)
theorem zN (Z:Zs mg)(tH:aX2 P w K mg base):DT P w K mg base tZ "poly_parted" iF 1 lK:=λhr=>
 (cI 2 cY.nd (aH iC (fN (bP 1) rfl Z.z0) aD)<|cI 3 cY.nd (gX (aZ1 rfl) rfl Z.z3 b16 (b5<|aG (aH iC (fN (bP 0) rfl Z.z0)<|aT 2) aB))<|cI 4 cY.nd (eU yD rfl Z.z4 yN (aK 0 aB))<|cI 5 cY.nd (aH dM (bH<|b5 aB)<|aT 3)<|cH (sX 6 cY.nd (bV4 rfl Z.z5 rfl Z.z6 (aK 3 aB))<|cI 7 cY.nd (cX (bP 4)<|aH bE (aT 6)<|aT 2)<|cH (sR 5 (pv 5) (aT 7)<|aT 6)<|bX<|aZ0 oC rfl (bV3 (by rfl) Z.z7<|aK 1 aB) (u9 rfl (dU 8 (cQ cY.nd rfl (Or.inl rfl))<|dU 9 (cQ cY.nd rfl (Or.inl rfl)) lY) (cR<|cR jE)) (bX<|bV2 4 (pv 4) (aH bE (aT 6)<|aT 8) (aH dM (aT 7)<|aT 9) bF3))<|gF<|c7<|aG (fO tH hr<|aG (eU k7 rfl Z.z8 kB (aK 5 aB)) aB)<|aG (fO tH hr<|aG (eU k7 rfl Z.z8 kB (aK 4 aB)) aB) aB)
theorem aF5 (Z:Zs mg):DT P w K mg base a21 "poly_at" mM 0 t6:=λhr=>
 (cI 2 nS.nd aD<|cH (sX 3 nS.nd (bV8 rfl Z.z5 (aK 0 aB))<|bX<|aE3 2 nS.nd<|aH bE (aH dM (aT 2)<|aT 1)<|aT 3)<|bX<|pG 2<|pv 2)
theorem xY (Z:Zs mg){hX:Addr}(gA:mg "SMALL_PRIMES"=some (.ref hX))(p5:KT K hX (T_SMALL_PRIMES.map V.int)):DT P w K mg base qW "small_primes" hR 0 kG:=λhr=>
 (gF<|eU yD rfl Z.z4 yN (aG (bV9 rfl gA p5) aB))
theorem aD1 (Z:Zs mg)(tH:aX2 P w K mg base):DT P w K mg base tE "mod_poly" j6 1 pZ:=λhr=>
 (gF<|fO tH hr<|aG (eU k7 rfl Z.z8 kB (aG (yI ["c","p",".acc"] (aJ j6).names tE (oR<|aT 0) (λ_ _ _ _ _ _=>j4) λ_ _ _ _ _ _=>(aH cJ (aT 0)<|aT 1)) aB)) aB)
theorem a11 (Z:Zs mg)(eJ:qL P w K mg base)(p6:a39 P w K mg base)(nA:a10 P w K mg base)(tI:aX3 P w K mg base):DT P w K mg base uY "mod_parted" iY 3 mW:=λhr=>
 (cI 3 iG.nd (fO eJ hr<|aK 1<|aK 2 aB)<|cI 4 iG.nd (fO p6 hr<|aG (cX (bP 3)<|pV aD)<|aK 2 aB)<|cH (a70 (fO nA hr<|aG (fO eJ hr<|aK 0<|aK 2 aB)<|aG (fO tI hr<|aK 3<|aK 4<|aK 2 aB) aB)<|u9 rfl (dU 5 (cQ iG.nd rfl (Or.inl rfl))<|dU 6 (cQ iG.nd rfl (Or.inl rfl)) lY) (cR<|cR jE))<|gF<|c7<|aG (fO tI hr<|aK 5<|aK 4<|aK 2 aB)<|aG (fO eJ hr<|aK 6<|aK 2 aB) aB)
theorem aP7 (Z:Zs mg)(eJ:qL P w K mg base):DT P w K mg base xU "scaled" lN 2 uN:=λhr=>
 (gF<|fO eJ hr<|aG (eU k7 rfl Z.z8 kB (aG (yI ["c","k",".acc"] (aJ lN).names xU (oR<|aT 0) (λ_ _ _ _ _ _=>j4) λ_ _ _ _ _ _=>(aH dM (aT 1)<|aT 0)) aB))<|aK 2 aB)
theorem a12 (Z:Zs mg):DT P w K mg base uZ "inverse_of" iZ 0 mU:=λhr=>
 (cI 2 jK.nd aD<|cH (sX 3 jK.nd (fE rfl Z.z6 (aG (aH iC (aT 1) aD) aB))<|bX<|aE3 2 jK.nd<|aH cJ (aH dM (aT 2)<|aT 0)<|aT 1)<|bX<|pG 2<|pv 2)
theorem aD2 (Z:Zs mg)(fS:pS P w K mg base)(qM:aC9 P w K mg base)(eJ:qL P w K mg base)(jU:vM P w K mg base):DT P w K mg base zB "split_by" kH 5 qA:=λhr=>
 (gZ (a49 aR7 (aT 1) (bI9 fS hr ac rfl) rfl) (bX bH7)<|cH (a70 (fO qM hr<|aG (fO eJ hr<|aK 0<|aK 1 aB)<|aK 1 aB)<|u9 rfl (dU 2 (cQ qJ.nd rfl (Or.inl rfl))<|dU 3 (cQ qJ.nd rfl (Or.inl rfl)) lY) (cR<|cR jE))<|gF<|aH bE (aT 2)<|fO jU hr<|aK 3<|aK 1 aB)
theorem a42 (Z:Zs mg)(v9:aP4 P w K mg base)(p7:a38 P w K mg base):DT P w K mg base vX "lines_out" jI 4 oW:=λhr=>
 (cI 2 g9.nd (bH aB)<|cI 3 g9.nd (aT 0)<|cH (sX 4 g9.nd (fE rfl Z.z6 (aK 1 aB))<|cI 5 g9.nd aD<|cH (aR3 oC (gE iD (aH cJ (fO v9 hr<|aK 3<|aI2 (pV<|aT 4) aB)<|aT 1) aD)<|cI 3 g9.nd (cX (bH1<|fO p7 hr<|aK 3<|gY (c7<|aK 4<|b5 aB)<|aK 1 aB) aD)<|bX<|us_g 5 g9.nd aD iu_add)<|bX<|aE5 (gE qQ (aT 5) aD)<|bX<|j3 2 (pv 2)<|c7<|gY (c7<|aK 4<|b5 aB)<|aK 5 aB)<|gF<|c7<|aK 2<|aK 3 aB)
theorem v8 (Z:Zs mg)(p8:a40 P w K mg base):DT P w K mg base jT "rootless_parts" eV 1 jC:=λhr=>
 (gZ (gE iD (fN (bP 0) rfl Z.z0) aD) (gF<|bH aB)<|cI 2 nM.nd (u8 (gE iD (fN (bP 0) rfl Z.z0) aD) (fO p8 hr<|aK 0<|aK 1 aB)<|bH aB)<|gZ (gE iD (fN (bP 2) rfl Z.z0) aD) (gF<|bH<|gY (c7<|aK 0<|b5 aB) aB)<|gZ (gE (aZ9 hr.units) (cX (bP 2) aD)<|cX (bP 2) aD) (gF<|bH<|gY (c7<|aG (cX (bP 2) aD)<|b5 aB) aB)<|gF<|yI ["g",".acc"] (aJ eV).names jT (oR<|gX bL2 rfl Z.z9 a09 (aK 2 aB)) (λ_ _ _ _ _ _=>j4) λ_ _ _ _ _ _=>(c7<|aK 0<|b5 aB))
theorem a13 (Z:Zs mg):DT P w K mg base v5 "two_by_two" j0 0 mZ:=λhr=>
 (cH (sX 2 gG.nd (fE rfl Z.z6 (aK 1 aB))<|cI 3 gG.nd (aH cJ (aH iC (cX (bP 0) aD)<|aT 2)<|aT 1)<|cI 4 gG.nd (aH iC (cX (bP 0) aD)<|aH dM (aT 2)<|aT 3)<|bX<|sX 5 gG.nd (fE rfl Z.z6 (aK 1 aB))<|cI 6 gG.nd (aH cJ (aH iC (aT 4)<|aT 5)<|aT 1)<|bX<|aE5 (PUW.pt<|pE (gE iD (aH cJ (aH dM (aT 5)<|aT 6)<|aT 1)<|cX (bP 0) aD)<|oO<|gE iD (aH cJ (aH bE (aH dM (aT 2)<|aT 6)<|aH dM (aT 5)<|aT 3)<|aT 1)<|cX (bP 0) aD)<|gF<|bH<|gY (c7<|aK 5<|aK 2<|b5 aB)<|gY (c7<|aK 6<|aK 3<|b5 aB) aB)<|gF<|bH aB)
theorem a14 (Z:Zs mg)(lX:zM P w K mg base)(fS:pS P w K mg base)(tJ:aF2 P w K mg base):DT P w K mg base v6 "sees_split" j1 6 n5:=λhr=>
 (gZ (PUW.pt<|xB (bT5<|aR2<|fO lX hr<|aK 0 aB)<|y9<|a49 aR7 (aT 1) (bI9 fS hr ac rfl) rfl) (gF y8)<|gF<|b13 (aZ9 hr.units) (gX (aT1 hr.units) rfl Z.z9 a09 (aK 2 aB))<|gX (aT1 hr.units) rfl Z.z9 a09 (aG (fO tJ hr<|aK 0<|aK 1 aB) aB))
theorem bQ5 (Z:Zs mg):DT P w K mg base bQ1 "_law_cell" aC3 0 aN2:=λhr=>
 (gZ (gE iD (fN (bP 0) rfl Z.z0) aD) (gF<|aH dM aD<|aH bE (aT 1) aD)<|gZ (gE b53 (aT 1)<|fN (bP 0) rfl Z.z0) (gF<|cX (bP 0)<|aT 1)<|gF<|aH bE (cX (bP 0)<|aH cJ (aT 1)<|fN (bP 0) rfl Z.z0)<|aH dM aD<|aT 1)
theorem bE2 (Z:Zs mg):DT P w K mg base b94 "_law_mixed" zC 0 a85:=λhr=>
 (cI 3 aC8.nd (aH cJ (aH dM (aH bE (aH bE (aH bE (aT 0)<|aH dM (aH dM aD<|aT 1)<|aT 1)<|aH dM aD<|aT 1) aD) aD) aD)<|cI 3 aC8.nd (aH cJ (aH dM (aT 3)<|aT 3) aD)<|gF<|aH cJ (aH dM (aT 3) aD)<|aT 2)
theorem bE3 (Z:Zs mg)(aQ0:bQ3 P w K mg base):DT P w K mg base b95 "_law_draws" zD 1 a86:=λhr=>
 (cI 3 r6.nd aD<|gZ (gE ou_ge (aT 0)<|aH aM1 aD aD) (bX<|aE3 3 r6.nd<|aH iC (aT 0)<|aH aM1 aD aD)<|cI 4 r6.nd (bH aB)<|cH (sX 5 r6.nd (fE rfl Z.z6 (aG (fN (bP 1) rfl Z.z0) aB))<|bX<|bZ8 (gE qQ (aT 3) aD) (cH (j3 4 (pv 4)<|aH cJ (aT 3)<|cX (bP 1)<|aT 5)<|bX<|aE3 3 r6.nd<|aH bI4 (aT 3)<|cX (bP 1)<|aT 5)<|bX<|j3 4 (pv 4)<|aH cJ (fO aQ0 hr<|aK 0<|aK 5<|aK 2 aB)<|cX (bP 1)<|aT 5)<|bX<|pG 4<|pv 4)
theorem bE4 (Z:Zs mg):DT P w K mg base b96 "_law_value" zE 0 aA4:=λhr=>
 (cI 2 zK.nd aD<|cH (sX 3 zK.nd (bX1 rfl Z.z5 (aK 0 aB))<|bX<|aE3 2 zK.nd<|aH bE (aH dM (aT 2)<|aT 1)<|aT 3)<|bX<|pG 2<|pv 2)
theorem aP8 (Z:Zs mg):DT P w K mg base xV "_law_is_prime" lP 0 uS:=λhr=>
 (gF<|gX (aZ6 rfl) rfl Z.z1 aZ7 (aG (yI ["_law_k","_law_m",".acc"] (aJ lP).names xV (vC rfl Z.z6 (b5<|b5 aB)) (λ_ _ _ _ _ _=>j4) λ_ _ _ _ _ _=>(pu_or (b13 b54 (aH cJ (aT 1)<|aT 0) aD)<|bH5<|b13 iD (aT 1)<|aT 0)) aB))
theorem bQ6 (Z:Zs mg):DT P w K mg base bQ2 "_law_full" aC4 0 aO5:=λhr=>
 (cI 3 a60.nd (aH dM (bH<|b5 aB)<|aH iC (aH bE (fN (bP 0) rfl Z.z0)<|fN (bP 1) rfl Z.z0) aD)<|cH (sX 4 a60.nd (fE rfl Z.z6 (aG (fN (bP 0) rfl Z.z0) aB))<|bX<|sX 5 a60.nd (fE rfl Z.z6 (aG (fN (bP 1) rfl Z.z0) aB))<|bX<|sR 3 (pv 3) (aH cJ (aH bE (cX (bP 3)<|aH bE (aT 4)<|aT 5)<|aH dM (cX (bP 0)<|aT 4)<|cX (bP 1)<|aT 5)<|aT 2)<|aH bE (aT 4)<|aT 5)<|gF<|eU k7 rfl Z.z8 kB (aK 3 aB))
theorem aP9 (Z:Zs mg)(nT:aD0 P w K mg base):DT P w K mg base xW "_law_rootless" lQ 1 uW:=λhr=>
 (cH (sX 3 mP.nd (fE rfl Z.z6 (b5 aB))<|cI 4 mP.nd (bH<|b5 aB)<|cH (sX 5 mP.nd (aH7 rfl Z.z6 (aG (aH iC (aT 1) aD)<|aI2 (pV aD)<|aI2 (pV aD) aB))<|bX<|aE3 4 mP.nd<|aH bE (bH<|aG (aH cJ (aH bE (cX (bP 0)<|aT 5)<|aH dM (aH dM (aT 3)<|aH bE (aT 5) aD)<|aH bE (aT 3) aD)<|aT 2) aB)<|aT 4)<|bX<|aE5 (aR2<|gX (aZ6 rfl) rfl Z.z1 aZ7 (aG (yI ["_law_r","_law_found","_law_p",".acc"] (aJ lQ).names xW (fE rfl Z.z6 (aK 2 aB)) (λ_ _ _ _ _ _=>j4) λ_ _ _ _ _ _=>(b13 b54 (aH cJ (fO nT hr<|aK 1<|aK 0 aB)<|aT 2) aD)) aB))<|gF<|eU k7 rfl Z.z8 kB (aK 4 aB))<|gF<|u8 (gE iD (aT 2) aD) (c7<|b5<|b5<|b5 aB) bG9)
theorem aD3 (Z:Zs mg)(nT:aD0 P w K mg base):DT P w K mg base tF "_law_stays_four" j7 1 qD:=λhr=>
 (gZ (aR2<|gX (cu_any rfl) rfl Z.z10 bt_any (aG (yI ["_law_r","_law_f","_law_p",".acc"] (aJ j7).names tF (fE rfl Z.z6 (aK 1 aB)) (λ_ _ _ _ _ _=>j4) λ_ _ _ _ _ _=>(b13 iD (aH cJ (fO nT hr<|aK 1<|aK 0 aB)<|aT 2) aD)) aB)) (gF y8)<|cH (sX 2 iH.nd (vC rfl Z.z6 (b5<|aK 1 aB))<|bX<|sX 3 iH.nd (fE rfl Z.z6 (aK 1 aB))<|cI 4 iH.nd (eU yD rfl Z.z4 yN (aK 0 aB))<|cH (sX 5 iH.nd (aH7 rfl Z.z6 (b5<|aI2 (pV aD)<|aI2 (pV aD) aB))<|cI 6 iH.nd (cX (bP 4)<|aH bE (aT 5) aD)<|cH (sR 4 (pv 4) (aH iC (cX (bP 4)<|aH bE (aT 5) aD)<|aH dM (aT 6)<|aT 3)<|aH bE (aT 5) aD)<|bX<|sR 4 (pv 4) (aH iC (cX (bP 4)<|aT 5)<|aH dM (aT 6)<|aT 2)<|aT 5)<|bX<|aE5 (PUW.pt<|pE (gE iD (aH cJ (cX (bP 4) aD)<|aT 1) aD)<|oO<|gE iD (aH cJ (cX (bP 4) aD)<|aT 1) aD)<|gF y8)<|gF y8)
theorem aD4 (Z:Zs mg)(nT:aD0 P w K mg base)(tK:aF3 P w K mg base):DT P w K mg base tG "_law_deep_parts" j8 2 qF:=λhr=>
 (gZ (PUW.pt<|pE (gE iD (cX (bP 0) aD) aD)<|pE (gE qQ (aT 1) aD)<|oO<|aS6<|aT 2) (gF<|bH<|aG (bH<|aK 2<|b5 aB)<|aG (bH<|gY (c7<|aG (aH cJ (fO nT hr<|aK 2<|b5 aB)<|aT 1)<|aG (aH cJ (aH bE (cX (bP 2) aD) aD)<|aT 1)<|b5 aB)<|b5 aB) aB)<|gZ (PUW.pt<|pE (gE iD (cX (bP 0) aD) aD)<|oO<|gE b53 (aT 1) aD) (bX<|sX 3 qK.nd (fE rfl Z.z6 (b5 aB))<|cI 4 qK.nd (aH bE (yI ["_law_k","_law_draws_here","_law_step","_law_p",".acc"] (aJ j8).names tG (vC rfl Z.z6 (b5<|b5 aB)) (λ_ _ _ _ _ _=>j4) λ_ _ _ _ _ _=>(aH cJ (aH bE (cX (bP 1)<|aT 0)<|aH dM (aT 2)<|aH bE (aT 0)<|aT 2)<|aT 3))<|bH<|b5 aB)<|bX<|aE5 (aR2<|fO tK hr<|aK 4<|aK 1 aB)<|gF<|bH<|aG (bH<|aG (eU k7 rfl Z.z8 kB (aK 4 aB))<|b5 aB) aB)<|gF bG9)
theorem b35 (Z:Zs mg):DT P w K mg base aC5 "_law_unlike" qX 0 a04:=λhr=>
 (cI 2 vJ.nd (aH bE aD<|aH cJ (cX (bP 0) aD)<|gX (aZ1 rfl) rfl Z.z3 b16 (b5<|aG (aH iC (aT 1) aD) aB))<|cI 3 vJ.nd (gX (cu_min rfl) rfl Z.z11 bt_min (aK 1<|aG (aH iC (cX (bP 0) aD) aD) aB))<|bC7 (bL6 (N:=["_law_k","_law_draws_here","_law_step","_law_p",".acc"]) (cap:=[none,some 0,some 2,some 1,none]) (last:=4) (esc:=(aJ qX).names) (XN:=aC5) ac rfl rfl af ac rfl (fE rfl Z.z6 (aK 3 aB)) (λ_ _ _ _ _ _=>(yA 0<|cQ (show Nodup (["_law_k","_law_draws_here","_law_step","_law_p",".acc"]:List Str)by decide +kernel) rfl (Or.inl rfl))) (λ_ _ _ _ _ _=>(bH<|gY (c7<|aG (aH cJ (aH bE (cX (bP 1) aD)<|aH dM (aT 0)<|aT 2)<|aT 3)<|b5 aB)<|b5 aB)) (cQ vJ.nd rfl (Or.inl rfl)))<|bW7 (up_if (PUW.pt<|xB (gE iD (aT 3) aD)<|y9<|PUW.pt<|pE (gE iD (aT 3) aD)<|oO<|gE iD (cX (bP 0) aD) aD) (up_one<|bW8 (pv 4) aD (aH cJ (cX (bP 0) aD)<|aT 3) aD λ_ _=>rfl) up_nil)<|bX<|pG 4<|pv 4)
theorem bE5 (Z:Zs mg)(tL:aX4 P w K mg base)(xZ:b99 P w K mg base)(aD5:bD9 P w K mg base)(tM:aX6 P w K mg base)(tN:aF4 P w K mg base):DT P w K mg base b98 "_law_parts" zF 3 aB0:=λhr=>
 (cI 2 mQ.nd (fO tL hr<|aG (fO xZ hr<|aK 0<|b5 aB)<|aG (bH<|b5<|b5<|b5<|b5<|b5<|b5<|b5 aB)<|b5 aB)<|cI 3 mQ.nd (c7<|aG (aH cJ (cX (bP 2) aD)<|aT 1)<|b5 aB)<|cI 4 mQ.nd (c7<|aG (aH cJ (cX (bP 2) aD)<|aT 1)<|b5 aB)<|gZ (gE (aZ9 hr.units) (aT 4)<|aT 3) (bX<|aE3 4 mQ.nd<|c7<|aG (aH cJ (aH bE (cX (bP 2) aD) aD)<|aT 1)<|b5 aB)<|gZ (gE qQ (cX (bP 2) aD) aD) (gF<|fO aD5 hr<|aK 2<|aK 1 aB)<|gZ (gE iD (cX (bP 2) aD) aD) (gF<|bH<|aG (bH<|aK 3<|aG (aH bE aD<|aH cJ (cX (bP 2) aD) aD) aB) aB)<|gZ (gE iD (cX (bP 2) aD) aD) (gF<|bH<|aG (bH<|aK 3<|aG (aH bE aD<|aH cJ (cX (bP 2) aD) aD) aB)<|aG (bH<|aK 4<|aG (aH bE aD<|aH bI4 (cX (bP 2) aD) aD) aB) aB)<|cI 5 mQ.nd (aH bE aD<|aH cJ (cX (bP 2) aD) aD)<|cI 6 mQ.nd (fO tM hr<|aG (bH<|aG (cX (bP 2) aD)<|aG (cX (bP 2) aD)<|aG (cX (bP 2) aD) aB)<|aK 5<|aK 1 aB)<|gZ (gE qQ (cX (bP 2) aD) aD) (cI 7 mQ.nd (fO tN hr<|aK 2<|aK 1<|aG (fO tM hr<|aG (bH<|aG (cX (bP 2) aD)<|aG (cX (bP 2) aD) aB)<|b5<|aK 1 aB) aB)<|bX<|aE5 (aS6<|aT 7)<|bX<|pG 7<|pv 7)<|gZ (bW0<|aT 6) (gF<|bH<|aG (bH<|aK 3<|b5 aB)<|aG (bH<|aK 4<|b5 aB) aB)<|gZ (PUW.pt<|pE (gE qQ (cX (bP 2) aD) aD)<|oO<|gE iD (fN (bP 6) rfl Z.z0) aD) (gF<|bH<|aG (bH<|aK 6<|b5 aB) aB)<|gZ (PUW.pt<|xB (gE iD (fN (bP 6) rfl Z.z0) aD)<|y9<|gE iD (cX (bP 2) aD) aD) (gF<|bH<|aG (bH<|aK 3<|b5 aB)<|aG (bH<|aK 6<|b5 aB) aB)<|gF<|u8 (gE iD (cX (bP 2) aD) aD) (bH<|aG (bH<|aK 6<|b5 aB) aB)<|bH<|aG (bH<|aK 3<|b5 aB)<|aG (bH<|aK 6<|b5 aB) aB)
theorem b36 (Z:Zs mg)(a15:bA0 P w K mg base):DT P w K mg base aC6 "_law_spoilt" qY 1 a08:=λhr=>
 (cH (a70 (cX (bP 0) aD)<|u9 rfl (dU 3 (cQ lU.nd rfl (Or.inl rfl))<|dU 4 (cQ lU.nd rfl (Or.inl rfl)) lY) (cR<|cR jE))<|cI 5 lU.nd (bH<|aG (fY (bP 0) (dI aD) dH)<|aG (aH bE (aT 0)<|fY (bP 0) dH<|dI aD)<|aG (aH bE (bH<|gY (c7<|aK 3<|aG (aH bE (aT 4) aD) aB) aB)<|fY (bP 0) (dI aD) dH)<|aG (aH bE (bH<|gY (c7<|aK 3<|aG (aH aM1 aD aD) aB) aB)<|fY (bP 0) (dI aD) dH)<|aG (bH aB) aB)<|cI 5 lU.nd (aH bE (aT 5)<|bH<|aG (aH bE (aT 0)<|bH<|gY (c7<|gY (c7<|b5<|b5 aB)<|b5 aB) aB)<|aG (aH bE (bH<|gY (c7<|aG (aH bE (c7<|aG (aH bE (cX (bP 3) aD)<|aT 2) aB)<|nW (aT 3) (dI aD) dH)<|aK 4 aB) aB)<|fY (bP 0) (dI aD) dH) aB)<|cI 5 lU.nd (aH bE (aT 5)<|bH<|aG (bH<|gY (c7<|aK 1<|b5 aB) aB)<|aG (aH bE (aT 0)<|bH<|gY (c7<|gY (c7<|b5 aB)<|b5 aB) aB) aB)<|cH (uF (js:=[0]) (N:=["_law_bad","_law_rows",".acc"]) (cap:=[none,some 0,none]) (last:=2) (esc:=(aJ qY).names) (XN:=aC6) 5 rfl rfl af ac ac rfl (oR<|aT 5) (λ_ _ _ _ _ _=>(yA 0<|cQ (show Nodup (["_law_bad","_law_rows",".acc"]:List Str)by decide +kernel) rfl (Or.inl rfl))) (λ_ _ _ _ _ _=>(b57<|gE (bK4 hr.units) (aT 0)<|aT 1)) (λ_ _ _ _ _ _=>(aT 0)) (cQ lU.nd rfl (Or.inl rfl)) (il (n:=6) rfl ac))<|gZ (gE qQ (aT 4) aD) (bX<|j3 5 (pv 5)<|aH bE (bH<|gY (c7<|aK 3<|aG (aH iC (aT 4) aD) aB)<|gY (c7<|aK 3<|b5 aB) aB)<|fY (bP 0) (dI aD) dH)<|gZ (gE qQ (fN (bP 0) rfl Z.z0) aD) (bX<|j3 5 (pv 5)<|aH bE (bH<|gY (c7<|aG (fO a15 hr<|aK 3<|aG (cX (bH1<|cX (bP 0) aD) aD)<|aK 2 aB)<|b5 aB) aB)<|fY (bP 0) (dI aD) dH)<|bX<|pG 5<|pv 5)
theorem aF6 (Z:Zs mg):DT P w K mg base v7 "_law_exchanged" pR 0 tD:=λhr=>
 (cH (a70 (cX (bP 0) aD)<|u9 rfl (dU 2 (cQ gK.nd rfl (Or.inl rfl))<|dU 3 (cQ gK.nd rfl (Or.inl rfl)) lY) (cR<|cR jE))<|cI 4 gK.nd (c7<|aG (aH cJ (aH bE (cX (bP 2) aD) aD)<|aT 1)<|b5 aB)<|gZ (gE qQ (fN (bP 2) rfl Z.z0) aD) (bX<|aE3 4 gK.nd<|aH bE (c7<|aG (aH cJ (aH dM (cX (bP 2) aD) aD)<|aT 1)<|aG (aH cJ (aH dM (cX (bP 2) aD) aD)<|aT 1) aB)<|nW (aT 2) (dI aD) dH)<|cI 5 gK.nd (bH aB)<|gZ (a49 (bC9 hr.units) (aT 4) (a74 (js:=[]) (N:=["_law_one","_law_count",".acc"]) (cap:=[none,none,none]) (last:=2) (esc:=(aJ pR).names) (XN:=v7) rfl rfl af ac ac rfl (oR<|aT 0) (λ_ _ _ _ _ _=>(u9 rfl (dU 0 (cQ (show Nodup (["_law_one","_law_count",".acc"]:List Str)by decide +kernel) rfl (Or.inl rfl))<|dU 1 (cQ (show Nodup (["_law_one","_law_count",".acc"]:List Str)by decide +kernel) rfl (Or.inl rfl)) lY) (cR<|cR jE))) (λ_ _ _ _ _ _=>j4) (λ_ _ _ _ _ _=>(aT 0))) rfl) (bX<|j3 5 (pv 5)<|aH bE (bH<|gY (c7<|aK 4<|aK 3 aB) aB)<|fY (bP 0) (dI aD) dH)<|gZ (gE qQ (fN (bP 0) rfl Z.z0) aD) (cH (a70 (cX (bP 0) aD)<|u9 rfl (dU 6 (cQ gK.nd rfl (Or.inl rfl))<|dU 7 (cQ gK.nd rfl (Or.inl rfl)) lY) (cR<|cR jE))<|cH (j3 5 (pv 5)<|aH bE (fY (bP 0) dH<|dI aD)<|fY (bP 0) dH<|dI<|aH iC (fN (bP 0) rfl Z.z0) aD)<|cH (j3 5 (pv 5)<|aH bE (aH bE (bH<|gY (c7<|aK 6<|aG (aH bE (aT 7) aD) aB) aB)<|fY (bH1<|bH<|gY (c7<|aK 2<|aG (aH iC (aT 3) aD) aB) aB) dH<|dI<|eU cu_int rfl Z.z12 bt_int (aG (b13 qQ (aT 3) aD) aB))<|fY (bP 0) (dI aD) dH)<|bX<|aE5 (gE b54 (aT 3)<|aT 7)<|bX<|j3 5 (pv 5)<|aH bE (bH<|gY (c7<|aK 2<|aK 7 aB)<|gY (c7<|aK 6<|aK 3 aB) aB)<|fY (bP 0) (dI aD) dH)<|bX<|pG 5<|pv 5)
theorem aF7 (Z:Zs mg):DT P w K mg base a25 "_law_set_about" mO 0 t7:=λhr=>
 (cI 2 zL.nd (aH cJ (aT 1)<|gX (aZ1 rfl) rfl Z.z3 b16 (b5<|aG (fN (bP 0) rfl Z.z0) aB))<|gF<|aH bE (fY (bP 0) (dI<|aT 2) dH)<|fY (bP 0) dH<|dI<|aT 2)
theorem bZ0 (Z:Zs mg)(tL:aX4 P w K mg base)(xZ:b99 P w K mg base)(y3:aX5 P w K mg base)(aQ1:bQ4 P w K mg base)(a15:bA0 P w K mg base)(pT:aP6 P w K mg base)(eK:a41 P w K mg base)(aD6:bE0 P w K mg base)(vA:aP5 P w K mg base):DT P w K mg base aK9 "law" qZ 7 aP3:=λhr=>
 (cI 1 hV.nd (fO tL hr<|aG (fO xZ hr<|aK 0<|b5 aB)<|aG (bH<|b5<|b5<|b5<|b5<|b5<|b5 aB)<|b5 aB)<|cH (uF (js:=[]) (N:=["_law_m",".acc"]) (cap:=[none,none]) (last:=1) (esc:=(aJ qZ).names) (XN:=aK9) 2 rfl rfl af ac ac rfl (vC rfl Z.z6 (b5<|b5 aB)) (λ_ _ _ _ _ _=>(yA 0<|cQ (show Nodup (["_law_m",".acc"]:List Str)by decide +kernel) rfl (Or.inl rfl))) (λ_ _ _ _ _ _=>(b57<|aR2<|fO y3 hr<|aK 0 aB)) (λ_ _ _ _ _ _=>(aT 0)) (cQ hV.nd rfl (Or.inl rfl)) (il (n:=14) rfl ac))<|cI 3 hV.nd (cX (bP 2)<|aH cJ (cX (bP 1) aD)<|aH bE aD<|aH dM aD<|cX (bP 1) aD)<|cI 4 hV.nd (fO aQ1 hr<|aK 0<|aK 3 aB)<|cI 5 hV.nd (c7<|b5 aB)<|cH (aZ0 oC rfl (oR<|aT 4) (b67 rfl (dU 6 (cQ hV.nd rfl (Or.inl rfl))<|dU 7 (cQ hV.nd rfl (Or.inl rfl)) lY) (cR<|cR jE)) (bX<|sX 8 hV.nd (fE rfl Z.z6 (aK 7 aB))<|bX<|aE3 5 hV.nd<|fO a15 hr<|aK 5<|aK 6<|aK 3 aB))<|cI 9 hV.nd (fO tL hr<|aG (fO xZ hr<|aK 0<|b5 aB)<|aG (bH<|b5<|b5<|b5<|b5 aB)<|b5 aB)<|cI 2 hV.nd (nW (aT 5) dH<|dI<|aH iC (fN (bP 5) rfl Z.z0) aD)<|cI 5 hV.nd (aH bE (eU k7 rfl Z.z8 kB (aG (a74 (js:=[3]) (N:=["_law_a","_law_b","_law_p",".acc"]) (cap:=[none,none,some 3,none]) (last:=3) (esc:=(aJ qZ).names) (XN:=aK9) rfl rfl af ac ac rfl (ui_zip (by rfl) Z.z13<|aK 2<|aK 9 aB) (λ_ _ _ _ _ _=>(u9 rfl (dU 0 (cQ (show Nodup (["_law_a","_law_b","_law_p",".acc"]:List Str)by decide +kernel) rfl (Or.inl rfl))<|dU 1 (cQ (show Nodup (["_law_a","_law_b","_law_p",".acc"]:List Str)by decide +kernel) rfl (Or.inl rfl)) lY) (cR<|cR jE))) (λ_ _ _ _ _ _=>j4) (λ_ _ _ _ _ _=>(aH bE (aT 0)<|aH dM (aT 2)<|aH iC (aT 1) aD))) aB))<|c7<|b5 aB)<|cI 5 hV.nd (eU k7 rfl Z.z8 kB (aG (yI ["_law_a","_law_p",".acc"] (aJ qZ).names aK9 (oR<|aT 5) (λ_ _ _ _ _ _=>j4) λ_ _ _ _ _ _=>(u8 (gE b53 (gX bI7 rfl Z.z2 bM6 (aK 0 aB)) aD) (aT 0)<|aH cJ (aT 0)<|aT 1)) aB))<|cH (uF (js:=[]) (N:=["_law_g","_law_many",".acc"]) (cap:=[none,none,none]) (last:=2) (esc:=(aJ qZ).names) (XN:=aK9) 10 rfl rfl af ac ac rfl (oR<|aT 4) (λ_ _ _ _ _ _=>(b67 rfl (dU 0 (cQ (show Nodup (["_law_g","_law_many",".acc"]:List Str)by decide +kernel) rfl (Or.inl rfl))<|dU 1 (cQ (show Nodup (["_law_g","_law_many",".acc"]:List Str)by decide +kernel) rfl (Or.inl rfl)) lY) (cR<|cR jE))) (λ_ _ _ _ _ _=>j4) (λ_ _ _ _ _ _=>(c7<|aK 0<|aK 1 aB)) (cQ hV.nd rfl (Or.inl rfl)) (il (n:=14) rfl ac))<|cI 10 hV.nd (fO pT hr<|aK 10<|aG (cX (bP 1) aD) aB)<|cI 11 hV.nd (u8 (gE iD (cX (bP 1) aD) aD) (b62 (bP 10)<|pV aD)<|eU yD rfl Z.z4 yN (aK 10 aB))<|cI 12 hV.nd (eU yD rfl Z.z4 yN (aK 11 aB))<|gZ (PUW.pt<|xB (uI<|fO eK hr<|aK 5<|aK 3<|aK 11 aB)<|xB (gE (bK4 hr.units) (aT 11)<|aT 12)<|y9<|uI<|fO eK hr<|aK 5<|aK 3<|aG (b62 (bP 10)<|pV aD) aB) (gF y8)<|cH (sX 13 hV.nd (oR<|aH bE (fO aD6 hr<|aK 10<|aK 5<|aK 3 aB)<|fO vA hr<|aK 10<|aK 3 aB)<|bX<|aE5 (uI<|fO eK hr<|aK 5<|aK 3<|aG (fO pT hr<|aK 13<|aG (cX (bP 1) aD) aB) aB)<|gF y8)<|cH (sX 13 hV.nd (oR<|bH<|b5<|b5<|aI2 (pV<|aT 3)<|b5<|aG (aH dM (aT 3) aD)<|b5<|aG (aH aM1 aD aD) aB)<|bX<|aE5 (uI<|fO eK hr<|aK 5<|aK 13<|aK 10 aB)<|gF y8)<|gZ (uI<|fO eK hr<|aG (aH bE (c7<|aG (aH bE (cX (bP 5) aD)<|aH dM aD<|aT 3) aB)<|nW (aT 5) (dI aD) dH)<|aK 3<|aK 10 aB) (gF y8)<|gF<|pu_and (bL3<|fO eK hr<|aG (aH bE (nW (aT 5) (dI aD) dH)<|c7<|b5 aB)<|aK 3<|aK 10 aB)<|bH5<|bL3<|fO eK hr<|gY (c7<|b5<|b5 aB)<|aK 3<|aG (bH<|gY (c7<|gY (c7<|b5<|b5 aB)<|b5 aB) aB) aB)
end
theorem lC {P:List Value->Prop}{n:Nat}(h: ∀a us,us.length=n->P (a::us)): ∀us:List Value,us.length=n+1->P us:=λus=>us.casesOn (λe=>nomatch e) λa us e=>h a us (Nat.succ.inj e)
theorem lN0 {P:List Value->Prop}(h:P []): ∀us:List Value,us.length=0->P us:=λus=>us.casesOn (λ_=>h) λ_ _ e=>nomatch e
local macro_rules| `(tactic| walk_at "b0")=> `(tactic| exact λ_ _ _ _ _ _=>lN0 rfl)
theorem lN1 {P:List Value->Prop}(h: ∀a0,P [a0]): ∀us:List Value,us.length=1->P us:=lC λa0=>lN0 (h a0)
local macro_rules| `(tactic| walk_at "b1")=> `(tactic| exact λ_ _ _ _ _ _=>lN1 λ_=>rfl)
theorem lN2 {P:List Value->Prop}(h: ∀a0 a1,P [a0,a1]): ∀us:List Value,us.length=2->P us:=lC λa0=>lC λa1=>lN0 (h a0 a1)
local macro_rules| `(tactic| walk_at "b2")=> `(tactic| exact λ_ _ _ _ _ _=>lN2 λ_ _=>rfl)
theorem lN3 {P:List Value->Prop}(h: ∀a0 a1 a2,P [a0,a1,a2]): ∀us:List Value,us.length=3->P us:=lC λa0=>lC λa1=>lC λa2=>lN0 (h a0 a1 a2)
local macro_rules| `(tactic| walk_at "b3")=> `(tactic| exact λ_ _ _ _ _ _=>lN3 λ_ _ _=>rfl)
local macro_rules| `(tactic| walk_at "n")=> `(tactic| (intro _ _ h;repeat (first| (obtain⟨e,_⟩:=h;subst e;rfl)|obtain⟨_,h⟩:=h)))
structure FD where
 oc:Value
 od:Option Addr
 kV:Value
 dc:Value
 pm:Value
 an:Option Addr
 cd:Value
 ct:Value
 sl:Array (Option Value)
abbrev jJ (K:Frag)(x y:Str)(s:Stmt)(f:Addr):Prop:= ∃d:FD,nsIn K mainGlobals y=some (some<|.ref f)/\K.lookup f=some ⟨d.oc,d.od,.func<|fnOf x x (nN s) (gW s) (aJ s) .none d.kV d.dc d.pm d.an d.cd d.ct,d.sl⟩/\codeIn K d.cd x=true/\keepIn K (.ref f)=true
theorem fnAt {K:Frag}{x y:Str}{s:Stmt}{f:Addr}{oc:Value}{od:Option Addr}{kV dc pm:Value}{an:Option Addr}{cd ct:Value}{sl:Array (Option Value)}(a:nsIn K mainGlobals y=some (some<|.ref f))(b:K.lookup f=some ⟨oc,od,.func<|fnOf x x (nN s) (gW s) (aJ s) .none kV dc pm an cd ct,sl⟩)(c:codeIn K cd x=true)(k:keepIn K (.ref f)=true):jJ K x y s f:=⟨⟨oc,od,kV,dc,pm,an,cd,ct,sl⟩,a,b,c,k⟩
theorem bQ7 {K:Frag}{x y:Str}{s:Stmt}{f:Addr}(p:jJ K x y s f): ∃fd,Fun K x x s f fd/\nsIn K mainGlobals y=some (some<|.ref f):=let ⟨_,a,b,c,k⟩:=p;⟨_,bG8 b c k,a⟩
section
variable {P:Program}{w:World}{K:Frag}{mg:Str->Option Value}{base h:Heap}(X:K.In h)(G:h.Ns mainGlobals mg){x y:Str}{st:Stmt}{f:Addr}{N ps:List Str}{k:Nat}(p:jJ K x y st f)(b: ∀(kV doc pm:Value) (an:Option Addr) (cdv ct:Value) (us:List Value),us.length=ps.length->bindArgs (fnOf x x (nN st) (gW st) (aJ st) .none kV doc pm an cdv ct) ⟨us,[]⟩=pure (ps.zip us))(S:bW N ps (aJ st))
include X G p b S
theorem fn_b {φ:Φ}(len: ∀ds Q,φ ds Q->ds.length=ps.length){t:US}(der: ∀(cdv:Value) (A:Around) (outer:List Env) (s:Shared) (H:Hp) (E:XK),jS k (A.deeper<|envOfC x (aJ st) s.heap.objs.size f cdv)->pB (zQ CX0 P w K mg base N x (aJ st) f cdv A outer s H E).nox (gW st) t)(rd: ∀ds Q,φ ds Q->t {nx:=λ_=>Q (.pu .non),rt:=Q} (init N ds)):Fn P w K mg base y ps (k+1) φ:=
 let ⟨_,U,m⟩:=bQ7 p
 Fn.mkA U (oH X G m) (U.binds b) S len der rd
theorem fnX_b {φ:ΦX}(q:x=y)(len: ∀ds Q Ex,φ ds Q Ex->ds.length=ps.length){t:USX}(der: ∀(cdv:Value) (A:Around) (outer:List Env) (s:Shared) (H:Hp) (E:XK),jS k (A.deeper<|envOfC x (aJ st) s.heap.objs.size f cdv)->bL9 (zQ (CXr P w base) P w K mg base N x (aJ st) f cdv A outer s H E) E (gW st) t)(rd: ∀ds Q Ex,φ ds Q Ex->t Ex {nx:=λ_=>Q (.pu .non),rt:=Q} (init N ds)):FnX P w K mg base y ps (k+1) φ:=
 let ⟨_,U,m⟩:=bQ7 p
 q▸FnX.mk' U (oH X G<|q▸m) (U.binds b) S len der rd
end
theorem all_mk {l:PySem.W.OpenLaw}{w:World}{K:Frag}{h:Heap}{mg:Str->Option Value}{fa f1 f2 f3 f4 f5 f6 f7 f8 f9 f10 f11 f12 f13 f14 f15 f16 f17 f18 f19 f20 f21 f22 f23 f24 f25 f26 f27 f28 f29 hX:Addr}(X:K.In h)(G:h.Ns mainGlobals mg)(hfa:mg "law"=some (.ref fa))
  {a43:Option Addr} {a44:Array (Option Value)} {lW:Tok} {a16:Array Value} {n_SMALL_PRIMES:Nat}
  (P1:jJ K "is_ring_poly" "is_ring_poly" fR f1)
  (P2:jJ K "cut" "cut" yZ f2)
  (P3:jJ K "poly_parted" "poly_parted" iF f3)
  (P4:jJ K "poly_at" "poly_at" mM f4)
  (P5:jJ K "small_primes" "small_primes" hR f5)
  (P6:jJ K "mod_poly" "mod_poly" j6 f6)
  (P7:jJ K "mod_parted" "mod_parted" iY f7)
  (P8:jJ K "scaled" "scaled" lN f8)
  (P9:jJ K "inverse_of" "inverse_of" iZ f9)
  (P10:jJ K "split_by" "split_by" kH f10)
  (P11:jJ K "lines_out" "lines_out" jI f11)
  (P12:jJ K "rootless_parts" "rootless_parts" eV f12)
  (P13:jJ K "two_by_two" "two_by_two" j0 f13)
  (P14:jJ K "sees_split" "sees_split" j1 f14)
  (P15:jJ K "_law_cell" "_law_cell" aC3 f15)
  (P16:jJ K "_law_mixed" "_law_mixed" zC f16)
  (P17:jJ K "_law_draws" "_law_draws" zD f17)
  (P18:jJ K "_law_value" "_law_value" zE f18)
  (P19:jJ K "_law_is_prime" "_law_is_prime" lP f19)
  (P20:jJ K "_law_full" "_law_full" aC4 f20)
  (P21:jJ K "_law_rootless" "_law_rootless" lQ f21)
  (P22:jJ K "_law_stays_four" "_law_stays_four" j7 f22)
  (P23:jJ K "_law_deep_parts" "_law_deep_parts" j8 f23)
  (P24:jJ K "_law_unlike" "_law_unlike" qX f24)
  (P25:jJ K "_law_parts" "_law_parts" zF f25)
  (P26:jJ K "_law_spoilt" "_law_spoilt" qY f26)
  (P27:jJ K "_law_exchanged" "_law_exchanged" pR f27)
  (P28:jJ K "_law_set_about" "_law_set_about" mO f28)
  (P29:jJ K "law" "law" qZ f29)
  (bQ8:nsIn K mainGlobals "len"=some none)
  (bQ9:nsIn K mainGlobals "all"=some none)
  (bR0:nsIn K mainGlobals "abs"=some none)
  (bR1:nsIn K mainGlobals "max"=some none)
  (b37:nsIn K mainGlobals "list"=some none)
  (y4:nsIn K mainGlobals "reversed"=some none)
  (aQ2:nsIn K mainGlobals "range"=some none)
  (vB:nsIn K mainGlobals "enumerate"=some none)
  (aQ3:nsIn K mainGlobals "tuple"=some none)
  (aD7:nsIn K mainGlobals "sorted"=some none)
  (bR2:nsIn K mainGlobals "any"=some none)
  (bR3:nsIn K mainGlobals "min"=some none)
  (bR4:nsIn K mainGlobals "int"=some none)
  (bR5:nsIn K mainGlobals "zip"=some none)
  (eX:nsIn K mainGlobals "GREATEST_PLACE"=some (some<|.int 499 lW))
  (gA:nsIn K mainGlobals "SMALL_PRIMES"=some (some<|.ref hX))
  (nB:K.lookup hX=some ⟨.type "tuple",a43,.seq a16 n_SMALL_PRIMES,a44⟩)
  (nE:a16.size<=sizeLine)
  (nG:Vals (T_SMALL_PRIMES.map V.int) a16.toList) :
  ∃fd:FuncData,(∀(s:Shared) (v:Value),BindsTo s fd ⟨[v],[]⟩ [("_law_script",v)])/\ ∀base:Heap,K.In base->base.Ns mainGlobals mg->xA l.prog w K mg base CX0 8 fa fd ["_law_script"] (spP K aH0):=by
 have h29:=P29.choose_spec;have e:=hfa.symm.trans (oH X G h29.1);cases e;have Z:Zs mg:=⟨dY X G bQ8,dY X G bQ9,dY X G bR0,dY X G bR1,dY X G b37,dY X G y4,dY X G aQ2,dY X G vB,dY X G aQ3,dY X G aD7,dY X G bR2,dY X G bR3,dY X G bR4,dY X G bR5⟩;have eX:=oH X G eX;have gA:=oH X G gA;have p5:KT K hX (T_SMALL_PRIMES.map V.int):=kt_of nB nE nG;have U29:=bG8 (st:=qZ) h29.2.1 h29.2.2.1 h29.2.2.2
 refine⟨fnOf "law" "law" (nN qZ) (gW qZ) (aJ qZ) .none P29.choose.kV P29.choose.dc P29.choose.pm P29.choose.an P29.choose.cd P29.choose.ct,λs v=> .of_eq rfl,λbase _ _=> ?_⟩
 have mB:= @fn_b l.prog w K mg base h X G;have mX:= @fnX_b l.prog w K mg base h X G;have lX:=mB P1 (by walk_at "b1") zI ag (λ_ _ _ _ _ _ hr=>xX Z eX hr) yO
 have tH:=mB P2 (by walk_at "b1") aC7 ag (λ_ _ _ _ _ _ hr=>bE1 Z hr) bM9
 have nA:=mB P3 ah cY ag (λ_ _ _ _ _ _ hr=>zN Z tH hr) zY
 have v9:=mB P4 ah nS ag (λ_ _ _ _ _ _ hr=>aF5 Z hr) aN7
 have fS:=mB P5 (by walk_at "b0") zJ ag (λ_ _ _ _ _ _ hr=>xY Z gA p5 hr) yS
 have eJ:=mB P6 ah aF1 ag (λ_ _ _ _ _ _ hr=>aD1 Z tH hr) aE6
 have p6:=mB P9 ah jK ag (λ_ _ _ _ _ _ hr=>a12 Z hr) a33
 have tI:=mB P8 (by walk_at "b3") aX0 ag (λ_ _ _ _ _ _ hr=>aP7 Z eJ hr) aU4
 have p7:=mB P7 (by walk_at "b3") iG ag (λ_ _ _ _ _ _ hr=>a11 Z eJ p6 nA tI hr) a34
 have qM:=mB P11 ah g9 ag (λ_ _ _ _ _ _ hr=>a42 Z v9 p7 hr) a97
 have p8:=mB P13 ah gG ag (λ_ _ _ _ _ _ hr=>a13 Z hr) a35
 have jU:=mB P12 ah nM ag (λ_ _ _ _ _ _ hr=>v8 Z p8 hr) vL
 have tJ:=mB P10 ah qJ ag (λ_ _ _ _ _ _ hr=>aD2 Z fS qM eJ jU hr) aE7
 have eK:=mB P14 (by walk_at "b3") a37 ag (λ_ _ _ _ _ _ hr=>a14 Z lX fS tJ hr) a36
 have xZ:=mB P15 ah bY9 ag (λ_ _ _ _ _ _ hr=>bQ5 Z hr) bX2
 have aQ0:=mB P16 (by walk_at "b3") aC8 ag (λ_ _ _ _ _ _ hr=>bE2 Z hr) bM1
 have tL:=mB P17 (by walk_at "b3") r6 ag (λ_ _ _ _ _ _ hr=>bE3 Z aQ0 hr) bM2
 have nT:=mB P18 ah zK ag (λ_ _ _ _ _ _ hr=>bE4 Z hr) bO8
 have y3:=mB P19 (by walk_at "b1") aX1 ag (λ_ _ _ _ _ _ hr=>aP8 Z hr) aV5
 have a15:=mB P20 (by walk_at "b3") a60 ag (λ_ _ _ _ _ _ hr=>bQ6 Z hr) bY5
 have tM:=mB P21 (by walk_at "b3") mP ag (λ_ _ _ _ _ _ hr=>aP9 Z nT hr) aW0
 have tK:=mB P22 ah iH ag (λ_ _ _ _ _ _ hr=>aD3 Z nT hr) aE9
 have tN:=mB P23 (by walk_at "b3") qK ag (λ_ _ _ _ _ _ hr=>aD4 Z nT tK hr) aF0
 have aD5:=mB P24 ah vJ ag (λ_ _ _ _ _ _ hr=>b35 Z hr) bD5
 have aQ1:=mB P25 ah mQ ag (λ_ _ _ _ _ _ hr=>bE5 Z tL xZ aD5 tM tN hr) bP2
 have aD6:=mB P26 (by walk_at "b3") lU ag (λ_ _ _ _ _ _ hr=>b36 Z a15 hr) bD7
 have vA:=mB P27 ah gK ag (λ_ _ _ _ _ _ hr=>aF6 Z hr) aO9
 have pT:=mB P28 ah zL ag (λ_ _ _ _ _ _ hr=>aF7 Z hr) aO8
 exact b56 U29 hV bX3 (λcdv A outer s H E hr=>⟨aP3,bZ0 Z tL xZ y3 aQ1 a15 pT eK aD6 vA hr,rd_law⟩)
end M
open PySem PySem.W PyProof.Rows
local macro_rules| `(tactic| walk_at "f")=> `(tactic| (refine' M.fnAt ?x1 ?x2 ?x3 ?x4;(case x1=>k_is);(case x2=>k_is);(case x3=>k_is);(case x4=>k_is)))
namespace PySem.W.Fast
def tw10442158888146527864:=()
def tw3330062767157852844:=()
def tw751050196611664689:=()
def tw333454229361991773:=()
def tw14153659340353261683:=()
def tw9678918592620646707:=()
def tw1340791597626385615:=()
def tw18004978211597514919:=()
def tw15013765671321613081:=()
def tw4227901344982144925:=()
def tw2070194307990595474:=()
def tw685667442292191454:=()
def tw9660429546297410292:=()
def tw17902184652551345032:=()
def tw12049142888924843086:=()
def tw3896117141474410922:=()
def tw17792805366667654485:=()
def tw6848059815826733470:=()
def tw10485068974728886541:=()
def tw8551130667133051722:=()
def tw2788529360088914317:=()
def tw15119016870841884530:=()
def tw727514832116621371:=()
def tw13713503184763405499:=()
def tw952236410271547156:=()
def tw5114465154978787922:=()
def tw4710612350241358095:=()
def tw12840713400424295709:=()
def tw15156679586060267106:=()
def tw16126179548390962047:=()
def tw8966343262983056033:=()
def tw4939634716149668888:=()
def tw12988118922665881928:=()
def tw6198346283427081639:=()
def tw6902329644469422459:=()
def tw11015230164745891030:=()
def tw2463073114460566808:=()
def tw267931873354104441:=()
def tw10833208813741819062:=()
def tw2166596775780911381:=()
def tw8663072169075012160:=()
def tw11625670352815385387:=()
def tw7298835406150314031:=()
def tw12911616787554941421:=()
def tw9866808376887224315:=()
def tw9867268801871447737:=()
def tw3027578464465932918:=()
def tw8397536947126849351:=()
def tw4471470840911720198:=()
def tw15335686198597993142:=()
def tw16426565892085219695:=()
def tw1291547897191056139:=()
def tw5117035537932820649:=()
def tw11744898839085175999:=()
def tw5537698772374220549:=()
def tw18000902685860619534:=()
def tw13749278251524165038:=()
def tw10060085570691956215:=()
def tw9571056595575953916:=()
def tw17991976863874763610:=()
def tw16224272758453604429:=()
def tw3036073375033847286:=()
def tw17224899913782024941:=()
def tw2515091076671684239:=()
def tw6749022111801826634:=()
def tw5190409580222172874:=()
def tw2240009773690756629:=()
def tw6806644218921904906:=()
def tw14056202809401499297:=()
def tw10761980369513440257:=()
def tw10145700222202609840:=()
def tw16291055057436665924:=()
def tw12637233825776403891:=()
def tw11674262326678722468:=()
def tw11419217743249303412:=()
def tw7429623863144420012:=()
def tw7774944650989455849:=()
def tw3602496464722545463:=()
def tw11841052480357566075:=()
def tw17230286523855619089:=()
def tw6499920098812899068:=()
def tw10768584852751163509:=()
def tw6194020274990477374:=()
def tw10807863731889632240:=()
end PySem.W.Fast
set_option maxRecDepth 100000 in
set_option maxHeartbeats 0 in
theorem PySem.Challenge.cw_ringhouse_k72_whole_sees_split_holds : PySem.Challenge.rw_ringhouse_k72_whole_sees_split.Holds := by
 w_on;o_law;k_head;(case hw=>w_witness2)
 k_fill
 refine M.walkM (l:=PySem.Challenge.rw_ringhouse_k72_whole_sees_split) (k:=8) (x:="_law_script") rfl rfl ⟨rfl,ac,ac⟩ (λw h Y=>PySem.W.kIn_of Y) ?F
 case F=>
  intro w mg fa h KX G hmg;refine' M.all_mk KX G hmg ?P1 ?P2 ?P3 ?P4 ?P5 ?P6 ?P7 ?P8 ?P9 ?P10 ?P11 ?P12 ?P13 ?P14 ?P15 ?P16 ?P17 ?P18 ?P19 ?P20 ?P21 ?P22 ?P23 ?P24 ?P25 ?P26 ?P27 ?P28 ?P29 ?bQ8 ?bQ9 ?bR0 ?bR1 ?b37 ?y4 ?aQ2 ?vB ?aQ3 ?aD7 ?bR2 ?bR3 ?bR4 ?bR5 ?eX ?gA ?nB ?nE ?nG
  (case P1|P2|P3|P4|P5|P6|P7|P8|P9|P10|P11|P12|P13|P14|P15|P16|P17|P18|P19|P20|P21|P22|P23|P24|P25|P26|P27|P28|P29=>walk_at "f");(case bQ8|bQ9|bR0|bR1|b37|y4|aQ2|vB|aQ3|aD7|bR2|bR3|bR4|bR5|eX|gA|nB=>k_is);(case nE=>first|decide| (trace_state;decide +kernel));(case nG=>first| (show L2.Vals (List.map _ _) (List.toList _);simp only[M.T_SMALL_PRIMES,List.map];repeat (first|exact .nil|refine .cons (.int _ _) ?_))| (repeat constructor)|trace_state)
