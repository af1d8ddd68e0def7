import PyProof.Rows.All
import Wide.All
import OpenK.AllK
import Wide.FinOn
import Lean
import PyProof.EqAt
import PyProof.EqKinds
import PyProof.TupleCall
import PySem.Challenge.RW_ringhouse_k11_apart_told
set_option Elab.async false
set_option linter.all false
open PySem.W (instObj methodObj of_hideAll plainOver takerIn looks_clsIn makesIn emptyDict plainGet keepIn cellsFrom_some fnOf codeIn excIn notCls nsIn kitOne mg_of mg_none_of)
open List (filterMap_cons mem_cons_self mem_cons_of_mem mem_append_left getElem?_set_self getElem?_set_ne mem_append_right length_cons map_cons length_map append_nil of_mem_zip replicate length_take getElem?_append_right getElem?_map mem_of_getElem? length_append size_toArray length_drop map_nil length_set all_cons any_cons reverse_cons replicate_succ flatten_cons foldl getElem?_set getD_eq_getElem?_getD getElem?_eq_getElem lookup_cons all_eq_true mem_cons not_mem_nil zip_cons_cons contains_cons getElem?_eq_none getElem?_cons_zero getElem?_cons_succ set_cons_zero set_cons_succ getElem_mem map_append length_range range_succ map_take map_drop ext_getElem map_map pairwise_singleton forall_mem_cons Nodup)
open Nat (lt_of_lt_of_le lt_irrefl ne_of_lt le_trans le_of_lt ne_of_gt le_refl le_of_eq lt_succ_self zero_le add_comm mul_comm lt_succ_of_lt zero_lt_succ le_succ min_eq_left mul_le_mul pow_add lt_of_le_of_lt add_assoc pow_succ sub_zero mul_succ sub_self add_sub_cancel)
open Int (mul_one toNat_natCast emod_nonneg emod_lt_of_pos zero_add natAbs_mul natAbs_neg add_zero mul_emod sub_emod mul_zero add_emod zero_emod mul_assoc one_mul emod_emod emod_eq_of_lt zero_mul add_mul pow_zero mul_add le_total mul_nonneg)
open Bool (and_eq_true false_xor beq_eq_decide_eq true_xor)
open PySem.Heap (lt_size get?_none_of_le SameBut get?_push_of_some get?_push_size size_push get?_update_self ExtBut get?_push_ne size_update get?_update_ne FlyingW HeldW MadeExcOf)
open Option (getD_none bind_some)
open Array (length_toList toList)
set_option maxRecDepth 100000
namespace L2
open PySem PySem.Spec PyProof.Rows
abbrev Key:=Sum Int Str
def bZ5:Key->Value->Bool
 | .inl k,v=>Value.isInt k v
 | .inr x,v=>Value.isStrOf x v
def keyH (w:World):Key->Int
 | .inl k=>hashInt k
 | .inr x=>hashStr w x
theorem dR: ∀{k:Key} {v:Value},bZ5 k v=true->(∃i t,k=Sum.inl i/\v=Value.int i t)\/(∃x t,k=Sum.inr x/\v=Value.str x t)
 | .inl i,v,h=>by
  obtain⟨t,e⟩:=Value.isInt_shape (k:=i) (v:=v) h;exact .inl ⟨i,t,rfl,e⟩
 | .inr x,v,h=>by
  obtain⟨t,e⟩:=Value.isStrOf_shape (x:=x) (v:=v) h;exact .inr ⟨x,t,rfl,e⟩
theorem key_ll (a b:Int):decide ((Sum.inl a:Key)=Sum.inl b)=(a==b):=by
 by_cases e:a=b
 ·subst e;simp
 ·have h: ¬(Sum.inl a:Key)=Sum.inl b:=λq=>e (Sum.inl.inj q)
  rw[decide_eq_false h];exact(beq_eq_false_iff_ne.mpr e).symm
theorem key_rr (a b:Str):decide ((Sum.inr a:Key)=Sum.inr b)=decide (a=b):=by
 by_cases e:a=b
 ·subst e;simp
 ·have h: ¬(Sum.inr a:Key)=Sum.inr b:=λq=>e (Sum.inr.inj q)
  rw[decide_eq_false h,decide_eq_false e]
theorem key_lr (a:Int)(b:Str):decide ((Sum.inl a:Key)=Sum.inr b)=false:=decide_eq_false (λq=>nomatch q)
theorem key_rl (a:Str)(b:Int):decide ((Sum.inr a:Key)=Sum.inl b)=false:=decide_eq_false (λq=>nomatch q)
def b25 (prog:Program)(w:World):PySem.KeyKind prog w Key where
 is:=bZ5
 hash:=keyH w
 inj:=λv a b ha hb=>by
  rcases dR ha with⟨i,t,rfl,rfl⟩| ⟨x,t,rfl,rfl⟩
  ·rcases dR hb with⟨j,u,rfl,e⟩| ⟨y,u,rfl,e⟩
   ·injection e with e1 _;rw[e1]
   ·exact nomatch e
  ·rcases dR hb with⟨j,u,rfl,e⟩| ⟨y,u,rfl,e⟩
   ·exact nomatch e
   ·injection e with e1 _;rw[e1]
 byValue:=λk v h=>by
  rcases dR h with⟨i,t,rfl,rfl⟩| ⟨x,t,rfl,rfl⟩<;>rfl
 pyHash:=λhv h=>by
  rcases dR hv with⟨i,t,rfl,rfl⟩| ⟨x,t,rfl,rfl⟩
  ·exact wpAny_pyHash_int h
  ·exact wpAny_pyHash_str h
 eqBool:=λhu hv h=>by
  rcases dR hu with⟨i,t,rfl,rfl⟩| ⟨x,t,rfl,rfl⟩
  ·rcases dR hv with⟨j,u,rfl,rfl⟩| ⟨y,u,rfl,rfl⟩
   ·rw[key_ll]at h;exact wpAny_eqBool_int h
   ·rw[key_lr]at h;exact SeqAt.EqAt.int_str i t y u _ _ _ _ h
  ·rcases dR hv with⟨j,u,rfl,rfl⟩| ⟨y,u,rfl,rfl⟩
   ·rw[key_rl]at h;exact SeqAt.EqAt.str_int x t j u _ _ _ _ h
   ·rw[key_rr]at h;exact wpAny_eqBool_str h
 «strs» :=λk x t v h=>by
  rcases dR h with⟨i,u,rfl,e⟩| ⟨y,u,rfl,e⟩
  ·exact nomatch e
  ·injection e with e1 _
   subst e1;cases v<;>rfl
end L2
namespace L2
open PySem PySem.Spec PyProof.Rows
inductive V where
 | non|bl (b:Bool)|int (i:Int)|str (x:Str)|byt (b:Array UInt8)|flt (b:UInt64)|ref (a:Addr)|ty (n:String)
 deriving DecidableEq
def RelV:V->Value->Prop
 | .non,u=>u=Value.none
 | .bl b,u=>u=Value.bool b
 | .int i,u=> ∃t,u=Value.int i t
 | .str x,u=> ∃t,u=Value.str x t
 | .byt b,u=> ∃t,u=Value.bytes b t
 | .flt b,u=> ∃t,u=Value.float b t
 | .ref a,u=>u=Value.ref a
 | .ty n,u=>u=Value.type n
abbrev Vals:List V->List Value->Prop:=Paired RelV
theorem Vals.length {xs:List V}{us:List Value}(r:Vals xs us):xs.length=us.length:=Paired.length r
theorem Vals.get: ∀{xs:List V} {us:List Value} {i:Nat} {x:V},Vals xs us->xs[i]? =some x-> ∃u,us[i]? =some u/\RelV x u
 | _,_,_,_,.nil,e=>by simp at e
 | _,_,0,_,.cons r _,e=>by simp at e;subst e;exact⟨_,rfl,r⟩
 | _,_,i+1,x,.cons _ t,e=>by
  obtain⟨u,h1,h2⟩:=Vals.get (i:=i) (x:=x) t (by simpa using e)
  exact⟨u,by simpa using h1,h2⟩
theorem Vals.set {x:V}{u:Value}(r:RelV x u): ∀{xs:List V} {us:List Value} (i:Nat),Vals xs us->Vals (xs.set i x) (us.set i u)
 | _,_,_,.nil=> .nil
 | _,_,0,.cons _ t=> .cons r t
 | _,_,i+1,.cons q t=> .cons q (Vals.set r i t)
theorem Vals.append: ∀{xs ys:List V} {us ws:List Value},Vals xs us->Vals ys ws->Vals (xs++ys) (us++ws)
 | _,_,_,_,.nil,s=>s
 | _,_,_,_,.cons r t,s=> .cons r (Vals.append t s)
theorem Vals.take: ∀{xs:List V} {us:List Value} (n:Nat),Vals xs us->Vals (xs.take n) (us.take n)
 | _,_,0,_=> .nil
 | _,_,_+1,.nil=> .nil
 | _,_,n+1,.cons r t=> .cons r (Vals.take n t)
theorem Vals.drop: ∀{xs:List V} {us:List Value} (n:Nat),Vals xs us->Vals (xs.drop n) (us.drop n)
 | _,_,0,r=>r
 | _,_,_+1,.nil=> .nil
 | _,_,n+1,.cons _ t=>Vals.drop n t
theorem Vals.none_of: ∀{xs:List V} {us:List Value} {i:Nat},Vals xs us->xs[i]? =none->us[i]? =none:=λ{xs us i} r e=>by
 have h1:=r.length;have h2:xs.length<=i:=List.getElem?_eq_none_iff.mp e;exact List.getElem?_eq_none_iff.mpr (by lia)
def aI7:Option V->Option Value->Prop
 | some v,some u=>RelV v u
 | none,none=>True
 | _,_=>False
def KV {κ:Type}:List (κ×V)->List (κ×Value)->Prop:=Paired fun(p:κ×V) (q:κ×Value)=>p.1=q.1/\RelV p.2 q.2
def kV:Key->V
 | .inl i=> .int i
 | .inr x=> .str x
inductive HO where
 | lst (xs:List V)
 | tup (xs:List V)
 | dK (kvs:List (Key×V))|dT (kvs:List (List Key×V))
 | set (S:Int->Bool) (n:Nat)
 | ins (C dx:Addr) (fs:List (Str×V))
 | own (x:Addr)
 | xd (fs:List (Str×V))
 | met (f x:Addr)
 | rng (lo hi:Int)
 | frz (o:Obj) (u:HO)
 | tbl (ps:Array Value)
 | ext (φ:Heap->Prop)
abbrev Hp:=Addr->Option HO
def upd (H:Hp)(a:Addr)(o:HO):Hp:=λb=>if b=a then some o else H b
theorem dS {H:Hp}{a:Addr}{o:HO}:upd H a o a=some o:=by unfold upd;rw[if_pos rfl]
theorem aT {H:Hp}{a b:Addr}{o:HO}(h:b≠a):upd H a o b=H b:=by unfold upd;rw[if_neg h]
theorem b4 {H:Hp}{a b:Addr}{o:HO}(h:H a=some o)(h':H b=none):a≠b:=by
 intro e;subst e;rw[h]at h';cases h'
section
variable (P:Program)(w:World)
def jB (H:Hp)(h:Heap)(a:Addr):HO->Prop
 | .lst xs=>xs.length<=sizeLine/\ ∃(its:List Value) (n:Nat),Vals xs its/\h.get? a=some {cls:= .type "list",data:= .seq its.toArray n}
 | .tup xs=>xs.length<=sizeLine/\ ∃its:List Value,Vals xs its/\IsTup h a its.toArray
 | .dK kvs=>kvs.length<=sizeLine/\(a==sysModules)=false/\ ∃vs,KV kvs vs/\h.DictOf (b25 P w) a vs
 | .dT kvs=>kvs.length<=sizeLine/\(a==sysModules)=false/\ ∃xs:List (List Key×Addr×Value),
   Paired (fun(p:List Key×V) (q:List Key×Addr×Value)=>p.1=q.1/\H q.2.1=some (.tup (p.1.map kV))/\RelV p.2 q.2.2) kvs xs/\
   ∃o es ep,h.get? a=some o/\o.ExactDict/\o.data= .dict es ep/\es.toList=xs.map (entryOfKey (tupleKind (b25 P w)))/\(xs.map (·.1)).Nodup
 | .set S n=>h.SetOf (intKind P w) a S n
 | .ins C dx fs=>H dx=some (.own a)/\fs.length<=1000/\dx≠a/\h.get? a=some (instObj C dx)/\
   ∃mA,h.Ns1 dx mA/\(∀f,aI7 (fs.lookup f) (mA f))/\PySem.Within mA (fs.map (·.1))
 | .own _=> ∃o,h.get? a=some o
 | .xd fs=> ∃mA,h.Ns1 a mA/\ ∀f,aI7 (fs.lookup f) (mA f)
 | .rng lo hi=> ∃t u v,h.get? a=some {cls:= .type "range",data:= .fields #[.int lo t,.int hi u,.int 1 v]}
 | .frz o u=>h.get? a=some o/\jB H h a u
 | .tbl ps=>h.get? a=some {cls:= .none,data:= .fields ps}
 | .met f x=>h.get? a=some (methodObj (.ref f) (.ref x))
 | .ext φ=>φ h/\(∃o,h.get? a=some o)/\ ∀h1 h2:Heap,φ h1->(∀o,h1.get? a=some o->h2.get? a=some o)->φ h2
def HOk (H:Hp)(h:Heap):Prop:= ∀a o,H a=some o->jB P w H h a o
end
section
variable {P:Program}{w:World}{H H':Hp}{h h':Heap}{a:Addr}{o:HO}
theorem jB.lt (x:jB P w H h a o):a<h.objs.size:=by
 cases o with
 | lst xs=>obtain⟨_,_,_,_,e⟩:=x;exact lt_size e
 | tup xs=>obtain⟨_,_,_,p⟩:=x;exact p.lt
 | dK kvs=>obtain⟨_,_,_,_,o,_,_,e,_⟩:=x;exact lt_size e
 | dT kvs=>obtain⟨_,_,_,_,o,_,_,e,_⟩:=x;exact lt_size e
 | set S n=>obtain⟨o,_,_,_,e,_⟩:=x;exact lt_size e
 | ins C dx fs=>obtain⟨_,_,_,e,_⟩:=x;exact lt_size e
 | own y=>obtain⟨_,e⟩:=x;exact lt_size e
 | xd fs=>obtain⟨_,⟨_,_,_,e,_⟩,_⟩:=x;exact lt_size e
 | rng lo hi=>obtain⟨_,_,_,e⟩:=x;exact lt_size e
 | frz ob u=>obtain⟨e,_⟩:=x;exact lt_size e
 | tbl ps=>exact lt_size (show h.get? a=some _ from x)
 | met f y=>exact lt_size (show h.get? a=some _ from x)
 | ext φ=>obtain⟨_,⟨_,e⟩,_⟩:=x;exact lt_size e
theorem Paired.mapP {α β:Type}{F G:α->β->Prop}: ∀{l₁:List α} {l₂:List β},Paired F l₁ l₂->(∀a b,F a b->G a b)->Paired G l₁ l₂
 | _,_,.nil,_=> .nil
 | _,_,.cons r t,f=> .cons (f _ _ r) (Paired.mapP t f)
theorem jB.stay (x:jB P w H h a o)(k: ∀b u,(b=a\/H b=some (.own a))->h.get? b=some u->h'.get? b=some u)
  (ho: ∀b,H b=some (.own a)->H' b=some (.own a)) (ht: ∀b xs,H b=some (.tup xs)->H' b=some (.tup xs)):jB P w H' h' a o:=by
 induction o with
 | lst xs=>obtain⟨z,its,n,r,e⟩:=x;exact⟨z,its,n,r,k _ _ (.inl rfl) e⟩
 | tup xs=>obtain⟨z,its,r,ob,e,c⟩:=x;exact⟨z,its,r,ob,k _ _ (.inl rfl) e,c⟩
 | dK kvs=>obtain⟨z,y,vs,r,ob,es,ep,e,c⟩:=x;exact⟨z,y,vs,r,ob,es,ep,k _ _ (.inl rfl) e,c⟩
 | dT kvs=>
  obtain⟨z,y,xs,r,ob,es,ep,e,c⟩:=x;exact⟨z,y,xs,Paired.mapP r λp q z=>⟨z.1,ht _ _ z.2.1,z.2.2⟩,ob,es,ep,k _ _ (.inl rfl) e,c⟩
 | set S n=>obtain⟨ob,es,ep,t,e,c⟩:=x;exact⟨ob,es,ep,t,k _ _ (.inl rfl) e,c⟩
 | ins C dx fs=>
  obtain⟨d,z,ne,e,mA,⟨od,es,ep,e2,c⟩,r⟩:=x;exact⟨ho _ d,z,ne,k _ _ (.inl rfl) e,mA,⟨od,es,ep,k _ _ (.inr d) e2,c⟩,r⟩
 | own y=>obtain⟨ob,e⟩:=x;exact⟨ob,k _ _ (.inl rfl) e⟩
 | xd fs=>obtain⟨mA,⟨od,es,ep,e,c⟩,r⟩:=x;exact⟨mA,⟨od,es,ep,k _ _ (.inl rfl) e,c⟩,r⟩
 | rng lo hi=>obtain⟨t,u,v,e⟩:=x;exact⟨t,u,v,k _ _ (.inl rfl) e⟩
 | frz ob u ih=>obtain⟨e,q⟩:=x;exact⟨k _ _ (.inl rfl) e,ih q⟩
 | tbl ps=>
  have e:h.get? a=some {cls:= .none,data:= .fields ps}:=x;show h'.get? a=some {cls:= .none,data:= .fields ps};exact k a _ (.inl rfl) e
 | met f y=>
  have e:h.get? a=some (methodObj (.ref f) (.ref y)):=x;show h'.get? a=some (methodObj (.ref f) (.ref y));exact k a _ (.inl rfl) e
 | ext φ=>obtain⟨p,⟨o,e⟩,st⟩:=x;exact⟨st _ _ p λo q=>k _ _ (.inl rfl) q,⟨o,k _ _ (.inl rfl) e⟩,st⟩
theorem HOk.lt (x:HOk P w H h)(e:H a=some o):a<h.objs.size:=(x a o e).lt
theorem HOk.fresh (x:HOk P w H h)(e:h.objs.size<=a):H a=none:=by
 cases q:H a with
 | none=>rfl
 | some u=>exact absurd (lt_of_lt_of_le (x.lt q) e) (lt_irrefl _)
theorem HOk.kept (x:HOk P w H h)(k: ∀b u,h.get? b=some u->h'.get? b=some u):HOk P w H h':=λa o e=>
 (x a o e).stay (λb u _ q=>k b u q) (λ_ q=>q) λ_ _ q=>q
theorem HOk.laid (x:HOk P w H h)(k: ∀b u,h.get? b=some u->h'.get? b=some u)(hp:h.objs.size<=a)(new:jB P w (upd H a o) h' a o):HOk P w (upd H a o) h':=λb u e=>by
 have hn:=x.fresh hp
 by_cases hb:b=a
 ·subst hb;rw[dS]at e;cases e;exact new
 ·rw[aT hb]at e;exact(x b u e).stay (λc v _ q=>k c v q) (λc q=>by rw[aT (b4 q hn)];exact q) λc xs q=>by rw[aT (b4 q hn)];exact q
end
def Rd (H:Hp)(a:Addr)(u:HO):Prop:=H a=some u\/ ∃o,H a=some (.frz o u)
theorem Rd.of {H:Hp}{a:Addr}{u:HO}(h:H a=some u):Rd H a u:= .inl h
theorem Rd.ok {P:Program}{w:World}{H:Hp}{h:Heap}{a:Addr}{u:HO}(r:Rd H a u)(x:HOk P w H h):jB P w H h a u:=by
 rcases r with r| ⟨o,r⟩
 ·exact x a u r
 ·obtain⟨_,q⟩:=x a _ r;exact q
def Mut:Option HO->Prop
 | some (.lst _)=>True
 | some (.dK _)=>True
 | some (.dT _)=>True
 | some (.set _ _)=>True
 | some (.ins _ _ _)=>True
 | some (.ext _)=>True
 | _=>False
section
variable {P:Program}{w:World}{H:Hp}{h h':Heap}{x e:Addr}{o':HO}
theorem HOk.write (ok:HOk P w H h)(mu:Mut (H x))(he:e=x\/H e=some (.own x))(k: ∀b u,b≠e->h.get? b=some u->h'.get? b=some u)(heo: ∃u,h'.get? e=some u)
  (new:jB P w (upd H x o') h' x o'):HOk P w (upd H x o') h':=λb u q=>by
 have nown: ∀c y,H c=some (.own y)->c≠x:=λc y r z=>by subst z;rw[r]at mu;exact mu
 have ntup: ∀c xs,H c=some (.tup xs)->c≠x:=λc xs r z=>by subst z;rw[r]at mu;exact mu
 by_cases hb:b=x
 ·subst hb;rw[dS]at q;cases q;exact new
 ·rw[aT hb]at q
  by_cases hbe:b=e
  ·have q':H b=some (.own x):=by
    rcases he with z|z
    ·exact absurd (hbe.trans z) hb
    ·rw[hbe];exact z
   rw[q]at q';cases q';obtain⟨v,hv⟩:=heo;exact⟨v,by rw[hbe];exact hv⟩
  ·refine(ok b u q).stay (λc v hc r=>k c v ?_ r) (λc r=>by rw[aT (nown c b r)];exact r) λc xs r=>by rw[aT (ntup c xs r)];exact r
   rcases hc with rfl|hc
   ·exact hbe
   ·rintro rfl;rcases he with z|z
    ·exact nown c b hc z
    ·rw[hc]at z;cases z;exact hb rfl
end
structure Un (fs ex:List Addr)(H H':Hp)(h h':Heap):Prop where
 keep: ∀b o,h.get? b=some o->H b=none->b ∉ fs->b ∉ ex->h'.get? b=some o
 slot: ∀b o,h.get? b=some o->H b=none->b∈fs->b ∉ ex-> ∃sl,h'.get? b=some {o with slots:=sl}
 free: ∀b o,h.get? b=some o->H b=none->b ∉ ex->H' b=none
 there: ∀b o,h.get? b=some o->b ∉ ex-> ∃o',h'.get? b=some o'
 tups: ∀b xs,H b=some (.tup xs)->H' b=some (.tup xs)
 frzs: ∀b o u,H b=some (.frz o u)->H' b=some (.frz o u)
 tbls: ∀b ps,H b=some (.tbl ps)-> ∃more,H' b=some (.tbl (ps++more))
section
variable {fs fs' ex ex':List Addr}{H H1 H2:Hp}{h h1 h2 h':Heap}{a x e:Addr}{o:HO}
theorem Un.any (u:Un fs ex H H1 h h1){b:Addr}{ob:Obj}(q:h.get? b=some ob)(n:H b=none)(hx:b ∉ ex): ∃sl,h1.get? b=some {ob with slots:=sl}:=by
 by_cases hb:b∈fs
 ·exact u.slot b ob q n hb hx
 ·exact⟨ob.slots,u.keep b ob q n hb hx⟩
theorem Un.trans (a:Un fs ex H H1 h h1)(b:Un fs ex H1 H2 h1 h2):Un fs ex H H2 h h2 where
 keep:=λc ob q n hc hx=>b.keep c ob (a.keep c ob q n hc hx) (a.free c ob q n hx) hc hx
 slot:=λc ob q n hc hx=>by
  obtain⟨sl,e1⟩:=a.slot c ob q n hc hx;obtain⟨sl',e2⟩:=b.slot c _ e1 (a.free c ob q n hx) hc hx;exact⟨sl',e2⟩
 free:=λc ob q n hx=>by
  obtain⟨o',e1⟩:=a.there c ob q hx;exact b.free c o' e1 (a.free c ob q n hx) hx
 there:=λc ob q hx=>by
  obtain⟨o',e1⟩:=a.there c ob q hx;exact b.there c o' e1 hx
 tups:=λc xs q=>b.tups c xs (a.tups c xs q)
 frzs:=λc ob xs q=>b.frzs c ob xs (a.frzs c ob xs q)
 tbls:=λc ps q=>by
  obtain⟨m1,e1⟩:=a.tbls c ps q;obtain⟨m2,e2⟩:=b.tbls c _ e1;exact⟨m1++m2,by rw[e2,Array.append_assoc]⟩
theorem Un.kept (k: ∀b u,h.get? b=some u->h'.get? b=some u):Un fs ex H H h h':=
 ⟨λb ob q _ _ _=>k b ob q,λb ob q _ _ _=>⟨ob.slots,k b ob q⟩,λ_ _ _ n _=>n,λb ob q _=>⟨ob,k b ob q⟩,λ_ _ q=>q,λ_ _ _ q=>q,λ_ ps q=>⟨#[],by rw[q];simp⟩⟩
theorem Un.refl:Un fs ex H H h h:=Un.kept λ_ _ q=>q
theorem Un.laid (k: ∀b u,h.get? b=some u->h'.get? b=some u)(hp:h.objs.size<=a)(hn:H a=none):Un fs ex H (upd H a o) h h' where
 keep:=λb u q _ _ _=>k b u q
 slot:=λb u q _ _ _=>⟨u.slots,k b u q⟩
 free:=λb u q n _=>by rw[aT (ne_of_lt (lt_of_lt_of_le (lt_size q) hp))];exact n
 there:=λb u q _=>⟨u,k b u q⟩
 tups:=λb xs q=>by rw[aT (b4 q hn)];exact q
 frzs:=λb u xs q=>by rw[aT (b4 q hn)];exact q
 tbls:=λb ps q=>⟨#[],by rw[aT (b4 q hn),q];simp⟩
theorem Un.write (mu:Mut (H x))(he:e=x\/H e=some (.own x))(k: ∀b u,b≠e->h.get? b=some u->h'.get? b=some u)(heo: ∃u,h'.get? e=some u):Un fs ex H (upd H x o) h h':=by
 have hx: ∀b,H b=none->b≠x:=λb n z=>by subst z;rw[n]at mu;exact mu
 have hb: ∀b,H b=none->b≠e:=λb n z=>by
  subst z;rcases he with r|r
  ·exact hx b n r
  ·rw[n]at r;cases r
 have hm: ∀b u,H b=some u-> ¬Mut (some u)->b≠x:=λb u q nm z=>by subst z;rw[q]at mu;exact nm mu
 refine⟨λb u q n _ _=>k b u (hb b n) q,λb u q n _ _=>⟨u.slots,k b u (hb b n) q⟩,λb u q n _=>by rw[aT (hx b n)];exact n,λb u q _=> ?_,
  λb xs q=>by rw[aT (hm b _ q λz=>z)];exact q,λb u xs q=>by rw[aT (hm b _ q λz=>z)];exact q,λb ps q=>⟨#[],by rw[aT (hm b _ q λz=>z),q];simp⟩⟩
 by_cases hbe:b=e
 ·subst hbe;exact heo
 ·exact⟨u,k b u hbe q⟩
theorem Un.mono (u:Un fs ex H H1 h h1)(hs: ∀b∈fs,b∈fs')(hx: ∀b∈ex,b∈ex'):Un fs' ex' H H1 h h1:=
 ⟨λb ob q n hb he=>u.keep b ob q n (λz=>hb (hs b z)) λz=>he (hx b z),λ_ _ q n _ he=>u.any q n λz=>he (hx _ z),λb ob q n he=>u.free b ob q n λz=>he (hx b z),λb ob q he=>u.there b ob q λz=>he (hx b z),u.tups,u.frzs,u.tbls⟩
end
def trk (h:Heap)(H:Hp):List Addr:=(List.range h.objs.size).filter λa=>(H a).isSome
def aI8 (h:Heap)(H:Hp):Heap:=PySem.W.hideAll h (trk h H)
theorem b64 (h:Heap)(H:Hp):(aI8 h H).objs.size=h.objs.size:=PySem.W.hideAll_size _ _
theorem bC2 {h:Heap}{H:Hp}{b:Addr}{o:Obj}(e:h.get? b=some o)(n:H b=none):(aI8 h H).get? b=some o:=
 PySem.W.hideAll_get _ e λhm=>by
  have q:(H b).isSome=true:=(List.mem_filter.mp hm).2;rw[n]at q;simp at q
theorem bP9 {h:Heap}{H:Hp}{b:Addr}{o:Obj}(e:(aI8 h H).get? b=some o):h.get? b=some o/\H b=none:=by
 have e':h.get? b=some o:=of_hideAll (trk h H) e;refine⟨e',?_⟩;cases q:H b with
 | none=>rfl
 | some x=>
  have hm:b∈trk h H:=List.mem_filter.mpr ⟨List.mem_range.mpr (lt_size e'),by simp[q]⟩
  have z:(aI8 h H).get? b=none:=PySem.W.hideAll_none (trk h H) hm;rw[z]at e;cases e
def bQ0 (g h:Heap)(L:Addr):List (Addr×Obj):=(List.range h.objs.size).filterMap λa=>if a=L\/(g.get? a).isSome=true then none else(h.get? a).map λo=>(a,o)
def kH (g h:Heap)(L d:Addr):List (Addr×Obj):=(bQ0 g h L).filter λp=>decide (p.1≠d)
end L2
namespace L2
open PySem PySem.Spec PyProof.Rows
structure Mod (K:PySem.W.Frag)(mg:Str->Option Value)(base:Heap):Prop where
 kin:K.In base
 glob:base.Ns mainGlobals mg
 blt: ∃mb,base.Ns builtinsNs mb/\ ∀x:Str,x≠"__name__"->mb x=bootBuiltins x
 nolimit:base.NoLimit
structure Cx where
 prog:Program
 w:World
 K:PySem.W.Frag
 mg:Str->Option Value
 base:Heap
 A:Around
 N:List Str
 s₀:Shared
 H₀:Hp
 env:Env
 outer:List Env
 stack:List Env
 ex:List Addr
 fn:Str->Bool
 calm:Bool
 pn:List (Addr×Obj)
 xe:Value->Shared->Prop
def frs (l:List Env):List Addr:=l.filterMap (·.frame)
abbrev Cx.fs (X:Cx):List Addr:=frs X.outer
def Vis (sc:Scope)(x:Str):Prop:=sc.names.lookup x=some .local\/sc.names.lookup x=some .cell\/sc.names.lookup x=some .free
def Loc (sc:Scope)(x:Str):Prop:=sc.names.lookup x=some .local\/sc.names.lookup x=some .cell
def Look (env:Env)(h:Heap)(m:Str->Option Value)(x:Str)(u:Value):Prop:=
 (env.kindOf x=some .local/\m x=some u)\/((env.kindOf x=some .cell\/env.kindOf x=some .free)/\ ∃c,env.cells.lookup x=some c/\h.IsCell c (some u))
structure Cx.Ok (X:Cx):Prop where
 mod:Mod X.K X.mg X.base
 kind:X.env.scope.kind= .function
 glob:X.env.globals=mainGlobals
 blt:X.env.builtins=builtinsNs
 above:X.s₀.heap.objs.size<=X.env.locals
 inj: ∀x y c,X.env.cells.lookup x=some c->X.env.cells.lookup y=some c->x=y
 has: ∀x,(X.env.kindOf x=some .cell\/X.env.kindOf x=some .free)-> ∃c,X.env.cells.lookup x=some c
 cab: ∀x c,X.fn x=true->X.env.cells.lookup x=some c->X.s₀.heap.objs.size<=c
 hd:X.calm=true->X.A.handled=none
 frames:X.A.frames=some X.stack
 stk:X.stack=X.outer\/(X.stack=X.env::X.outer/\X.env.frame=some X.env.locals)
 exf: ∀b∈X.ex,b≠X.env.locals/\ ∀x c,X.env.cells.lookup x=some c->c≠b
 bs: ∀b o,X.base.get? b=some o->X.s₀.heap.get? b=some o/\X.H₀ b=none
 bsz:X.base.objs.size<=X.s₀.heap.objs.size
 noex: ∀b o,X.base.get? b=some o->b ∉ X.ex
 exfs: ∀b∈X.ex,b ∉ X.fs
 funs:X.s₀.heap.FunFrames X.base X.outer
 frf: ∀b∈X.fs,X.H₀ b=none
structure Inv (X:Cx)(pins:List (Addr×Obj))(σ:List (Option V))(H:Hp)(s:Shared):Prop where
 ok:X.Ok
 os:s.os=X.s₀.os
 bare:AllBare s.gens
 base:Un X.fs X.ex X.H₀ H X.s₀.heap s.heap
 loc: ∃m,s.heap.Ns X.env.locals m/\ ∀(i:Nat) (x:Str) (v:V),X.N[i]? =some x->σ[i]? =some (some v)->Vis X.env.scope x-> ∃u,RelV v u/\Look X.env s.heap m x u
 cell: ∀x c,X.env.cells.lookup x=some c-> ∃v,s.heap.IsCell c v
 free:H X.env.locals=none
 freeC: ∀x c,X.env.cells.lookup x=some c->H c=none
 pin: ∀p∈X.pn++pins,s.heap.get? p.1=some p.2/\H p.1=none/\p.1≠X.env.locals/\p.1 ∉ X.fs/\ ∀v,p.2.data≠ .cell v
 hok:HOk X.prog X.w H s.heap
 len:σ.length=X.N.length
section
variable {X:Cx}{pins:List (Addr×Obj)}{σ:List (Option V)}{H H':Hp}{s:Shared}{h':Heap}
theorem Cx.Ok.nofr (ok:X.Ok){b:Addr}{o:Obj}(e:X.base.get? b=some o):b ∉ X.fs:=λhb=>by
 have:=(ok.funs.mem hb).1;rw[e]at this;cases this
theorem Inv.bs (I:Inv X pins σ H s): ∀b o,X.base.get? b=some o->s.heap.get? b=some o/\H b=none:=λb o e=>
 ⟨I.base.keep b o (I.ok.bs b o e).1 (I.ok.bs b o e).2 (I.ok.nofr e) (I.ok.noex b o e),I.base.free b o (I.ok.bs b o e).1 (I.ok.bs b o e).2 (I.ok.noex b o e)⟩
theorem Inv.bk (I:Inv X pins σ H s): ∀b o,X.base.get? b=some o->s.heap.get? b=some o:=λb o e=>(I.bs b o e).1
theorem Inv.mod (I:Inv X pins σ H s):Mod X.K X.mg X.base:=I.ok.mod
theorem Inv.kIn (I:Inv X pins σ H s):X.K.In s.heap:=I.ok.mod.kin.keeps I.bk
theorem Inv.nolimit (I:Inv X pins σ H s):s.heap.NoLimit:=I.ok.mod.nolimit.keeps I.bk
theorem Inv.fr (I:Inv X pins σ H s): ∃m,Fr X.base X.env.locals s.heap m:=
 let ⟨m,hn,_⟩:=I.loc
 ⟨m,hn,I.bk,le_trans I.ok.bsz I.ok.above⟩
theorem Inv.lt (I:Inv X pins σ H s):X.env.locals<s.heap.objs.size:=let ⟨_,hn,_⟩:=I.loc;hn.lt
theorem Inv.sz (I:Inv X pins σ H s):X.s₀.heap.objs.size<=s.heap.objs.size:=le_trans I.ok.above (le_of_lt I.lt)
theorem Inv.nofs (I:Inv X pins σ H s){a:Addr}(h:s.heap.objs.size<=a):a ∉ X.fs:=λhb=>by
 obtain⟨_,o,ho,_⟩:=I.ok.funs.mem hb;exact absurd (lt_of_lt_of_le (lt_size ho) (le_trans I.sz h)) (lt_irrefl _)
theorem Inv.cne (I:Inv X pins σ H s): ∀x c,X.env.cells.lookup x=some c->c≠X.env.locals:=λx c e z=>by
 obtain⟨v,o,ho,hd⟩:=I.cell x c e;obtain⟨m,⟨o',es,ep,ho',hd',_⟩,_⟩:=I.loc;rw[z,ho']at ho;cases ho;rw[hd']at hd;cases hd
theorem Inv.funs (I:Inv X pins σ H s):s.heap.FunFrames X.base X.outer:=by
 have all: ∀(l:List Env),(∀b∈frs l,b∈X.fs)->X.s₀.heap.FunFrames X.base l->s.heap.FunFrames X.base l:=by
  intro l
  induction l with
  | nil=>intro _ _;trivial
  | cons env r ih=>
   intro hs hl;obtain⟨hk,⟨L,o,hf,hn,ho,hd⟩,hr⟩:=hl;have hL:L∈X.fs:=hs L (by unfold frs;rw[filterMap_cons,hf];exact mem_cons_self)
   obtain⟨sl,e⟩:=I.base.slot L o ho (I.ok.frf L hL) hL λz=>I.ok.exfs L z hL
   exact⟨hk,⟨L,_,hf,hn,e,hd⟩,ih (λb hb=>hs b (by unfold frs;rw[filterMap_cons,hf];exact mem_cons_of_mem _ hb)) hr⟩
 exact all X.outer (λ_ hb=>hb) I.ok.funs
theorem Inv.stack (I:Inv X pins σ H s):s.heap.FunFrames X.base X.stack:=by
 rcases I.ok.stk with e| ⟨e,hf⟩
 ·rw[e];exact I.funs
 ·rw[e];obtain⟨m,hn,_⟩:=I.loc;refine .cons (by rw[I.ok.kind];decide) hf hn ?_ I.funs
  exact get?_none_of_le (le_trans I.ok.bsz I.ok.above)
theorem Inv.stkSub (I:Inv X pins σ H s): ∀b∈frs X.stack,b∈X.env.locals::X.fs:=λb hb=>by
 rcases I.ok.stk with e| ⟨e,hf⟩
 ·rw[e]at hb;exact mem_cons_of_mem _ hb
 ·rw[e]at hb;unfold frs at hb;rw[filterMap_cons,hf]at hb;exact hb
theorem Inv.stkFree (I:Inv X pins σ H s): ∀b∈frs X.stack,H b=none:=λb hb=>by
 rcases List.mem_cons.mp (I.stkSub b hb)with e|hb
 ·rw[e];exact I.free
 ·obtain⟨_,o,ho,_⟩:=I.ok.funs.mem hb;exact I.base.free b o ho (I.ok.frf b hb) λz=>I.ok.exfs b z hb
theorem Inv.step {g':Array GenState}{t':Nat}{d':Drawn}{ch:List Addr}(I:Inv X pins σ H s)
  (hch: ∀b∈ch,(b∈X.ex\/X.s₀.heap.objs.size<=b)/\b≠X.env.locals/\(∀x c,X.env.cells.lookup x=some c->c≠b)/\ ∀p∈X.pn++pins,p.1≠b)
  (keep: ∀b o,b≠X.env.locals->b ∉ X.fs->b ∉ ch->s.heap.get? b=some o->H b=none->h'.get? b=some o)
  (slot: ∀b o,b≠X.env.locals->b∈X.fs->b ∉ ch->s.heap.get? b=some o->H b=none-> ∃sl,h'.get? b=some {o with slots:=sl}) (free: ∀b o,b ∉ ch->s.heap.get? b=some o->H b=none->H' b=none)
  (there: ∀b o,b ∉ ch->s.heap.get? b=some o-> ∃o',h'.get? b=some o')
  (tups: ∀b xs,H b=some (.tup xs)->H' b=some (.tup xs)) (frzs: ∀b o u,H b=some (.frz o u)->H' b=some (.frz o u)) (tbls: ∀b ps,H b=some (.tbl ps)-> ∃more,H' b=some (.tbl (ps++more)))
  (ns: ∀m,s.heap.Ns X.env.locals m->h'.Ns X.env.locals m) (hok:HOk X.prog X.w H' h') (hg:AllBare g') :
  Inv X pins σ H' {s with heap:=h',gens:=g',drawn:=d',toks:=t'}:=by
 have neL: ∀b o,X.s₀.heap.get? b=some o->b≠X.env.locals:=λb o e=>ne_of_lt (lt_of_lt_of_le (lt_size e) I.ok.above)
 have neC: ∀b o,X.s₀.heap.get? b=some o->b ∉ X.ex->b ∉ ch:=λb o e hx hb=>by
  rcases(hch b hb).1 with z|z
  ·exact hx z
  ·exact absurd (lt_of_lt_of_le (lt_size e) z) (lt_irrefl _)
 have cellK: ∀x c,X.env.cells.lookup x=some c-> ∀v,s.heap.IsCell c v->h'.IsCell c v:=λx c e v ⟨o,ho,hd⟩=>by
  have nch:c ∉ ch:=λz=>(hch c z).2.2.1 x c e rfl
  by_cases hc:c∈X.fs
  ·obtain⟨sl,q⟩:=slot c o (I.cne x c e) hc nch ho (I.freeC x c e);exact⟨_,q,hd⟩
  ·exact⟨o,keep c o (I.cne x c e) hc nch ho (I.freeC x c e),hd⟩
 refine⟨I.ok,I.os,hg,⟨λb o e n hb hx=> ?_,λb o e n hb hx=> ?_,λb o e n hx=> ?_,λb o e hx=> ?_,λb xs e=>tups b xs (I.base.tups b xs e),λb o xs e=>frzs b o xs (I.base.frzs b o xs e),λb ps e=> ?_⟩,?_,λx c e=> ?_,?_,λx c e=> ?_,λp hp=> ?_,hok,I.len⟩
 ·exact keep b o (neL b o e) hb (neC b o e hx) (I.base.keep b o e n hb hx) (I.base.free b o e n hx)
 ·obtain⟨sl,e1⟩:=I.base.slot b o e n hb hx;obtain⟨sl',e2⟩:=slot b _ (neL b o e) hb (neC b o e hx) e1 (I.base.free b o e n hx);exact⟨sl',e2⟩
 ·obtain⟨o',e1⟩:=I.base.there b o e hx;exact free b o' (neC b o e hx) e1 (I.base.free b o e n hx)
 ·obtain⟨o',e1⟩:=I.base.there b o e hx;exact there b o' (neC b o e hx) e1
 ·obtain⟨m1,e1⟩:=I.base.tbls b ps e;obtain⟨m2,e2⟩:=tbls b _ e1;exact⟨m1++m2,by rw[e2,Array.append_assoc]⟩
 ·obtain⟨m,hn,hl⟩:=I.loc;refine⟨m,ns m hn,λi x v e1 e2 e3=> ?_⟩
  obtain⟨u,r,l⟩:=hl i x v e1 e2 e3;refine⟨u,r,?_⟩;rcases l with l| ⟨k,c,e,z⟩
  ·exact .inl l
  ·exact .inr ⟨k,c,e,cellK x c e _ z⟩
 ·obtain⟨v,z⟩:=I.cell x c e;exact⟨v,cellK x c e v z⟩
 ·obtain⟨m,⟨o,_,_,ho,_⟩,_⟩:=I.loc;exact free _ o (λz=>(hch _ z).2.1 rfl) ho I.free
 ·obtain⟨v,o,ho,hd⟩:=I.cell x c e;exact free c o (λz=>(hch c z).2.2.1 x c e rfl) ho (I.freeC x c e)
 ·obtain⟨e,n,ne,nf,d⟩:=I.pin p hp;have nch:p.1 ∉ ch:=λz=>(hch p.1 z).2.2.2 p hp rfl
  exact⟨keep p.1 p.2 ne nf nch e n,free p.1 p.2 nch e n,ne,nf,d⟩
theorem Inv.un {t':Nat}(I:Inv X pins σ H s)(u:Un X.fs [] H H' s.heap h')(hok:HOk X.prog X.w H' h'):Inv X pins σ H' {s with heap:=h',toks:=t'}:=by
 obtain⟨m,⟨o,es,ep,ho,r⟩,_⟩:=id I.loc;obtain⟨sl,hL⟩:=u.any ho I.free (by simp)
 exact I.step (g':=s.gens) (d':=s.drawn) (ch:=[]) (λ_ z=>nomatch z) (λb o _ hb _ e n=>u.keep b o e n hb (by simp)) (λb o _ hb _ e n=>u.slot b o e n hb (by simp)) (λb o _ e n=>u.free b o e n (by simp)) (λb o _ e=>u.there b o e (by simp)) u.tups u.frzs u.tbls (λm' hm=>by
  obtain⟨o',es',ep',ho',r'⟩:=hm;rw[ho]at ho';cases ho';exact⟨_,es',ep',hL,r'⟩) hok I.bare
theorem Inv.call {g':Array GenState}{t':Nat}{d':Drawn}{ch:List Addr}(I:Inv X pins σ H s)(u:Un (frs X.stack) ch H H' s.heap h')(hok:HOk X.prog X.w H' h')(hg:AllBare g')
  (hch: ∀b∈ch,(b∈X.ex\/X.s₀.heap.objs.size<=b)/\b≠X.env.locals/\(∀x c,X.env.cells.lookup x=some c->c≠b)/\ ∀p∈X.pn++pins,p.1≠b) :
  Inv X pins σ H' {s with heap:=h',gens:=g',drawn:=d',toks:=t'}:=by
 obtain⟨m,⟨o,es,ep,ho,r⟩,_⟩:=id I.loc;obtain⟨sl,hL⟩:=u.any ho I.free λz=>(hch _ z).2.1 rfl
 exact I.step (ch:=ch) hch (λb o hL hb hc e n=>u.keep b o e n (λz=>(List.mem_cons.mp (I.stkSub b z)).elim hL hb) hc) (λb o _ _ hc e n=>u.any e n hc) (λb o hc e n=>u.free b o e n hc) (λb o hc e=>u.there b o e hc) u.tups u.frzs u.tbls (λm' hm=>by
  obtain⟨o',es',ep',ho',r'⟩:=hm;rw[ho]at ho';cases ho';exact⟨_,es',ep',hL,r'⟩) hok hg
theorem Inv.turned {t':Nat}{it:Addr}(I:Inv X pins σ H s)(k: ∀b o,b≠it->s.heap.get? b=some o->h'.get? b=some o)(hn:H it=none)(hL:it≠X.env.locals)
  (h1:it∈X.ex\/X.s₀.heap.objs.size<=it) (h2: ∀x c,X.env.cells.lookup x=some c->c≠it) (h3: ∀p∈X.pn++pins,p.1≠it):Inv X pins σ H {s with heap:=h',toks:=t'}:=by
 have nit: ∀b u,H b=some u->b≠it:=λb u e z=>by rw[z,hn]at e;cases e
 refine I.step (g':=s.gens) (d':=s.drawn) (ch:=[it]) (λb hb=> ?_) (λb o _ _ hc e _=>k b o (λz=>hc (by simp[z])) e) (λb o _ _ hc e _=>⟨o.slots,k b o (λz=>hc (by simp[z])) e⟩) (λ_ _ _ _ n=>n)
  (λb o hc e=>⟨o,k b o (λz=>hc (by simp[z])) e⟩) (λ_ _ e=>e) (λ_ _ _ e=>e) (λb ps e=>⟨#[],by rw[e];simp⟩) (λm hm=> ?_) (λb u e=> ?_) I.bare
 ·have e:b=it:=by simpa using hb
  subst e;exact⟨h1,hL,h2,h3⟩
 ·obtain⟨o,es,ep,ho,r⟩:=hm;exact⟨o,es,ep,k _ o (Ne.symm hL) ho,r⟩
 ·refine(I.hok b u e).stay (λc v hc q=>k c v ?_ q) (λ_ q=>q) λ_ _ q=>q
  rcases hc with z|z
  ·rw[z];exact nit b u e
  ·exact nit c _ z
theorem Inv.tok (I:Inv X pins σ H s)(t:Nat):Inv X pins σ H {s with toks:=t}:=I.un (h':=s.heap) (t':=t) Un.refl I.hok
theorem Inv.kept {t':Nat}(I:Inv X pins σ H s)(k: ∀b u,s.heap.get? b=some u->h'.get? b=some u):Inv X pins σ H {s with heap:=h',toks:=t'}:=I.un (Un.kept k) (I.hok.kept k)
theorem Inv.laid {a:Addr}{o:HO}{t':Nat}(I:Inv X pins σ H s)(k: ∀b u,s.heap.get? b=some u->h'.get? b=some u)(hp:s.heap.objs.size<=a)(new:jB X.prog X.w (upd H a o) h' a o) :
  Inv X pins σ (upd H a o) {s with heap:=h',toks:=t'}:=I.un (Un.laid k hp (I.hok.fresh hp)) (I.hok.laid k hp new)
theorem Inv.write {x e:Addr}{o:HO}{t':Nat}(I:Inv X pins σ H s)(mu:Mut (H x))(he:e=x\/H e=some (.own x))(k: ∀b u,b≠e->s.heap.get? b=some u->h'.get? b=some u)(heo: ∃u,h'.get? e=some u)
  (new:jB X.prog X.w (upd H x o) h' x o):Inv X pins σ (upd H x o) {s with heap:=h',toks:=t'}:=I.un (Un.write mu he k heo) (I.hok.write mu he k heo new)
theorem Inv.pins_of {pins':List (Addr×Obj)}(I:Inv X pins σ H s)(h: ∀p∈pins',s.heap.get? p.1=some p.2/\H p.1=none/\p.1≠X.env.locals/\p.1 ∉ X.fs/\ ∀v,p.2.data≠ .cell v):Inv X pins' σ H s:=
 ⟨I.ok,I.os,I.bare,I.base,I.loc,I.cell,I.free,I.freeC,λp hp=>(List.mem_append.mp hp).elim (λz=>I.pin p (mem_append_left _ z)) (h p),I.hok,I.len⟩
theorem a30 {N:List Str}(hN:N.Nodup){i j:Nat}{x:Str}(a:N[i]? =some x)(b:N[j]? =some x):i=j:=by
 obtain⟨h1,e1⟩:=List.getElem?_eq_some_iff.mp a;obtain⟨h2,e2⟩:=List.getElem?_eq_some_iff.mp b;exact(List.getElem_inj hN).mp (e1.trans e2.symm)
theorem b65 {M:Model}{A:Around}{E:Value->Shared->Prop}{i:Nat}{x:Str}{v:V}{u:Value}{Q:Unit->Shared->Prop}(I:Inv X pins σ H s)(hN:X.N.Nodup)(hi:X.N[i]? =some x)(hx:Loc X.env.scope x)(r:RelV v u)
  (h: ∀s',Inv X pins (σ.set i (some v)) H s'->(∃a,SameBut a s.heap s'.heap/\(a=X.env.locals\/X.env.cells.lookup x=some a))->Q () s') (hf:X.fn x=true\/X.env.scope.names.lookup x=some .local:=by first|exact .inl rfl|exact .inr rfl|assumption):wpAny M A (storeName X.env x u) Q E s:=by
 obtain⟨m,hn,hl⟩:=id I.loc;have hcls:(X.env.scope.kind== .class||(X.env.scope.kind== .module&&X.env.locals != X.env.globals))=false:=by rw[I.ok.kind];rfl
 have hiσ:i<σ.length:=by rw[I.len];exact(List.getElem?_eq_some_iff.mp hi).1
 have cne:=I.cne;have tracked: ∀{a:Addr} {h':Heap},(∃o,s.heap.get? a=some o/\H a=none)->SameBut a s.heap h'->HOk X.prog X.w H h':=λ{a h'} ha hs b ob e=>by
  obtain⟨_,_,hfree⟩:=ha;refine(I.hok b ob e).stay (λc w' hc q=>(hs.2 c ?_).trans q) (λ_ q=>q) λ_ _ q=>q
  rintro rfl;rcases hc with rfl|hc
  ·rw[hfree]at e;cases e
  ·rw[hfree]at hc;cases hc
 rcases hx with hk|hk
 ·refine wpAny_storeName_local hk hn (λh' hn' hs=> ?_) hcls
  obtain⟨oL,_,_,hoL,_⟩:=id hn;refine h _ ⟨I.ok,I.os,I.bare,⟨λb o e n hb hx=> ?_,λb o e n hb hx=> ?_,I.base.free,λb o e hx=> ?_,I.base.tups,I.base.frzs,I.base.tbls⟩,⟨_,hn',λj y v' e1 e2 e3=> ?_⟩,λy c e=> ?_,I.free,I.freeC,λp hp=> ?_,tracked ⟨oL,hoL,I.free⟩ hs,by simpa using I.len⟩ ⟨_,hs,.inl rfl⟩
  ·exact(hs.2 b (ne_of_lt (lt_of_lt_of_le (lt_size e) I.ok.above))).trans (I.base.keep b o e n hb hx)
  ·obtain⟨sl,e1⟩:=I.base.slot b o e n hb hx;exact⟨sl,(hs.2 b (ne_of_lt (lt_of_lt_of_le (lt_size e) I.ok.above))).trans e1⟩
  ·obtain⟨o',e1⟩:=I.base.there b o e hx;exact⟨o',(hs.2 b (ne_of_lt (lt_of_lt_of_le (lt_size e) I.ok.above))).trans e1⟩
  ·by_cases hj:j=i
   ·subst hj;rw[hi]at e1;cases e1;rw[getElem?_set_self hiσ]at e2;cases e2;exact⟨u,r,.inl ⟨hk,by simp⟩⟩
   ·rw[getElem?_set_ne (Ne.symm hj)]at e2;obtain⟨u',r',q⟩:=hl j y v' e1 e2 e3;refine⟨u',r',?_⟩;rcases q with⟨k,e⟩| ⟨k,c,e,z⟩
    ·refine .inl ⟨k,?_⟩
     have:y≠x:=λe=>hj (a30 hN e1 (e▸hi))
     simp[this,e]
    ·exact .inr ⟨k,c,e,z.sameBut hs (cne y c e)⟩
  ·obtain⟨w',z⟩:=I.cell y c e;exact⟨w',z.sameBut hs (cne y c e)⟩
  ·obtain⟨e,n,ne,nf,d⟩:=I.pin p hp;exact⟨(hs.2 p.1 ne).trans e,n,ne,nf,d⟩
 ·have hfn:X.fn x=true:=by
   rcases hf with z|z
   ·exact z
   ·rw[z]at hk;cases hk
  obtain⟨c,hc⟩:=I.ok.has x (.inl hk);obtain⟨w',z⟩:=I.cell x c hc;refine wpAny_storeName_cell I.ok.kind hk hc z (λh' hc' hs=> ?_)
  obtain⟨oc,hoc,hocd⟩:=id z;refine h {s with heap:=h'} ⟨I.ok,I.os,I.bare,⟨λb o e n hb hx=> ?_,λb o e n hb hx=> ?_,I.base.free,λb o e hx=> ?_,I.base.tups,I.base.frzs,I.base.tbls⟩,⟨m,hn.sameBut hs (Ne.symm (cne x c hc)),λj y v' e1 e2 e3=> ?_⟩,λy c' e=> ?_,I.free,I.freeC,λp hp=> ?_,tracked ⟨oc,hoc,I.freeC x c hc⟩ hs,by simpa using I.len⟩ ⟨c,hs,.inr hc⟩
  ·exact(hs.2 b (ne_of_lt (lt_of_lt_of_le (lt_size e) (I.ok.cab x c hfn hc)))).trans (I.base.keep b o e n hb hx)
  ·obtain⟨sl,e1⟩:=I.base.slot b o e n hb hx;exact⟨sl,(hs.2 b (ne_of_lt (lt_of_lt_of_le (lt_size e) (I.ok.cab x c hfn hc)))).trans e1⟩
  ·obtain⟨o',e1⟩:=I.base.there b o e hx;exact⟨o',(hs.2 b (ne_of_lt (lt_of_lt_of_le (lt_size e) (I.ok.cab x c hfn hc)))).trans e1⟩
  ·by_cases hj:j=i
   ·subst hj;rw[hi]at e1;cases e1;rw[getElem?_set_self hiσ]at e2;cases e2;exact⟨u,r,.inr ⟨.inl hk,c,hc,hc'⟩⟩
   ·rw[getElem?_set_ne (Ne.symm hj)]at e2;obtain⟨u',r',q⟩:=hl j y v' e1 e2 e3;refine⟨u',r',?_⟩;rcases q with q| ⟨k,c',e,z'⟩
    ·exact .inl q
    ·refine .inr ⟨k,c',e,z'.sameBut hs ?_⟩
     rintro rfl;exact hj (a30 hN e1 (I.ok.inj _ _ _ e hc▸hi))
  ·by_cases hcc:c'=c
   ·subst hcc;exact⟨_,hc'⟩
   ·obtain⟨w2,z2⟩:=I.cell y c' e;exact⟨w2,z2.sameBut hs hcc⟩
  ·obtain⟨e,n,ne,nf,d⟩:=I.pin p hp;refine⟨(hs.2 p.1 ?_).trans e,n,ne,nf,d⟩;intro q;rw[q,hoc]at e;have q':oc=p.2:=Option.some.inj e;exact d w' (by rw[<-q'];exact hocd)
theorem wD {M:Model}{A:Around}{E:Value->Shared->Prop}{i:Nat}{x:Str}{v:V}{u:Value}{Q:Unit->Shared->Prop}(I:Inv X pins σ H s)(hN:X.N.Nodup)(hi:X.N[i]? =some x)(hx:Loc X.env.scope x)(r:RelV v u)
  (h: ∀s',Inv X pins (σ.set i (some v)) H s'->Q () s') (hf:X.fn x=true\/X.env.scope.names.lookup x=some .local:=by first|exact .inl rfl|exact .inr rfl|assumption):wpAny M A (storeName X.env x u) Q E s:=
 b65 I hN hi hx r (λs' I' _=>h s' I') hf
theorem Inv.call' {s':Shared}{ch:List Addr}(I:Inv X pins σ H s)(ho:s'.os=s.os)(u:Un (frs X.stack) ch H H' s.heap s'.heap)(hok:HOk X.prog X.w H' s'.heap)(hg:AllBare s'.gens)
  (hch: ∀b∈ch,(b∈X.ex\/X.s₀.heap.objs.size<=b)/\b≠X.env.locals/\(∀x c,X.env.cells.lookup x=some c->c≠b)/\ ∀p∈X.pn++pins,p.1≠b):Inv X pins σ H' s':=by
 obtain⟨h',g',d',t',o'⟩:=s';have e:o'=s.os:=ho;subst e;exact I.call (g':=g') (t':=t') (d':=d') u hok hg hch
end
abbrev XK:=Value->Option Addr->Hp->Prop
abbrev St:=List (Option V)
abbrev VK:=V->Hp->Prop
abbrev TE:=St->Hp->VK->Prop
abbrev TT:=St->Hp->(Bool->Hp->Prop)->Prop
abbrev TA:=St->Hp->(List V->Hp->Prop)->Prop
structure xP where
 nx:St->Hp->Prop
 rt:VK
 bk:St->Hp->Prop:=λ_ _=>False
 ct:St->Hp->Prop:=λ_ _=>False
abbrev TS:=xP->St->Hp->Prop
def EP (X:Cx)(pins:List (Addr×Obj))(σ:St)(Q:VK)(u:Value)(s':Shared):Prop:= ∃v H',Inv X pins σ H' s'/\RelV v u/\Q v H'
def TP (X:Cx)(pins:List (Addr×Obj))(σ:St)(Q:Bool->Hp->Prop)(b:Bool)(s':Shared):Prop:= ∃H',Inv X pins σ H' s'/\Q b H'
def AP (X:Cx)(pins:List (Addr×Obj))(σ:St)(Q:List V->Hp->Prop)(us:List Value)(s':Shared):Prop:= ∃vs H',Inv X pins σ H' s'/\Vals vs us/\Q vs H'
def SP (X:Cx)(pins:List (Addr×Obj))(D:xP)(f:Flow)(s':Shared):Prop:=
 match f with
 | .next=> ∃σ' H',Inv X pins σ' H' s'/\D.nx σ' H'
 | .brk=> ∃σ' H',Inv X pins σ' H' s'/\D.bk σ' H'
 | .cont=> ∃σ' H',Inv X pins σ' H' s'/\D.ct σ' H'
 | .ret u=> ∃v σ' H',Inv X pins σ' H' s'/\RelV v u/\D.rt v H'
def PE (X:Cx)(e:Expr)(t:TE):Prop:=
 ∀(pins:List (Addr×Obj)) (s:Shared) (σ:St) (H:Hp) (Q:VK),Inv X pins σ H s->t σ H Q->wpAny (model X.prog X.w) X.A (eval e X.env) (EP X pins σ Q) X.xe s
def PT (X:Cx)(e:Expr)(t:TT):Prop:=
 ∀(pins:List (Addr×Obj)) (s:Shared) (σ:St) (H:Hp) (Q:Bool->Hp->Prop),Inv X pins σ H s->t σ H Q->wpAny (model X.prog X.w) X.A (isTrue e X.env (eval e X.env)) (TP X pins σ Q) X.xe s
def PW (X:Cx)(e:Expr)(t:TT):Prop:=
 ∀(whole:Sem Value) (pins:List (Addr×Obj)) (s:Shared) (σ:St) (H:Hp) (Q:Bool->Hp->Prop),Inv X pins σ H s->t σ H Q->wpAny (model X.prog X.w) X.A (isTrue e X.env whole) (TP X pins σ Q) X.xe s
theorem PW.pt {X:Cx}{e:Expr}{t:TT}(h:PW X e t):PT X e t:=h _
def PA (X:Cx)(es:List Expr)(t:TA):Prop:=
 ∀(pos:Pos) (pins:List (Addr×Obj)) (s:Shared) (σ:St) (H:Hp) (Q:List V->Hp->Prop),Inv X pins σ H s->t σ H Q->wpAny (model X.prog X.w) X.A (spliced (backTo pos (starEach es X.env))) (AP X pins σ Q) X.xe s
def PS (X:Cx)(st:Stmt)(t:TS):Prop:=
 ∀(pins:List (Addr×Obj)) (s:Shared) (σ:St) (H:Hp) (D:xP),Inv X pins σ H s->t D σ H->wpAny (model X.prog X.w) X.A (exec st X.env) (SP X pins D) X.xe s
def PSs (X:Cx)(st:List Stmt)(t:TS):Prop:=
 ∀(pins:List (Addr×Obj)) (s:Shared) (σ:St) (H:Hp) (D:xP),Inv X pins σ H s->t D σ H->wpAny (model X.prog X.w) X.A (execs st X.env) (SP X pins D) X.xe s
theorem thn {α:Type}{t:Sem α}{Q Q':α->Shared->Prop}{M:Model}{A:Around}{E:Value->Shared->Prop}{s:Shared}(h:wpAny M A t Q E s)(hQ: ∀a s,Q a s->Q' a s):wpAny M A t Q' E s:=wpAny_mono h hQ λ_ _ x=>x
end L2
namespace L2
open PySem PySem.Spec PyProof.Rows
section
variable {X:Cx}
def sD (i:Nat):TE:=λσ H Q=> ∃v,σ[i]? =some (some v)/\Q v H
def tC (v:V):TE:=λ_ H Q=>Q v H
theorem pe_var {i:Nat}{x:Str}{pos:Pos}(hN:X.N[i]? =some x)(hv:Vis X.env.scope x)(hd:(x==("__debug__":Str))=false:=by decide)(hcd:(x==("__classdict__":Str))=false:=by decide):PE X (.Name x pos) (sD i):=by
 intro pins s σ H Q I h;obtain⟨v,e,h⟩:=h;obtain⟨m,hn,hl⟩:=I.loc;obtain⟨u,r,l⟩:=hl i x v hN e hv;have fin:EP X pins σ Q u s:=⟨v,H,I,r,h⟩;rcases l with⟨hk,hm⟩| ⟨hk,c,hc,hcell⟩
 ·exact wpAny_Name (wpAny_loadName_local I.ok.kind hk hn hm fin) hd
 ·rcases hk with hk|hk
  ·exact wpAny_Name (wpAny_loadName_cell I.ok.kind hk hc hcell fin) hd
  ·exact wpAny_Name (wpAny_loadName_free I.ok.kind hk hc hcell fin hcd) hd
theorem pe_int {i j pos}:PE X (.Constant (.int i) j pos) (tC (.int i)):=λ_ _ _ H _ I h=>wpAny_Constant_int ⟨.int i,H,I.tok _,⟨_,rfl⟩,h⟩
theorem pe_bl {b j pos}:PE X (.Constant (.bool b) j pos) (tC (.bl b)):=λ_ _ _ H _ I h=>Constant_bool ⟨.bl b,H,I,rfl,h⟩
theorem pe_non {j pos}:PE X (.Constant .none j pos) (tC .non):=λ_ _ _ H _ I h=>Constant_none ⟨.non,H,I,rfl,h⟩
theorem pe_str {x j pos}:PE X (.Constant (.str x) j pos) (tC (.str x)):=λ_ _ _ H _ I h=>Calls.Constant_str ⟨.str x,H,I.tok _,⟨_,rfl⟩,h⟩
def Gl (X:Cx)(x:Str):Prop:=X.env.kindOf x=some .globalImplicit
theorem l6 {E:Value->Shared->Prop}{pins:List (Addr×Obj)}{s:Shared}{σ:St}{H:Hp}{x:Str}{u:Value}{pos:Pos}{Q:Value->Shared->Prop}(I:Inv X pins σ H s)(hg:Gl X x)(hm:X.mg x=some u)(h:Q u s)
  (hd:(x==("__debug__":Str))=false:=by decide):wpAny (model X.prog X.w) X.A (eval (.Name x pos) X.env) Q E s:=
 Calls.Name_function_global I.ok.kind hg (Calls.loadGlobal_global (by rw[I.ok.glob];exact I.mod.glob.keeps I.bk) hm h) hd
theorem pQ {E:Value->Shared->Prop}{pins:List (Addr×Obj)}{s:Shared}{σ:St}{H:Hp}{x:Str}{u:Value}{pos:Pos}{Q:Value->Shared->Prop}(I:Inv X pins σ H s)(hg:Gl X x)(hm:X.mg x=none)(hv:bootBuiltins x=some u)(h:Q u s)
  (hn:x≠"__name__":=by decide) (hd:(x==("__debug__":Str))=false:=by decide):wpAny (model X.prog X.w) X.A (eval (.Name x pos) X.env) Q E s:=by
 obtain⟨mb,h1,h2⟩:=I.mod.blt;exact Calls.Name_function_global I.ok.kind hg (Calls.loadGlobal_builtin (by rw[I.ok.glob];exact I.mod.glob.keeps I.bk) hm (by rw[I.ok.blt];exact h1.keeps I.bk) ((h2 x hn).trans hv) h) hd
theorem aI9 {x:Str}{v:V}{u:Value}{pos:Pos}(hg:Gl X x)(hm:X.mg x=some u)(r:RelV v u)(hd:(x==("__debug__":Str))=false:=by decide):PE X (.Name x pos) (tC v):=
 λ_ _ _ H _ I h=>l6 I hg hm ⟨v,H,I,r,h⟩ hd
theorem bQ1 {x:Str}{v:V}{u:Value}{pos:Pos}(hg:Gl X x)(hm:X.mg x=none)(hv:bootBuiltins x=some u)(r:RelV v u)(hn:x≠"__name__":=by decide)(hd:(x==("__debug__":Str))=false:=by decide):PE X (.Name x pos) (tC v):=
 λ_ _ _ H _ I h=>pQ I hg hm hv ⟨v,H,I,r,h⟩ hn hd
variable {a b:Expr}{ta tb:TE}{pos:Pos}
def PC (X:Cx)(op:CmpOp)(a b:Expr)(t:TE):Prop:=
 ∀(pins:List (Addr×Obj)) (s:Shared) (σ:St) (H:Hp) (Q:VK),Inv X pins σ H s->t σ H Q->
  wpAny (model X.prog X.w) X.A (eval a X.env) (λv s₁=>wpAny (model X.prog X.w) X.A (eval b X.env) (λu s₂=>wpAny (model X.prog X.w) X.A (compareOp op v u) (EP X pins σ Q) X.xe s₂) X.xe s₁) X.xe s
theorem bC3 (b:Expr){op:CmpOp}(h:op≠ .In)(h2:op≠ .NotIn):behindInMarks op b=false:=by
 have e1:(op==CmpOp.In)=false:=by cases op<;>first|rfl|exact absurd rfl h
 have e2:(op==CmpOp.NotIn)=false:=by cases op<;>first|rfl|exact absurd rfl h2
 cases b<;>simp[behindInMarks,e1,e2]
def tIsN (ta:TE):TE:=λσ H Q=>ta σ H λx H1=>Q (.bl (decide (x= .non))) H1
def bZ6 (ta:TE):TE:=λσ H Q=>ta σ H λx H1=>Q (.bl (!decide (x= .non))) H1
theorem RelV.none_iff {x:V}{v:Value}(r:RelV x v):(v==Value.none)=decide (x= .non):=by
 cases x with
 | non=>cases r;rfl
 | bl _=>cases r;rfl
 | int _=>obtain⟨t,rfl⟩:=r;rfl
 | str _=>obtain⟨t,rfl⟩:=r;rfl
 | byt _=>obtain⟨t,rfl⟩:=r;rfl
 | flt _=>obtain⟨t,rfl⟩:=r;rfl
 | ref _=>cases r;rfl
 | ty _=>cases r;rfl
theorem pc_isN {j pos'}(ha:PE X a ta):PC X .Is a (.Constant .none j pos') (tIsN ta):=by
 intro pins s σ H Q I h;refine thn (ha pins s σ H _ I h) λv s1 ⟨x,H1,I1,r1,q1⟩=> ?_
 exact Constant_none (is_none_gen ⟨.bl _,H1,I1,by rw[r1.none_iff];rfl,q1⟩)
theorem bQ2 {j pos'}(ha:PE X a ta):PC X .IsNot a (.Constant .none j pos') (bZ6 ta):=by
 intro pins s σ H Q I h;refine thn (ha pins s σ H _ I h) λv s1 ⟨x,H1,I1,r1,q1⟩=> ?_
 exact Constant_none (isnot_none_gen ⟨.bl _,H1,I1,by rw[r1.none_iff];rfl,q1⟩)
def tB (t:TE):TT:=λσ H Q=>t σ H λx H1=> ∃c,x= .bl c/\Q c H1
theorem bC4 {op:CmpOp}{t:TE}(h:PC X op a b t)(h1:behindInMarks op b=false:=by first|exact bC3 _ (by decide) (by decide)|rfl):PT X (.Compare a [op] [b] pos) (tB t):=by
 intro pins s σ H Q I hw;refine wpAny_isTrue_Compare1 (thn (h pins s σ H _ I hw) λv s1 h1=>thn h1 λu s2 h2=>thn h2 λc s3 ⟨x,H1,I1,r1,q1⟩=> ?_) h1
 obtain⟨d,rfl,q⟩:=q1;cases r1;exact wpAny_truthy_bool ⟨H1,I1,q⟩
theorem pt_val {e:Expr}{t:TE}(h:PE X e t)(he: ∀whole,isTrue e X.env whole=(do let v<-whole;standAt e.pos;holding [v] (truthy v)):=by intro _;rfl):PT X e (tB t):=by
 intro pins s σ H Q I hw;refine isTrue_plain (thn (h pins s σ H _ I hw) λv s1 ⟨x,H1,I1,r1,q1⟩=> ?_) (he _)
 obtain⟨d,rfl,q⟩:=q1;cases r1;exact wpAny_truthy_bool ⟨H1,I1,q⟩
variable {tA tB':TT}{kH:List Expr}
def tAnd (t u:TT):TT:=λσ H Q=>t σ H λc H1=>if c=true then u σ H1 Q else Q false H1
def tOr (t u:TT):TT:=λσ H Q=>t σ H λc H1=>if c=true then Q true H1 else u σ H1 Q
def tNot (t:TT):TT:=λσ H Q=>t σ H λc H1=>Q (!c) H1
theorem bQ3 (ha:PT X a tA):PW X (.BoolOp .And [a] pos) tA:=by
 intro wh pins s σ H Q I h;refine isTrue_and (thn (ha pins s σ H Q I h) λc s1 e=> ?_)
 cases c with
 | true=>exact isTrue_and_nil e
 | false=>exact e
theorem pw_or1 (ha:PT X a tA):PW X (.BoolOp .Or [a] pos) tA:=by
 intro wh pins s σ H Q I h;refine isTrue_or (thn (ha pins s σ H Q I h) λc s1 e=> ?_)
 cases c with
 | false=>exact isTrue_or_nil e
 | true=>exact e
theorem pw_and (ha:PT X a tA)(hb:PW X (.BoolOp .And (b::kH) pos) tB'):PW X (.BoolOp .And (a::b::kH) pos) (tAnd tA tB'):=by
 intro wh pins s σ H Q I h;refine isTrue_and (thn (ha pins s σ H _ I h) λc s1 ⟨H1,I1,q1⟩=> ?_)
 cases c with
 | true=>exact hb wh pins s1 σ H1 Q I1 q1
 | false=>exact⟨H1,I1,q1⟩
theorem pw_or (ha:PT X a tA)(hb:PW X (.BoolOp .Or (b::kH) pos) tB'):PW X (.BoolOp .Or (a::b::kH) pos) (tOr tA tB'):=by
 intro wh pins s σ H Q I h;refine isTrue_or (thn (ha pins s σ H _ I h) λc s1 ⟨H1,I1,q1⟩=> ?_)
 cases c with
 | true=>exact⟨H1,I1,q1⟩
 | false=>exact hb wh pins s1 σ H1 Q I1 q1
theorem pt_not (ha:PT X a tA):PT X (.UnaryOp .Not a pos) (tNot tA):=by
 intro pins s σ H Q I h;exact isTrue_not (ha pins s σ H (λc H1=>Q (!c) H1) I h)
def tAndV (ta tb:TE):TE:=λσ H Q=>ta σ H λx H1=> ∃c,x= .bl c/\if c=true then tb σ H1 Q else Q (.bl false) H1
def tNotV (ta:TE):TE:=λσ H Q=>ta σ H λx H1=> ∃c,x= .bl c/\Q (.bl (!c)) H1
theorem pe_one {op}{t:TE}(h:PE X a t):PE X (.BoolOp op [a] pos) t:=λpins s σ H Q I hw=>BoolOp_one (h pins s σ H Q I hw)
theorem pe_and (ha:PE X a ta)(hb:PE X (.BoolOp .And (b::kH) pos) tb):PE X (.BoolOp .And (a::b::kH) pos) (tAndV ta tb):=by
 intro pins s σ H Q I h;refine BoolOp_and (thn (ha pins s σ H _ I h) λv s1 ⟨x,H1,I1,r1,q1⟩=> ?_)
 obtain⟨c,rfl,q1⟩:=q1;cases r1;refine wpAny_truthy_bool ?_;cases c with
 | true=>exact hb pins s1 σ H1 Q I1 q1
 | false=>exact⟨.bl false,H1,I1,rfl,q1⟩
theorem pe_not (ha:PE X a ta):PE X (.UnaryOp .Not a pos) (tNotV ta):=by
 intro pins s σ H Q I h;refine UnaryOp_ (thn (ha pins s σ H _ I h) λv s1 ⟨x,H1,I1,r1,q1⟩=> ?_)
 obtain⟨c,rfl,q1⟩:=q1;cases r1;exact not_of (wpAny_truthy_bool ⟨.bl (!c),H1,I1,rfl,q1⟩)
def tIf (t:TT)(ta tb:TE):TE:=λσ H Q=>t σ H λc H1=>if c=true then ta σ H1 Q else tb σ H1 Q
theorem bC5 {c:Expr}(hc:PT X c tA)(ha:PE X a ta)(hb:PE X b tb):PE X (.IfExp c a b pos) (tIf tA ta tb):=by
 intro pins s σ H Q I h;refine wpAny_IfExp (thn (hc pins s σ H _ I h) λd s1 ⟨H1,I1,q1⟩=> ?_)
 cases d with
 | true=>exact ha pins s1 σ H1 Q I1 q1
 | false=>exact hb pins s1 σ H1 Q I1 q1
end
end L2
namespace L2
open PySem PySem.Spec PyProof.Rows
def SqL (K:PySem.W.Frag)(H:Hp)(a:Addr)(xs:List V):Prop:=
 Rd H a (.lst xs)\/
  ∃(o:Obj) (its:Array Value) (n:Nat),K.lookup a=some o/\o.cls= .type "list"/\o.dict=none/\o.data= .seq its n/\its.size<=sizeLine/\Vals xs its.toList
def SqT (K:PySem.W.Frag)(H:Hp)(a:Addr)(xs:List V):Prop:=
 Rd H a (.tup xs)\/
  ∃(o:Obj) (its:Array Value) (n:Nat),K.lookup a=some o/\o.cls= .type "tuple"/\o.data= .seq its n/\its.size<=sizeLine/\Vals xs its.toList
def absV:Value->Option V
 | .none=>some .non
 | .bool b=>some (.bl b)
 | .int i _=>some (.int i)
 | .str x _=>some (.str x)
 | .bytes b _=>some (.byt b)
 | .float b _=>some (.flt b)
 | .ref a=>some (.ref a)
 | .type n=>some (.ty n)
 | _=>none
theorem RelV.abs {x:V}{u:Value}(r:RelV x u):absV u=some x:=by
 cases x with
 | non=>cases r;rfl
 | bl _=>cases r;rfl
 | int _=>obtain⟨t,rfl⟩:=r;rfl
 | str _=>obtain⟨t,rfl⟩:=r;rfl
 | byt _=>obtain⟨t,rfl⟩:=r;rfl
 | flt _=>obtain⟨t,rfl⟩:=r;rfl
 | ref _=>cases r;rfl
 | ty _=>cases r;rfl
theorem RelV.inj {x y:V}{u:Value}(r:RelV x u)(q:RelV y u):x=y:=Option.some.inj (r.abs.symm.trans q.abs)
theorem Vals.inj: ∀{xs ys:List V} {us:List Value},Vals xs us->Vals ys us->xs=ys
 | _,_,_,.nil,.nil=>rfl
 | _,_,_,.cons r t,.cons r' t'=>by rw[r.inj r',Vals.inj t t']
section
variable {X:Cx}{pins:List (Addr×Obj)}{σ:St}{H:Hp}{s:Shared}{a:Addr}{xs ys:List V}
theorem SqL.of {K:PySem.W.Frag}(h:H a=some (.lst xs)):SqL K H a xs:= .inl (.inl h)
theorem SqT.of {K:PySem.W.Frag}(h:H a=some (.tup xs)):SqT K H a xs:= .inl (.inl h)
theorem Inv.list (I:Inv X pins σ H s)(h:SqL X.K H a xs): ∃its:List Value,Vals xs its/\PlainL s.heap a its.toArray/\xs.length<=sizeLine:=by
 rcases h with h| ⟨o,its,n,hk,hc,hd,hs,hz,r⟩
 ·obtain⟨z,its,n,r,e⟩:=h.ok I.hok;exact⟨its,r,⟨_,n,e,rfl,rfl,rfl⟩,z⟩
 ·refine⟨its.toList,r,⟨o,n,I.kIn a o hk,hc,hd,by simpa using hs⟩,?_⟩
  have e:=r.length;simp only[length_toList]at e
  lia
theorem Inv.tuple (I:Inv X pins σ H s)(h:SqT X.K H a xs): ∃its:List Value,Vals xs its/\IsTup s.heap a its.toArray/\xs.length<=sizeLine:=by
 rcases h with h| ⟨o,its,n,hk,hc,hs,hz,r⟩
 ·obtain⟨z,its,r,p⟩:=h.ok I.hok;exact⟨its,r,p,z⟩
 ·refine⟨its.toList,r,⟨o,I.kIn a o hk,hc,n,by simpa using hs⟩,?_⟩
  have e:=r.length;simp only[length_toList]at e
  lia
theorem Inv.list_inj (I:Inv X pins σ H s)(h:SqL X.K H a xs)(h':SqL X.K H a ys):xs=ys:=by
 obtain⟨its,r,⟨o,n,e,_,_,d⟩,_⟩:=I.list h;obtain⟨its',r',⟨o',n',e',_,_,d'⟩,_⟩:=I.list h';rw[e]at e';cases e';rw[d]at d'
 injection d' with d1 _
 have:its=its':=by simpa using congrArg toList d1
 subst this;exact r.inj r'
theorem Inv.tuple_inj (I:Inv X pins σ H s)(h:SqT X.K H a xs)(h':SqT X.K H a ys):xs=ys:=by
 obtain⟨its,r,⟨o,e,_,n,d⟩,_⟩:=I.tuple h;obtain⟨its',r',⟨o',e',_,n',d'⟩,_⟩:=I.tuple h';rw[e]at e';cases e';rw[d]at d'
 injection d' with d1 _
 have:its=its':=by simpa using congrArg toList d1
 subst this;exact r.inj r'
end
abbrev Cx.wish (X:Cx)(E:Value->Shared->Prop):Cx:={X with xe:=E}
abbrev Cx.nox (X:Cx):Cx:=X.wish λ_ _=>False
theorem Cx.Ok.wish {X:Cx}(ok:X.Ok)(E:Value->Shared->Prop):(X.wish E).Ok:=
 ⟨ok.mod,ok.kind,ok.glob,ok.blt,ok.above,ok.inj,ok.has,ok.cab,ok.hd,ok.frames,ok.stk,ok.exf,ok.bs,ok.bsz,ok.noex,ok.exfs,ok.funs,ok.frf⟩
theorem Cx.Ok.unwish {X:Cx}{E:Value->Shared->Prop}(ok:(X.wish E).Ok):X.Ok:=
 ⟨ok.mod,ok.kind,ok.glob,ok.blt,ok.above,ok.inj,ok.has,ok.cab,ok.hd,ok.frames,ok.stk,ok.exf,ok.bs,ok.bsz,ok.noex,ok.exfs,ok.funs,ok.frf⟩
section
variable {X:Cx}{pins:List (Addr×Obj)}{σ:St}{H:Hp}{s:Shared}{E:Value->Shared->Prop}
theorem Inv.wish (I:Inv X pins σ H s)(E:Value->Shared->Prop):Inv (X.wish E) pins σ H s:=⟨I.ok.wish E,I.os,I.bare,I.base,I.loc,I.cell,I.free,I.freeC,I.pin,I.hok,I.len⟩
theorem Inv.unwish (I:Inv (X.wish E) pins σ H s):Inv X pins σ H s:=⟨I.ok.unwish,I.os,I.bare,I.base,I.loc,I.cell,I.free,I.freeC,I.pin,I.hok,I.len⟩
theorem SP.unwish {D:xP}{f:Flow}{s':Shared}(h:SP (X.wish E) pins D f s'):SP X pins D f s':=by
 cases f with
 | next=>obtain⟨σ',H',I,q⟩:=h;exact⟨σ',H',I.unwish,q⟩
 | brk=>obtain⟨σ',H',I,q⟩:=h;exact⟨σ',H',I.unwish,q⟩
 | cont=>obtain⟨σ',H',I,q⟩:=h;exact⟨σ',H',I.unwish,q⟩
 | ret u=>obtain⟨v,σ',H',I,r,q⟩:=h;exact⟨v,σ',H',I.unwish,r,q⟩
theorem PE.nox {e:Expr}{t:TE}(h:PE X.nox e t):PE X e t:=λpins s σ H Q I hw=>
 wpAny_mono (h pins s σ H Q (I.wish _) hw) (λ_ _ ⟨v,H',I',r,q⟩=>⟨v,H',I'.unwish,r,q⟩) λ_ _ z=>False.elim z
theorem PT.nox {e:Expr}{t:TT}(h:PT X.nox e t):PT X e t:=λpins s σ H Q I hw=>
 wpAny_mono (h pins s σ H Q (I.wish _) hw) (λ_ _ ⟨H',I',q⟩=>⟨H',I'.unwish,q⟩) λ_ _ z=>False.elim z
theorem PSs.nox {st:List Stmt}{t:TS}(h:PSs X.nox st t):PSs X st t:=λpins s σ H D I hw=>
 wpAny_mono (h pins s σ H D (I.wish _) hw) (λ_ _ q=>q.unwish) λ_ _ z=>False.elim z
end
section
variable {X:Cx}{st:Stmt}{kH:List Stmt}{t u:TS}{e:Expr}{te:TE}{pos:Pos}
def tNext:TS:=λD σ H=>D.nx σ H
def tSeq (t u:TS):TS:=λD σ H=>t {D with nx:=u D} σ H
theorem bQ4:PSs X [] tNext:=λ_ _ σ H _ I h=>wpAny_execs_nil ⟨σ,H,I,h⟩
theorem oZ (h1:PS X st t)(h2:PSs X kH u):PSs X (st::kH) (tSeq t u):=by
 intro pins s σ H D I h;refine wpAny_execs_cons (thn (h1 pins s σ H {D with nx:=u D} I h) λf s1 q=> ?_)
 cases f with
 | next=>
  obtain⟨σ',H',I',q⟩:=q;exact h2 pins s1 σ' H' D I' q
 | ret v=>exact q
 | brk=>exact q
 | cont=>exact q
theorem aJ0 (h1:PS X st t):PSs X [st] t:=by
 intro pins s σ H D I h;refine wpAny_execs_cons (thn (h1 pins s σ H D I h) λf s1 q=> ?_)
 cases f with
 | next=>exact wpAny_execs_nil q
 | ret v=>exact q
 | brk=>exact q
 | cont=>exact q
theorem Inv.quiet {pins:List (Addr×Obj)}{σ:St}{H:Hp}{s:Shared}(I:Inv X pins σ H s):interactive X.env=false:=by simp[interactive,I.ok.kind]
def tDrop (te:TE):TS:=λD σ H=>te σ H λ_ H1=>D.nx σ H1
theorem aJ1 (he:PE X e te)(hs:swapsWith e none pos.line X.env=pure false:=by rfl):PS X (.Expr e pos) (tDrop te):=by
 intro pins s σ H D I h;exact wpAny_Expr_any (thn (he pins s σ H _ I h) λv s1 ⟨x,H1,I1,r1,q1⟩=>⟨σ,H1,I1,q1⟩) I.quiet hs
def tRet (te:TE):TS:=λD σ H=>te σ H D.rt
theorem bC6 (he:PE X e te):PS X (.Return (some e) pos) (tRet te):=by
 intro pins s σ H D I h;exact wpAny_Return_some (thn (he pins s σ H _ I h) λv s1 ⟨x,H1,I1,r1,q1⟩=>⟨x,σ,H1,I1,r1,q1⟩)
def tIfS (c:TT)(t u:TS):TS:=λD σ H=>c σ H λb H1=>if b=true then t D σ H1 else u D σ H1
theorem bZ7 {c:Expr}{a b:List Stmt}{tc:TT}(hc:PT X c tc)(ha:PSs X a t)(hb:PSs X b u):PS X (.If c a b pos) (tIfS tc t u):=by
 intro pins s σ H D I h;refine wpAny_If (thn (hc pins s σ H _ I h) λd s1 ⟨H1,I1,q1⟩=> ?_)
 cases d with
 | true=>exact ha pins s1 σ H1 D I1 q1
 | false=>exact hb pins s1 σ H1 D I1 q1
def tNever:TS:=λ_ _ _=>False
theorem bC7:PS X st tNever:=λ_ _ _ _ _ _ h=>h.elim
end
abbrev TG:=V->St->Hp->(St->Hp->Prop)->Prop
abbrev TGs:=List V->St->Hp->(St->Hp->Prop)->Prop
def PG (X:Cx)(target:Expr)(t:TG):Prop:=
 ∀(pins:List (Addr×Obj)) (s:Shared) (σ:St) (H:Hp) (v:V) (u:Value) (Q:St->Hp->Prop),Inv X pins σ H s->RelV v u->t v σ H Q->
  wpAny (model X.prog X.w) X.A (assign target X.env u) (λ_ s'=> ∃σ' H',Inv X pins σ' H' s'/\Q σ' H') X.xe s
def PGs (X:Cx)(ts:List Expr)(t:TGs):Prop:=
 ∀(pins:List (Addr×Obj)) (s:Shared) (σ:St) (H:Hp) (vs:List V) (us:List Value) (Q:St->Hp->Prop),Inv X pins σ H s->Vals vs us->t vs σ H Q->
  wpAny (model X.prog X.w) X.A (assignInOrder ((assignEach ts X.env).map (·.2)) us) (λ_ s'=> ∃σ' H',Inv X pins σ' H' s'/\Q σ' H') X.xe s
abbrev bC8:=V->V->V->Hp->(Hp->Prop)->Prop
def PSet (X:Cx)(t:bC8):Prop:=
 ∀(pins:List (Addr×Obj)) (s:Shared) (σ:St) (H:Hp) (o i v:V) (ov iv u:Value) (Q:Hp->Prop),Inv X pins σ H s->RelV o ov->RelV i iv->RelV v u->t o i v H Q->
  wpAny (model X.prog X.w) X.A (setItem ov iv u) (λ_ s'=> ∃H',Inv X pins σ H' s'/\Q H') X.xe s
abbrev TIp:=V->V->Hp->VK->Prop
def PIp (X:Cx)(op:Operator)(t:TIp):Prop:=
 ∀(pins:List (Addr×Obj)) (s:Shared) (σ:St) (H:Hp) (x y:V) (v u:Value) (Q:VK),Inv X pins σ H s->RelV x v->RelV y u->t x y H Q->
  wpAny (model X.prog X.w) X.A (inplaceOp op v u) (EP X pins σ Q) X.xe s
section
variable {X:Cx}{pos:Pos}
def yU (i:Nat):TG:=λv σ H Q=>Q (σ.set i (some v)) H
theorem aR {i:Nat}{x:Str}(hN:X.N.Nodup)(hi:X.N[i]? =some x)(hx:Loc X.env.scope x)(hf:X.fn x=true\/X.env.scope.names.lookup x=some .local:=by first|exact .inl rfl|exact .inr rfl|assumption):PG X (.Name x pos) (yU i):=by
 intro pins s σ H v u Q I r h;exact wpAny_assign_Name (wD I hN hi hx r (λs' I'=>⟨_,H,I',h⟩) hf)
def gNil:TGs:=λvs σ H Q=>vs=[]/\Q σ H
def gCons (t:TG)(u:TGs):TGs:=λvs σ H Q=> ∃v r,vs=v::r/\t v σ H λσ' H'=>u r σ' H' Q
theorem bQ5:PGs X [] gNil:=by
 intro pins s σ H vs us Q I r h;obtain⟨e,h⟩:=h;subst e;cases r;exact assignInOrder_nil ⟨σ,H,I,h⟩
theorem bC9 {e:Expr}{es:List Expr}{t:TG}{u:TGs}(h1:PG X e t)(h2:PGs X es u)
  (hs:(assignEach (e::es) X.env).map (·.2)=assign e X.env::(assignEach es X.env).map (·.2):=by rfl):PGs X (e::es) (gCons t u):=by
 intro pins s σ H vs us Q I r h;obtain⟨v,vr,e1,h⟩:=h;subst e1;cases r with
 | cons r rr=>
  rw[hs];refine assignInOrder_cons (thn (h1 pins s σ H _ _ _ I r h) λ_ s1 ⟨σ1,H1,I1,q1⟩=> ?_)
  exact h2 pins s1 σ1 H1 _ _ Q I1 rr q1
def gTup (K:PySem.W.Frag)(n:Nat)(t:TGs):TG:=λv σ H Q=> ∃a xs,v= .ref a/\SqT K H a xs/\xs.length=n/\t xs σ H Q
theorem pg_tup {es:List Expr}{k:Nat}{t:TGs}{n:Nat}(hc:X.calm=true)(h:PGs X es t)
  (hn:(assignEach es X.env).length=n:=by rfl) (hst:(assignEach es X.env).findIdx? (·.1)=none:=by rfl):PG X (.Tuple es k pos) (gTup X.K n t):=by
 intro pins s σ H v u Q I r hw;obtain⟨a,xs,e1,hq,hl,hw⟩:=hw;subst e1;cases r;obtain⟨its,rv,ht,hz⟩:=I.tuple hq;refine assign_Tuple_tuple (I.ok.hd hc) ht (by simp[hn,<-hl,rv.length]) hst λh' hx=> ?_
 have I1:Inv X pins σ H {s with heap:=h'}:=I.kept (t':=s.toks) λb o e=>hx b o (ne_of_lt (lt_size e)) e
 exact h pins _ σ H xs _ Q I1 (by simpa using rv) hw
def gSub (to ti:TE)(t:bC8):TG:=λv σ H Q=>to σ H λo H1=>ti σ H1 λi H2=>t o i v H2 λH3=>Q σ H3
theorem pg_sub {o i:Expr}{to ti:TE}{t:bC8}(ho:PE X o to)(hi:PE X i ti)(hs:PSet X t)
  (ha: ∀v,assign (.Subscript o i pos) X.env v=(do
   let ov<-holding [v] (eval o X.env)
   let iv<-holding [v,ov] (eval i X.env)
   standAt pos
   holding [v,ov,iv] (setItem ov iv v)
   release [v,ov,iv] []):=by intro _;rfl):PG X (.Subscript o i pos) (gSub to ti t):=by
 intro pins s σ H v u Q I r h;rw[ha];refine wpAny_bind (wpAny_holding (thn (ho pins s σ H _ I h) λov s1 ⟨x,H1,I1,r1,q1⟩=> ?_))
 refine wpAny_bind (wpAny_holding (thn (hi pins s1 σ H1 _ I1 q1) λiv s2 ⟨y,H2,I2,r2,q2⟩=> ?_))
 refine wpAny_bind (wpAny_standAt (wpAny_bind (wpAny_holding (thn (hs pins s2 σ H2 x y v ov iv u _ I2 r1 r2 r q2) λ_ s3 ⟨H3,I3,q3⟩=> ?_))))
 exact wpAny_release ⟨σ,H3,I3,q3⟩
def tAsg (te:TE)(g:TG):TS:=λD σ H=>te σ H λx H1=>g x σ H1 D.nx
theorem bD0 {tg e:Expr}{te:TE}{g:TG}(he:PE X e te)(hg:PG X tg g)(hs:swapsWithSole [tg] e pos.line X.env=pure false:=by rfl)(hw:swappedStores [tg] e X.env=pure none:=by rfl)
  (h1:(assignEach [tg] X.env).map (·.2)=[assign tg X.env]:=by rfl):PS X (.Assign [tg] e pos) (tAsg te g):=by
 intro pins s σ H D I h;refine wpAny_Assign_stores (thn (he pins s σ H _ I h) λv s1 ⟨x,H1,I1,r1,q1⟩=> ?_) hs hw
 rw[h1];exact thn (hg pins s1 σ H1 x v _ I1 r1 q1) λ_ s2 q=>q
theorem ps_set {i:Nat}{x:Str}{e:Expr}{te:TE}{pos':Pos}(hN:X.N.Nodup)(hi:X.N[i]? =some x)(hx:Loc X.env.scope x)(he:PE X e te)(hs:swapsWith e (some (.Name x pos')) pos.line X.env=pure false:=by rfl)(hf:X.fn x=true\/X.env.scope.names.lookup x=some .local:=by first|exact .inl rfl|exact .inr rfl|assumption) :
  PS X (.Assign [.Name x pos'] e pos) (tAsg te (yU i)):=by
 intro pins s σ H D I h;refine wpAny_Assign_Name (thn (he pins s σ H _ I h) λv s1 ⟨y,H1,I1,r1,q1⟩=> ?_) hs
 exact wD I1 hN hi hx r1 (λs2 I2=>⟨_,H1,I2,q1⟩) hf
def tAug (i:Nat)(te:TE)(ti:TIp):TS:=λD σ H=> ∃x,σ[i]? =some (some x)/\te σ H λy H1=>ti x y H1 λz H2=>D.nx (σ.set i (some z)) H2
theorem ps_aug {i:Nat}{x:Str}{e:Expr}{te:TE}{op:Operator}{ti:TIp}{pos':Pos}(hN:X.N.Nodup)(hi:X.N[i]? =some x)(hx:Loc X.env.scope x)(he:PE X e te)(ho:PIp X op ti)(hf:X.fn x=true\/X.env.scope.names.lookup x=some .local:=by first|exact .inl rfl|exact .inr rfl|assumption) :
  PS X (.AugAssign (.Name x pos') op e pos) (tAug i te ti):=by
 intro pins s σ H D I h;obtain⟨v,e1,h⟩:=h;obtain⟨m,hn,hl⟩:=I.loc;have vis:Vis X.env.scope x:=by rcases hx with k|k;exact .inl k;exact .inr (.inl k)
 obtain⟨u,r,l⟩:=hl i x v hi e1 vis;refine wpAny_AugAssign_Name ?_;have go:wpAny (model X.prog X.w) X.A (eval e X.env) (λw s₂=>wpAny (model X.prog X.w) X.A (inplaceOp op u w) (λr s₃=>wpAny (model X.prog X.w) X.A (storeName X.env x r) (λ_=>SP X pins D .next) X.xe s₃) X.xe s₂) X.xe s:=by
  refine thn (he pins s σ H _ I h) λw s1 ⟨y,H1,I1,r1,q1⟩=> ?_
  refine thn (ho pins s1 σ H1 v y u w _ I1 r r1 q1) λz s2 ⟨zv,H2,I2,r2,q2⟩=> ?_
  exact wD I2 hN hi hx r2 (λs3 I3=>⟨_,H2,I3,q2⟩) hf
 rcases l with⟨hk,hm⟩| ⟨hk,c,hc,hcell⟩
 ·exact wpAny_loadName_local I.ok.kind hk hn hm go
 ·rcases hk with hk|hk
  ·exact wpAny_loadName_cell I.ok.kind hk hc hcell go
  ·rcases hx with k|k
   ·have:X.env.scope.names.lookup x=some .free:=hk;rw[k]at this;cases this
   ·have:X.env.scope.names.lookup x=some .free:=hk;rw[k]at this;cases this
def tAugS (to ti te:TE)(tget:V->V->Hp->VK->Prop)(tip:TIp)(tset:bC8):TS:=λD σ H=>to σ H λo H1=>ti σ H1 λi H2=>tget o i H2 λx H3=>te σ H3 λy H4=>tip x y H4 λz H5=>tset o i z H5 λH6=>D.nx σ H6
def PGet (X:Cx)(t:V->V->Hp->VK->Prop):Prop:=
 ∀(pins:List (Addr×Obj)) (s:Shared) (σ:St) (H:Hp) (o i:V) (ov iv:Value) (Q:VK),Inv X pins σ H s->RelV o ov->RelV i iv->t o i H Q->
  wpAny (model X.prog X.w) X.A (getItem ov iv) (EP X pins σ Q) X.xe s
theorem bQ6 {o i e:Expr}{to ti te:TE}{tget:V->V->Hp->VK->Prop}{tip:TIp}{tset:bC8}{op:Operator}{tpos:Pos}(ho:PE X o to)(hi:PE X i ti)(hg:PGet X tget)(he:PE X e te)(hp:PIp X op tip)(hs:PSet X tset)
  (ha: ∀ov iv new,augStore i ov iv new=(do holding [new,ov,iv] (setItem ov iv new);release [new,ov,iv] [];pure .next):=by intros;rfl):PS X (.AugAssign (.Subscript o i tpos) op e pos) (tAugS to ti te tget tip tset):=by
 intro pins s σ H D I h;refine wpAny_AugAssign_SubscriptAny (thn (ho pins s σ H _ I h) λov s1 ⟨x1,H1,I1,r1,q1⟩=> ?_) ha
 refine thn (hi pins s1 σ H1 _ I1 q1) λiv s2 ⟨x2,H2,I2,r2,q2⟩=> ?_
 refine thn (hg pins s2 σ H2 x1 x2 ov iv _ I2 r1 r2 q2) λold s3 ⟨x3,H3,I3,r3,q3⟩=> ?_
 refine thn (he pins s3 σ H3 _ I3 q3) λv s4 ⟨x4,H4,I4,r4,q4⟩=> ?_
 refine thn (hp pins s4 σ H4 x3 x4 old v _ I4 r3 r4 q4) λnew s5 ⟨x5,H5,I5,r5,q5⟩=> ?_
 exact thn (hs pins s5 σ H5 x1 x2 x5 ov iv new _ I5 r1 r2 r5 q5) λ_ s6 ⟨H6,I6,q6⟩=>⟨σ,H6,I6,q6⟩
def ipI (f:Int->Int->Int):TIp:=λx y H Q=> ∃i j,x= .int i/\y= .int j/\Q (.int (f i j)) H
theorem ip_add:PIp X .Add (ipI λi j=>i+j):=by
 intro pins s σ H x y v u Q I r1 r2 h;obtain⟨i,j,e1,e2,q⟩:=h;subst e1;subst e2;obtain⟨t,rfl⟩:=r1;obtain⟨t',rfl⟩:=r2;exact iadd_int ⟨.int _,H,I.tok _,⟨_,rfl⟩,q⟩
theorem bD1:PIp X .Sub (ipI λi j=>i-j):=by
 intro pins s σ H x y v u Q I r1 r2 h;obtain⟨i,j,e1,e2,q⟩:=h;subst e1;subst e2;obtain⟨t,rfl⟩:=r1;obtain⟨t',rfl⟩:=r2;exact isub_int ⟨.int _,H,I.tok _,⟨_,rfl⟩,q⟩
end
section
variable {X:Cx}{pos:Pos}
def tWhile (c:TT)(tb:TS):TS:=λD σ H=> ∃W:Nat->St->Hp->Prop,(∃m,W m σ H)/\ ∀m σ H,W m σ H->
 c σ H λb H1=>if b=true then ∃N:St->Hp->Prop,(∀σ' H',N σ' H'-> ∃m',m'<m/\W m' σ' H')/\tb {D with nx:=N,ct:=N,bk:=D.nx} σ H1 else D.nx σ H1
theorem bD2 {c:Expr}{body:List Stmt}{tc:TT}{tb:TS}(hp:PassesOwn (model X.prog X.w) X.A X.env X.xe)(hc:PT X c tc)(hb:PSs X body tb):PS X (.While c body [] pos) (tWhile tc tb):=by
 intro pins s σ H D I h;obtain⟨W,⟨m0,w0⟩,turn⟩:=h;refine wpAny_While (codeAny_whileLoop (λn s'=> ∃σ' H',Inv X pins σ' H' s'/\W n σ' H') ?_ m0 ⟨σ,H,I,w0⟩)
 rintro n s1 ⟨σ1,H1,I1,w1⟩;refine wpAny_passesOwn hp (thn (hc pins s1 σ1 H1 _ I1 (turn n σ1 H1 w1)) λb s2 ⟨H2,I2,q2⟩=> ?_)
 cases b with
 | true=>
  obtain⟨N,hN,q2⟩:=q2;rw[if_pos rfl];refine wpAny_passesOwn hp (thn (hb pins s2 σ1 H2 _ I2 q2) λf s3 q3=> ?_)
  cases f with
  | next=>
   obtain⟨σ3,H3,I3,n3⟩:=q3;obtain⟨m',hm,w3⟩:=hN σ3 H3 n3;exact⟨m',hm,σ3,H3,I3,w3⟩
  | cont=>
   obtain⟨σ3,H3,I3,n3⟩:=q3;obtain⟨m',hm,w3⟩:=hN σ3 H3 n3;exact⟨m',hm,σ3,H3,I3,w3⟩
  | brk=>exact q3
  | ret v=>exact q3
 | false=>
  rw[if_neg Bool.false_ne_true];exact wpAny_execs_nil ⟨σ1,H2,I2,q2⟩
end
structure It where
 go:Nat->Hp->Prop
 yld:Nat->Hp->V->Hp->Prop
 stop:Nat->Hp->Prop
def xQ (X:Cx)(pins:List (Addr×Obj))(H:Hp)(b:Addr):Prop:=
 H b=none/\b≠X.env.locals/\b ∉ X.fs/\(b∈X.ex\/X.s₀.heap.objs.size<=b)/\(∀x c,X.env.cells.lookup x=some c->c≠b)/\ ∀p∈X.pn++pins,p.1≠b
theorem Inv.fpOk {X:Cx}{pins:List (Addr×Obj)}{σ:St}{H H':Hp}{s:Shared}{b:Addr}(I:Inv X pins σ H s)(hb:s.heap.objs.size<=b)(hn:H' b=none):xQ X pins H' b:=by
 refine⟨hn,ne_of_gt (lt_of_lt_of_le I.lt hb),I.nofs hb,.inr (le_trans I.sz hb),λx c e z=> ?_,λp hp z=> ?_⟩
 ·obtain⟨v,q⟩:=I.cell x c e;exact absurd (lt_of_lt_of_le q.lt (by rw[z];exact hb)) (lt_irrefl _)
 ·exact absurd (lt_of_lt_of_le (lt_size (I.pin p hp).1) (by rw[z];exact hb)) (lt_irrefl _)
structure aW8 (P:Program)(w:World)(K:PySem.W.Frag)(tg:Expr)(J:It)(fp:List Addr)(it:Addr)(tn:Nat->Heap->Prop):Prop where
 mem:it∈fp
 obj: ∀i h,tn i h-> ∀b∈fp,∃o,h.get? b=some o/\ ∀v,o.data≠ .cell v
 keep: ∀i h h',tn i h->(∀b∈fp,∀o,h.get? b=some o->h'.get? b=some o)->tn i h'
 item: ∀(X:Cx),X.prog=P->X.w=w->X.K=K->X.calm=true-> ∀(i:Nat) (pins:List (Addr×Obj)) (s:Shared) (σ:St) (H:Hp) (E:Value->Shared->Prop),Inv X pins σ H s->(∀b∈fp,xQ X pins H b)->tn i s.heap->J.go i H->
  wpAny (model P w) X.A (pyNext (.ref it)) (λr s1=> ∃u,r=some u/\
   wpAny (model P w) X.A (letOwnedTupleGo tg (.ref it) u) (λ_ s2=> ∃x H',Inv X pins σ H' s2/\RelV x u/\J.yld i H x H'/\tn (i+1) s2.heap/\ ∀b∈fp,H' b=none) E s1) E s
 done: ∀(X:Cx),X.prog=P->X.w=w->X.K=K->X.calm=true-> ∀(i:Nat) (pins:List (Addr×Obj)) (s:Shared) (σ:St) (H:Hp) (E:Value->Shared->Prop),Inv X pins σ H s->(∀b∈fp,xQ X pins H b)->tn i s.heap->J.stop i H->
  wpAny (model P w) X.A (pyNext (.ref it)) (λr s1=>r=none/\Inv X pins σ H s1) E s
 self: ∀(A:Around) (i:Nat) (s:Shared) (Q:Value->Shared->Prop) (E:Value->Shared->Prop),tn i s.heap->Q (.ref it) s->wpAny (model P w) A (pyIter (.ref it)) Q E s
abbrev TI:=St->Hp->(It->Hp->Prop)->Prop
def PIE (X:Cx)(pins:List (Addr×Obj))(σ:St)(tg:Expr)(R:It->Hp->Prop)(itv:Value)(s2:Shared):Prop:=
 ∃(it:Addr) (fp:List Addr) (tn:Nat->Heap->Prop) (J:It) (H':Hp),itv= .ref it/\Inv X pins σ H' s2/\aW8 X.prog X.w X.K tg J fp it tn/\tn 0 s2.heap/\(∀b∈fp,xQ X pins H' b)/\R J H'
def PI (X:Cx)(tg iter:Expr)(wi:TI):Prop:=
 ∀(pins:List (Addr×Obj)) (s:Shared) (σ:St) (H:Hp) (R:It->Hp->Prop),Inv X pins σ H s->wi σ H R->
  wpAny (model X.prog X.w) X.A (eval iter X.env) (λv s1=>wpAny (model X.prog X.w) X.A (pyIter v) (PIE X pins σ tg R) X.xe s1) X.xe s
theorem aP9 {M:Model}{A:Around}{E:Value->Shared->Prop}{s:Shared}{tg:Expr}{it:Addr}{u:Value}{o:Obj}{n:String}{vs:Array Value}{Q:Unit->Shared->Prop}(ho:s.heap.get? it=some o)(hc:o.cls= .type n)(hd:o.data= .fields vs)
  (hn:["enumerate","zip","dict_itemiterator","dict_reverseitemiterator","odict_iterator","itertools.zip_longest","itertools.pairwise"].contains n=false) (hQ:Q () s):wpAny M A (letOwnedTupleGo tg (.ref it) u) Q E s:=by
 unfold letOwnedTupleGo;cases tg<;>first
  | exact wpAny_pure hQ
  | (cases u<;>first
    | exact wpAny_pure hQ
    | (refine wpAny_bind (wpAny_load ho ?_)
       rw[hc,hd];show wpAny M A (if(["enumerate","zip","dict_itemiterator","dict_reverseitemiterator","odict_iterator","itertools.zip_longest","itertools.pairwise"].contains n&&vs[0]? ==some (rawInt _))=true then _ else _) Q E s;rw[if_neg (by intro h;rw[hn,Bool.false_and]at h;cases h)]
       exact wpAny_pure hQ))
def Itl (K:PySem.W.Frag)(a:Addr):It:=
 ⟨λi H=> ∃xs x,SqL K H a xs/\xs[i]? =some x,λi H x H'=>H'=H/\ ∀xs,SqL K H a xs->xs[i]? =some x,λi H=> ∃xs,SqL K H a xs/\xs.length<=i⟩
def Itt (K:PySem.W.Frag)(a:Addr):It:=
 ⟨λi H=> ∃xs x,SqT K H a xs/\xs[i]? =some x,λi H x H'=>H'=H/\ ∀xs,SqT K H a xs->xs[i]? =some x,λi H=> ∃xs,SqT K H a xs/\xs.length<=i⟩
def Itr (lo:Int)(n:Nat):It:=⟨λi _=>i<n,λi H x H'=>H'=H/\x= .int (lo+i),λi _=>n<=i⟩
theorem b66 {P:Program}{w:World}{K:PySem.W.Frag}{tg:Expr}(a it:Addr):aW8 P w K tg (Itl K a) [it] it (λi h=>h.IsListIter it a i) where
 mem:=by simp
 obj:=λi h st b hb=>by
  have e:b=it:=by simpa using hb
  subst e;obtain⟨o,e,c,d⟩:=st;exact⟨o,e,λv z=>by rw[d]at z;cases z⟩
 keep:=λi h h' st k=>st.at λo e=>k it (by simp) o e
 item:=by
  intro X hP hw hK hc i pins s σ H E I hf st hg;subst hP hw hK;obtain⟨xs,x,hq,hx⟩:=hg;obtain⟨its,rv,p,hz⟩:=I.list hq;obtain⟨u,hu,ru⟩:=rv.get hx;obtain⟨f0,f1,f2,f3,f4,f5⟩:=hf it (by simp)
  refine wpAny_pyNext_list_item st p.isList (x:=u) (by simpa using hu) λh' st' sb=> ?_
  have I1:Inv X pins σ H {s with heap:=h'}:=I.turned (t':=s.toks) (λb o hb e=>(sb.2 b hb).trans e) f0 f1 f3 f4 f5
  obtain⟨o,e,c,d⟩:=id st';exact⟨u,rfl,aP9 (s:={s with heap:=h'}) e c d (by decide) ⟨x,H,I1,ru,⟨rfl,λys hy=>by rw[I.list_inj hy hq];exact hx⟩,st',λb hb=>(hf b hb).1⟩⟩
 done:=by
  intro X hP hw hK hc i pins s σ H E I hf st hg;subst hP hw hK;obtain⟨xs,hq,hx⟩:=hg;obtain⟨its,rv,p,hz⟩:=I.list hq;obtain⟨f0,f1,f2,f3,f4,f5⟩:=hf it (by simp)
  have hl:=rv.length;exact wpAny_pyNext_list_end (I.ok.hd hc) st p.isList (by simp;lia) λh' eb=>⟨rfl,I.turned (t':=s.toks) (λb o hb e=>eb b o hb e) f0 f1 f3 f4 f5⟩
 self:=λ_ _ _ _ _ st h=>wpAny_pyIter_listiter st h
theorem aW9 {P:Program}{w:World}{K:PySem.W.Frag}{tg:Expr}(a it:Addr):aW8 P w K tg (Itt K a) [it] it (λi h=>h.IsTupleIter it a i) where
 mem:=by simp
 obj:=λi h st b hb=>by
  have e:b=it:=by simpa using hb
  subst e;obtain⟨o,e,c,d⟩:=st;exact⟨o,e,λv z=>by rw[d]at z;cases z⟩
 keep:=λi h h' st k=>st.at λo e=>k it (by simp) o e
 item:=by
  intro X hP hw hK hc i pins s σ H E I hf st hg;subst hP hw hK;obtain⟨xs,x,hq,hx⟩:=hg;obtain⟨its,rv,p,hz⟩:=I.tuple hq;obtain⟨u,hu,ru⟩:=rv.get hx;obtain⟨f0,f1,f2,f3,f4,f5⟩:=hf it (by simp)
  refine wpAny_pyNext_tuple_item st (show s.heap.IsTuple a its.toArray from p) (x:=u) (by simpa using hu) λh' st' sb=> ?_
  have I1:Inv X pins σ H {s with heap:=h'}:=I.turned (t':=s.toks) (λb o hb e=>(sb.2 b hb).trans e) f0 f1 f3 f4 f5
  obtain⟨o,e,c,d⟩:=id st';exact⟨u,rfl,aP9 (s:={s with heap:=h'}) e c d (by decide) ⟨x,H,I1,ru,⟨rfl,λys hy=>by rw[I.tuple_inj hy hq];exact hx⟩,st',λb hb=>(hf b hb).1⟩⟩
 done:=by
  intro X hP hw hK hc i pins s σ H E I hf st hg;subst hP hw hK;obtain⟨xs,hq,hx⟩:=hg;obtain⟨its,rv,p,hz⟩:=I.tuple hq;obtain⟨f0,f1,f2,f3,f4,f5⟩:=hf it (by simp)
  have hl:=rv.length;exact wpAny_pyNext_tuple_end (I.ok.hd hc) st (show s.heap.IsTuple a its.toArray from p) (by simp;lia) λh' eb=>⟨rfl,I.turned (t':=s.toks) (λb o hb e=>eb b o hb e) f0 f1 f3 f4 f5⟩
 self:=λ_ _ _ _ _ st h=>wpAny_pyIter_tupleiter st h
theorem aX0 {P:Program}{w:World}{K:PySem.W.Frag}{tg:Expr}(it:Addr)(lo:Int)(n:Nat):aW8 P w K tg (Itr lo n) [it] it (λi h=>IsRangeIter h it (lo+(i:Nat)*1) ((n:Int)-(i:Nat)) 1) where
 mem:=by simp
 obj:=λi h st b hb=>by
  have e:b=it:=by simpa using hb
  subst e;exact⟨_,st,λv z=>by
   have z':Data.fields _=Data.cell v:=z;cases z'⟩
 keep:=λi h h' st k=>k it (by simp) _ st
 item:=by
  intro X hP hw hK hc i pins s σ H E I hf st hg;subst hP hw hK;obtain⟨f0,f1,f2,f3,f4,f5⟩:=hf it (by simp)
  have W:=Walks.range (prog:=X.prog) (w:=X.w) (I.ok.hd hc) it lo 1 n;refine W.item i s _ _ hg st λv h' tk hv st' kk=> ?_
  obtain⟨t,rfl⟩:=hv;have I1:Inv X pins σ H {s with heap:=h',toks:=tk}:=I.turned (λb o hb e=>kk b o (by simpa using hb) e) f0 f1 f3 f4 f5
  refine⟨_,rfl,aP9 (s:={s with heap:=h',toks:=tk}) (n:="range_iterator") st' rfl rfl (by decide) ⟨.int (lo+i),H,I1,⟨t,?_⟩,⟨rfl,rfl⟩,st',λb hb=>(hf b hb).1⟩⟩
  rw[mul_one]
 done:=by
  intro X hP hw hK hc i pins s σ H E I hf st hg;subst hP hw hK;obtain⟨f0,f1,f2,f3,f4,f5⟩:=hf it (by simp)
  exact wpAny_pyNext_range_end (I.ok.hd hc) st (by have:n<=i:=hg;lia) λh' eb=>⟨rfl,I.turned (t':=s.toks) (λb o hb e=>eb b o hb e) f0 f1 f3 f4 f5⟩
 self:=λ_ _ _ _ _ st h=>wpAny_pyIter_rangeiter st h
end L2
namespace L2
open PySem PySem.Spec PyProof.Rows
section
variable {X:Cx}{tg:Expr}
theorem aQ0 {pins:List (Addr×Obj)}{σ:St}{H:Hp}{s:Shared}{R:It->Hp->Prop}{E:Value->Shared->Prop}{lo hi:Int}{t u v:Tok}{tk:Nat}(I:Inv X pins σ H s)(h1: -(2^62)<=lo)(h2:lo<2^62)(h3: -(2^62)<=hi)(h4:hi<2^62)
  (q:R (Itr lo (hi-lo).toNat) H):wpAny (model X.prog X.w) X.A (pyIter (.ref s.heap.objs.size)) (PIE X pins σ tg R) E {s with heap:=s.heap.push {cls:= .type "range",data:= .fields #[.int lo t,.int hi u,.int 1 v]},toks:=tk}:=by
 refine wpAny_pyIter_range (IsRange.new ..) (small_one h1 h2 h3 h4) ?_
 have I1:Inv X pins σ H {s with heap:=s.heap.push {cls:= .type "range",data:= .fields #[.int lo t,.int hi u,.int 1 v]},toks:=tk}:=I.kept λb o e=>get?_push_of_some _ e
 refine⟨(s.heap.push {cls:= .type "range",data:= .fields #[.int lo t,.int hi u,.int 1 v]}).objs.size,[(s.heap.push {cls:= .type "range",data:= .fields #[.int lo t,.int hi u,.int 1 v]}).objs.size],_,_,H,rfl,
  I1.kept (t':=tk) λb o e=>get?_push_of_some _ e,aX0 _ lo (hi-lo).toNat,?_,λb hb=> ?_,q⟩
 ·have e1:lo+((0:Nat):Int)*1=lo:=by simp
  have e2:(((hi-lo).toNat:Nat):Int)-((0:Nat):Int)=Builtin.Range.rangeSize lo hi 1:=by rw[rangeSize_one];split<;>lia
  show IsRangeIter _ _ (lo+((0:Nat):Int)*1) ((((hi-lo).toNat:Nat):Int)-((0:Nat):Int)) 1
  rw[e1,e2];exact get?_push_size _ rfl
 ·have e:b=(s.heap.push {cls:= .type "range",data:= .fields #[.int lo t,.int hi u,.int 1 v]}).objs.size:=by simpa using hb
  subst e;exact I1.fpOk (le_refl _) (I1.hok.fresh (le_refl _))
def iRng1 (ta:TA):TI:=λσ H R=>ta σ H λvs H1=> ∃j:Int,vs=[.int j]/\ -(2^62)<=j/\j<2^62/\R (Itr 0 j.toNat) H1
def iRng2 (ta:TA):TI:=λσ H R=>ta σ H λvs H1=> ∃i j:Int,vs=[.int i,.int j]/\(-(2^62)<=i/\i<2^62/\ -(2^62)<=j/\j<2^62)/\R (Itr i (j-i).toNat) H1
theorem b67 {a:Expr}{ta:TA}{p pos:Pos}(hg:Gl X "range")(hm:X.mg "range"=none)(ha:PA X [a] ta)(hs:starEach [a] X.env=[(false,eval a X.env)]:=by rfl):PI X tg (.Call (.Name "range" p) [a] [] pos) (iRng1 ta):=by
 intro pins s σ H R I h;refine Call_ (pQ I hg hm boot_range (PyProof.Rows.callWith_type1 (thn (ha pos pins s σ H _ I h) λus s1 ⟨vs,H1,I1,r1,q1⟩=> ?_) hs rfl))
 obtain⟨j,e,q1,q2,q⟩:=q1;subst e;cases r1 with
 | cons r rr=>
  cases rr;obtain⟨t,rfl⟩:=r;exact call_range_1 (aQ0 I1 (by lia) (by lia) q1 q2 (by simpa using q))
theorem b68 {a b:Expr}{ta:TA}{p pos:Pos}(hg:Gl X "range")(hm:X.mg "range"=none)(ha:PA X [a,b] ta)(hs:starEach [a,b] X.env=[(false,eval a X.env),(false,eval b X.env)]:=by rfl)(hs2:starEach [b] X.env=[(false,eval b X.env)]:=by rfl) :
  PI X tg (.Call (.Name "range" p) [a,b] [] pos) (iRng2 ta):=by
 intro pins s σ H R I h;refine Call_ (pQ I hg hm boot_range (PyProof.Rows.callWith_type1 (thn (ha pos pins s σ H _ I h) λus s1 ⟨vs,H1,I1,r1,q1⟩=> ?_) (by rw[hs,hs2]) (by rw[hs2];rfl)))
 obtain⟨i,j,e,⟨q1,q2,q3,q4⟩,q⟩:=q1;subst e;cases r1 with
 | cons r rr=>
  cases rr with
  | cons r' rr=>
   cases rr;obtain⟨t,rfl⟩:=r;obtain⟨t',rfl⟩:=r';exact call_range_2 (aQ0 I1 q1 q2 q3 q4 q)
def tFor (wi:TI)(g:TG)(tb:TS):TS:=λD σ H=>wi σ H λJ H1=> ∃W:Nat->Nat->St->Hp->Prop,(∃m,W 0 m σ H1)/\ ∀i m σ H,W i m σ H->
 (J.stop i H/\D.nx σ H)\/(J.go i H/\ ∃N:St->Hp->Prop,(∀σ' H',N σ' H'-> ∃m',m'<m/\W (i+1) m' σ' H')/\ ∀x H',J.yld i H x H'->g x σ H' λσ2 H2=>tb {D with nx:=N,ct:=N,bk:=D.nx} σ2 H2)
def a31 (fp:List Addr)(h:Heap):List (Addr×Obj):=fp.filterMap λb=>(h.get? b).map λo=>(b,o)
theorem pR {fp:List Addr}{h:Heap}{b:Addr}{o:Obj}(hb:b∈fp)(e:h.get? b=some o):(b,o)∈a31 fp h:=List.mem_filterMap.mpr ⟨b,hb,by rw[e];rfl⟩
theorem b69 {fp:List Addr}{h:Heap}{p:Addr×Obj}(hp:p∈a31 fp h):p.1∈fp/\h.get? p.1=some p.2:=by
 obtain⟨b,hb,e⟩:=List.mem_filterMap.mp hp;cases q:h.get? b with
 | none=>rw[q]at e;cases e
 | some o=>
  rw[q]at e;have e':(b,o)=p:=Option.some.inj e;subst e';exact⟨hb,q⟩
theorem Inv.pinned {pins:List (Addr×Obj)}{σ:St}{H:Hp}{s:Shared}{fp:List Addr}(I:Inv X pins σ H s)(hf: ∀b∈fp,xQ X pins H b)(ho: ∀b∈fp,∃o,s.heap.get? b=some o/\ ∀v,o.data≠ .cell v):Inv X (pins++a31 fp s.heap) σ H s:=
 I.pins_of λp hp=>(List.mem_append.mp hp).elim (λz=>I.pin p (mem_append_right _ z)) λz=>by
  obtain⟨hb,e⟩:=b69 z;obtain⟨f0,f1,f2,_⟩:=hf p.1 hb;obtain⟨o,e',d⟩:=ho p.1 hb;rw[e]at e';cases e';exact⟨e,f0,f1,f2,d⟩
theorem Inv.unpinned {pins pl:List (Addr×Obj)}{σ:St}{H:Hp}{s:Shared}(I:Inv X (pins++pl) σ H s):Inv X pins σ H s:=I.pins_of λp hp=>I.pin p (mem_append_right _ (mem_append_left _ hp))
theorem ps_for {iter:Expr}{body:List Stmt}{wi:TI}{g:TG}{tb:TS}{pos:Pos}(hp:PassesOwn (model X.prog X.w) X.A X.env X.xe)(hc:X.calm=true)(hi:PI X tg iter wi)(hg:PG X tg g)(hb:PSs X body tb)
  (hs: ∀x,foldedSetIterable iter X.env x=pure x:=by intro _;rfl):PS X (.For tg iter body [] pos) (tFor wi g tb):=by
 intro pins s σ H D I h;refine wpAny_For (thn (hi pins s σ H _ I h) λv s1 h1=>thn h1 λitv s2 h2=> ?_) hs
 obtain⟨it,fp,tn,J,H2,e,I2,T,st2,f2,W,⟨m0,w0⟩,turn⟩:=h2;subst e;have stat: ∀{H':Hp},(∀b∈fp,H' b=none)-> ∀b∈fp,xQ X pins H' b:=λhn b hb=>⟨hn b hb,(f2 b hb).2⟩
 refine codeAny_forLoop_any (λn s'=> ∃i σ' H',Inv X pins σ' H' s'/\tn i s'.heap/\(∀b∈fp,H' b=none)/\W i n σ' H') ?_ m0 ⟨0,σ,H2,I2,st2,λb hb=>(f2 b hb).1,w0⟩
 rintro n s3 ⟨i,σ3,H3,I3,st3,fr3,w3⟩;rcases turn i n σ3 H3 w3 with⟨stop,qn⟩| ⟨go,N,hN,step⟩
 ·refine wpAny_passesOwn hp (thn (T.done X rfl rfl rfl hc i pins s3 σ3 H3 X.xe I3 (stat fr3) st3 stop) λr s4 ⟨hr,I4⟩=> ?_)
  subst hr;exact wpAny_execs_nil ⟨σ3,H3,I4,qn⟩
 ·refine wpAny_passesOwn hp (thn (T.item X rfl rfl rfl hc i pins s3 σ3 H3 X.xe I3 (stat fr3) st3 go) λr s4 ⟨u,hr,h4⟩=> ?_)
  subst hr;refine wpAny_passesOwn hp (thn h4 λ_ s5 ⟨x,H5,I5,r5,y5,st5,fr5⟩=> ?_)
  have I5':=I5.pinned (stat fr5) (T.obj _ _ st5);refine wpAny_passesOwn hp (thn (hg _ s5 σ3 H5 x u _ I5' r5 (step x H5 y5)) λ_ s6 ⟨σ6,H6,I6,q6⟩=> ?_)
  refine wpAny_passesOwn hp (thn (hb _ s6 σ6 H6 _ I6 q6) λf s7 q7=> ?_)
  have again: ∀{σ7:St} {H7:Hp},Inv X (pins++a31 fp s5.heap) σ7 H7 s7->N σ7 H7-> ∃m,m<n/\ ∃i σ' H',Inv X pins σ' H' s7/\tn i s7.heap/\(∀b∈fp,H' b=none)/\W i m σ' H':=λ{σ7 H7} I7 n7=>by
   obtain⟨m',hm,w7⟩:=hN σ7 H7 n7;refine⟨m',hm,i+1,σ7,H7,I7.unpinned,T.keep _ _ _ st5 λb hb o e=>(I7.pin (b,o) (mem_append_right _ (mem_append_right _ (pR hb e)))).1,λb hb=> ?_,w7⟩
   obtain⟨o,e,d⟩:=T.obj _ _ st5 b hb;exact(I7.pin (b,o) (mem_append_right _ (mem_append_right _ (pR hb e)))).2.1
  cases f with
  | next=>obtain⟨σ7,H7,I7,n7⟩:=q7;exact again I7 n7
  | cont=>obtain⟨σ7,H7,I7,n7⟩:=q7;exact again I7 n7
  | brk=>obtain⟨σ7,H7,I7,q7⟩:=q7;exact⟨σ7,H7,I7.unpinned,q7⟩
  | ret v=>obtain⟨x7,σ7,H7,I7,r7,q7⟩:=q7;exact⟨x7,σ7,H7,I7.unpinned,r7,q7⟩
end
end L2
namespace L2
open PySem PySem.Spec PyProof.Rows
abbrev R2:=V->V->Hp->VK->Prop
def OpR (X:Cx)(f:Value->Value->Sem Value)(r:R2):Prop:=
 ∀(pins:List (Addr×Obj)) (s:Shared) (σ:St) (H:Hp) (x y:V) (v u:Value) (Q:VK),Inv X pins σ H s->RelV x v->RelV y u->r x y H Q->
  wpAny (model X.prog X.w) X.A (f v u) (EP X pins σ Q) X.xe s
def UnR (X:Cx)(f:Value->Sem Value)(r:V->Hp->VK->Prop):Prop:=
 ∀(pins:List (Addr×Obj)) (s:Shared) (σ:St) (H:Hp) (x:V) (v:Value) (Q:VK),Inv X pins σ H s->RelV x v->r x H Q->
  wpAny (model X.prog X.w) X.A (f v) (EP X pins σ Q) X.xe s
def iC (X:Cx)(f:Value)(r:List V->Hp->VK->Prop):Prop:=
 ∀(pins:List (Addr×Obj)) (s:Shared) (σ:St) (H:Hp) (xs:List V) (us:List Value) (Q:VK),Inv X pins σ H s->Vals xs us->r xs H Q->
  wpAny (model X.prog X.w) X.A (call f us) (EP X pins σ Q) X.xe s
def tOp (r:R2)(ta tb:TE):TE:=λσ H Q=>ta σ H λx H1=>tb σ H1 λy H2=>r x y H2 Q
def tUn (r:V->Hp->VK->Prop)(ta:TE):TE:=λσ H Q=>ta σ H λx H1=>r x H1 Q
def rI (C:Int->Int->Prop)(g:Int->Int->V):R2:=λx y H Q=> ∃i j,x= .int i/\y= .int j/\C i j/\Q (g i j) H
def rI0 (g:Int->Int->V):R2:=λx y H Q=> ∃i j,x= .int i/\y= .int j/\Q (g i j) H
def rU (g:Int->V):V->Hp->VK->Prop:=λx H Q=> ∃i,x= .int i/\Q (g i) H
section
variable {X:Cx}{a b c:Expr}{ta tb tc:TE}{pos:Pos}
theorem binT (ha:PE X a ta)(hb:PE X b tb){pins:List (Addr×Obj)}{s:Shared}{σ:St}{H:Hp}{R:V->V->Hp->Prop}(I:Inv X pins σ H s)
  (h:ta σ H λx H1=>tb σ H1 λy H2=>R x y H2) {Q:Value->Shared->Prop} {f:Value->Value->Sem Value}
  (hf: ∀v u s2 x y H2,Inv X pins σ H2 s2->RelV x v->RelV y u->R x y H2->wpAny (model X.prog X.w) X.A (f v u) Q X.xe s2) :
  wpAny (model X.prog X.w) X.A (eval a X.env) (λv s₁=>wpAny (model X.prog X.w) X.A (eval b X.env) (λu s₂=>wpAny (model X.prog X.w) X.A (f v u) Q X.xe s₂) X.xe s₁) X.xe s:=by
 refine thn (ha pins s σ H _ I h) λv s1 ⟨x,H1,I1,r1,q1⟩=> ?_
 refine thn (hb pins s1 σ H1 _ I1 q1) λu s2 ⟨y,H2,I2,r2,q2⟩=> ?_
 exact hf v u s2 x y H2 I2 r1 r2 q2
theorem pe_op {op:Operator}{r:R2}(ho:OpR X (binaryOp op) r)(ha:PE X a ta)(hb:PE X b tb):PE X (.BinOp a op b pos) (tOp r ta tb):=by
 intro pins s σ H Q I h;exact wpAny_BinOp (binT ha hb I h λv u s2 x y H2 I2 rx ry q=>ho pins s2 σ H2 x y v u Q I2 rx ry q)
theorem pe_un {op:UnaryOp}{r:V->Hp->VK->Prop}(ho:UnR X (unaryOp op) r)(ha:PE X a ta):PE X (.UnaryOp op a pos) (tUn r ta):=by
 intro pins s σ H Q I h;exact UnaryOp_ (thn (ha pins s σ H _ I h) λv s1 ⟨x,H1,I1,r1,q1⟩=>ho pins s1 σ H1 x v Q I1 r1 q1)
theorem opI {f:Value->Value->Sem Value}{C:Int->Int->Prop}{g:Int->Int->Int}
  (rule: ∀(i j:Int) (t u:Tok) (s:Shared) (Q:Value->Shared->Prop) (E:Value->Shared->Prop),C i j->Q (.int (g i j) s.toks) {s with toks:=s.toks+1}->wpAny (model X.prog X.w) X.A (f (.int i t) (.int j u)) Q E s) :
  OpR X f (rI C λi j=> .int (g i j)):=by
 intro pins s σ H x y v u Q I rx ry h;obtain⟨i,j,rfl,rfl,hc,q⟩:=h;obtain⟨t,rfl⟩:=rx;obtain⟨t',rfl⟩:=ry;exact rule i j t t' s _ _ hc ⟨.int (g i j),H,I.tok _,⟨_,rfl⟩,q⟩
theorem opI0 {f:Value->Value->Sem Value}{g:Int->Int->Int}
  (rule: ∀(i j:Int) (t u:Tok) (s:Shared) (Q:Value->Shared->Prop) (E:Value->Shared->Prop),Q (.int (g i j) s.toks) {s with toks:=s.toks+1}->wpAny (model X.prog X.w) X.A (f (.int i t) (.int j u)) Q E s) :
  OpR X f (rI0 λi j=> .int (g i j)):=by
 intro pins s σ H x y v u Q I rx ry h;obtain⟨i,j,rfl,rfl,q⟩:=h;obtain⟨t,rfl⟩:=rx;obtain⟨t',rfl⟩:=ry;exact rule i j t t' s _ _ ⟨.int (g i j),H,I.tok _,⟨_,rfl⟩,q⟩
theorem bQ7 {f:Value->Value->Sem Value}{g:Int->Int->Bool}
  (rule: ∀(i j:Int) (t u:Tok) (s:Shared) (Q:Value->Shared->Prop) (E:Value->Shared->Prop),Q (.bool (g i j)) s->wpAny (model X.prog X.w) X.A (f (.int i t) (.int j u)) Q E s) :
  OpR X f (rI0 λi j=> .bl (g i j)):=by
 intro pins s σ H x y v u Q I rx ry h;obtain⟨i,j,rfl,rfl,q⟩:=h;obtain⟨t,rfl⟩:=rx;obtain⟨t',rfl⟩:=ry;exact rule i j t t' s _ _ ⟨.bl (g i j),H,I,rfl,q⟩
def bQ8 (i j:Int):Prop:=0<=j/\j<=1000000/\i.natAbs<2^64
def aX1 (i j:Int):Prop:=(-(2^64)<i/\i<2^64)\/(-(2^64)<j/\j<2^64)
theorem aX1.ok {i j:Int}(h:aX1 i j):IntMulOk i j:=by
 rcases h with⟨h1,h2⟩| ⟨h1,h2⟩
 ·exact .of_left (intBits_le_64 h1 h2)
 ·exact .of_right (intBits_le_64 h1 h2)
theorem op_add:OpR X (binaryOp .Add) (rI0 λi j=> .int (i+j)):=opI0 λ_ _ _ _ _ _ _ q=>add_int q
theorem op_sub:OpR X (binaryOp .Sub) (rI0 λi j=> .int (i-j)):=opI0 λ_ _ _ _ _ _ _ q=>sub_int q
theorem bQ9:OpR X (binaryOp .Mod) (rI (λ_ j=>j≠0) λi j=> .int (i.fmod j)):=opI λ_ _ _ _ _ _ _ hc q=>mod_int' hc q
theorem op_pow:OpR X (binaryOp .Pow) (rI bQ8 λi j=> .int (i^j.toNat)):=opI λ_ _ _ _ _ _ _ hc q=>pow_int_small hc.1 hc.2.1 hc.2.2 q
theorem unI {f:Value->Sem Value}{g:Int->Int}
  (rule: ∀(i:Int) (t:Tok) (s:Shared) (Q:Value->Shared->Prop) (E:Value->Shared->Prop),Q (.int (g i) s.toks) {s with toks:=s.toks+1}->wpAny (model X.prog X.w) X.A (f (.int i t)) Q E s) :
  UnR X f (rU λi=> .int (g i)):=by
 intro pins s σ H x v Q I rx h;obtain⟨i,rfl,q⟩:=h;obtain⟨t,rfl⟩:=rx;exact rule i t s _ _ ⟨.int (g i),H,I.tok _,⟨_,rfl⟩,q⟩
theorem un_neg:UnR X (unaryOp .USub) (rU λi=> .int (-i)):=unI λ_ _ _ _ _ q=>neg_int q
end
def scal:V->V->Bool
 | .non,.non=>true| .non,.int _=>true| .int _,.non=>true| .non,.bl _=>true| .bl _,.non=>true| .non,.str _=>true| .str _,.non=>true
 | .int _,.int _=>true| .bl _,.bl _=>true| .str _,.str _=>true| .byt _,.byt _=>true
 | .int _,.str _=>true| .str _,.int _=>true| .bl _,.str _=>true| .str _,.bl _=>true
 | _,_=>false
def rEq:R2:=λx y H Q=>scal x y=true/\Q (.bl (decide (x=y))) H
def rNe:R2:=λx y H Q=>scal x y=true/\Q (.bl (!decide (x=y))) H
theorem a09 {i j:Int}:decide (V.int i=V.int j)=(i==j):=by
 rw[Bool.eq_iff_iff];simp
theorem aJ2 {i j:Bool}:decide (V.bl i=V.bl j)=(i==j):=by
 rw[Bool.eq_iff_iff];simp
theorem a10 {i j:Str}:decide (V.str i=V.str j)=(i==j):=by
 rw[Bool.eq_iff_iff];simp
theorem b26 {i j:Array UInt8}:decide (V.byt i=V.byt j)=(i.toList==j.toList):=by
 rw[Bool.eq_iff_iff];cases i;cases j;simp
section
variable {X:Cx}{a b c:Expr}{ta tb tc:TE}{pos:Pos}
theorem bP {pins:List (Addr×Obj)}{σ:St}{H:Hp}{s:Shared}{Q:VK}{k k':Bool}(I:Inv X pins σ H s)(q:Q (.bl k) H)(e:k=k'):EP X pins σ Q (.bool k') s:=by
 subst e;exact⟨.bl k,H,I,rfl,q⟩
theorem bD3:OpR X (compareOp .Eq) rEq:=by
 intro pins s σ H x y v u Q I rx ry h;obtain⟨hs,q⟩:=h;cases x with
 | non=>
  cases rx;cases y with
  | non=>cases ry;exact PySem.EqNone.eq_none_none (bP I q (by simp))
  | bl j=>cases ry;exact PySem.EqNone.eq_none_bool (bP I q (by simp))
  | int j=>obtain⟨t',rfl⟩:=ry;exact PySem.EqNone.eq_none_int (bP I q (by simp))
  | str j=>obtain⟨t',rfl⟩:=ry;exact PySem.EqNone.eq_none_str (bP I q (by simp))
  | _=>exact absurd (show false=true from hs) Bool.false_ne_true
 | bl i=>
  cases rx;cases y with
  | non=>cases ry;exact PySem.EqNone.eq_bool_none (bP I q (by simp))
  | bl j=>cases ry;exact eq_bool (bP I q aJ2)
  | str j=>obtain⟨t',rfl⟩:=ry;exact PySem.EqMixed.eq_bool_str (bP I q (by simp))
  | _=>exact absurd (show false=true from hs) Bool.false_ne_true
 | int i=>
  obtain⟨t,rfl⟩:=rx;cases y with
  | non=>cases ry;exact PySem.EqNone.eq_int_none (bP I q (by simp))
  | int j=>obtain⟨t',rfl⟩:=ry;exact eq_int (bP I q a09)
  | str j=>obtain⟨t',rfl⟩:=ry;exact PySem.EqMixed.eq_int_str (bP I q (by simp))
  | _=>exact absurd (show false=true from hs) Bool.false_ne_true
 | str i=>
  obtain⟨t,rfl⟩:=rx;cases y with
  | non=>cases ry;exact PySem.EqNone.eq_str_none (bP I q (by simp))
  | bl j=>cases ry;exact PySem.EqMixed.eq_str_bool (bP I q (by simp))
  | int j=>obtain⟨t',rfl⟩:=ry;exact PySem.EqMixed.eq_str_int (bP I q (by simp))
  | str j=>obtain⟨t',rfl⟩:=ry;exact eq_str (bP I q a10)
  | _=>exact absurd (show false=true from hs) Bool.false_ne_true
 | byt i=>
  obtain⟨t,rfl⟩:=rx;cases y with
  | byt j=>obtain⟨t',rfl⟩:=ry;exact PySem.W.eq_bytes (bP I q b26)
  | _=>exact absurd (show false=true from hs) Bool.false_ne_true
 | _=>cases y<;>exact absurd (show false=true from hs) Bool.false_ne_true
theorem bD4:OpR X (compareOp .NotEq) rNe:=by
 intro pins s σ H x y v u Q I rx ry h;obtain⟨hs,q⟩:=h;cases x with
 | non=>
  cases rx;cases y with
  | non=>cases ry;exact PySem.EqNone.ne_none_none (bP I q (by simp))
  | bl j=>cases ry;exact PySem.EqNone.ne_none_bool (bP I q (by simp))
  | int j=>obtain⟨t',rfl⟩:=ry;exact PySem.EqNone.ne_none_int (bP I q (by simp))
  | str j=>obtain⟨t',rfl⟩:=ry;exact PySem.EqNone.ne_none_str (bP I q (by simp))
  | _=>exact absurd (show false=true from hs) Bool.false_ne_true
 | bl i=>
  cases rx;cases y with
  | non=>cases ry;exact PySem.EqNone.ne_bool_none (bP I q (by simp))
  | bl j=>cases ry;exact ne_bool (bP I q (congrArg not aJ2))
  | str j=>obtain⟨t',rfl⟩:=ry;exact PySem.EqMixed.ne_bool_str (bP I q (by simp))
  | _=>exact absurd (show false=true from hs) Bool.false_ne_true
 | int i=>
  obtain⟨t,rfl⟩:=rx;cases y with
  | non=>cases ry;exact PySem.EqNone.ne_int_none (bP I q (by simp))
  | int j=>obtain⟨t',rfl⟩:=ry;exact ne_int (bP I q (congrArg not a09))
  | str j=>obtain⟨t',rfl⟩:=ry;exact PySem.EqMixed.ne_int_str (bP I q (by simp))
  | _=>exact absurd (show false=true from hs) Bool.false_ne_true
 | str i=>
  obtain⟨t,rfl⟩:=rx;cases y with
  | non=>cases ry;exact PySem.EqNone.ne_str_none (bP I q (by simp))
  | bl j=>cases ry;exact PySem.EqMixed.ne_str_bool (bP I q (by simp))
  | int j=>obtain⟨t',rfl⟩:=ry;exact PySem.EqMixed.ne_str_int (bP I q (by simp))
  | str j=>obtain⟨t',rfl⟩:=ry;exact ne_str (bP I q (congrArg not a10))
  | _=>exact absurd (show false=true from hs) Bool.false_ne_true
 | byt i=>
  obtain⟨t,rfl⟩:=rx;cases y with
  | byt j=>obtain⟨t',rfl⟩:=ry;exact PySem.W.ne_bytes (bP I q (congrArg not b26))
  | _=>exact absurd (show false=true from hs) Bool.false_ne_true
 | _=>cases y<;>exact absurd (show false=true from hs) Bool.false_ne_true
theorem op_lt:OpR X (compareOp .Lt) (rI0 λi j=> .bl (decide (i<j))):=bQ7 λ_ _ _ _ _ _ _ q=>lt_int q
theorem op_le:OpR X (compareOp .LtE) (rI0 λi j=> .bl (decide (i<=j))):=bQ7 λ_ _ _ _ _ _ _ q=>le_int q
theorem op_gt:OpR X (compareOp .Gt) (rI0 λi j=> .bl (decide (j<i))):=bQ7 λ_ _ _ _ _ _ _ q=>gt_int q
theorem op_ge:OpR X (compareOp .GtE) (rI0 λi j=> .bl (decide (j<=i))):=bQ7 λ_ _ _ _ _ _ _ q=>ge_int q
theorem OpR.or {f:Value->Value->Sem Value}{r r':R2}(h:OpR X f r)(h':OpR X f r'):OpR X f (λx y H Q=>r x y H Q\/r' x y H Q):=by
 intro pins s σ H x y v u Q I rx ry q;rcases q with q|q
 ·exact h pins s σ H x y v u Q I rx ry q
 ·exact h' pins s σ H x y v u Q I rx ry q
theorem b5 (b:Expr){op:CmpOp}(h:op≠ .In:=by decide)(h2:op≠ .NotIn:=by decide):behindInMarks op b=false:=by
 have e1:(op==CmpOp.In)=false:=by cases op<;>first|rfl|exact absurd rfl h
 have e2:(op==CmpOp.NotIn)=false:=by cases op<;>first|rfl|exact absurd rfl h2
 cases b<;>simp[behindInMarks,e1,e2]
theorem bR0 {op:CmpOp}{r:R2}(ho:OpR X (compareOp op) r)(ha:PE X a ta)(hb:PE X b tb)(hm:behindInMarks op b=false):PE X (.Compare a [op] [b] pos) (tOp r ta tb):=by
 intro pins s σ H Q I h;exact wpAny_Compare1 (binT ha hb I h λv u s2 x y H2 I2 rx ry q=>ho pins s2 σ H2 x y v u Q I2 rx ry q) hm
def tTest (t:TE):TT:=λσ H Q=>t σ H λx H'=> ∃k,x= .bl k/\Q k H'
theorem bR1 {op:CmpOp}{r:R2}(ho:OpR X (compareOp op) r)(ha:PE X a ta)(hb:PE X b tb)(hm:behindInMarks op b=false):PT X (.Compare a [op] [b] pos) (tTest (tOp r ta tb)):=by
 intro pins s σ H Q I h;refine wpAny_isTrue_Compare1 (thn (ha pins s σ H _ I h) λv s1 ⟨x,H1,I1,r1,q1⟩=>thn (hb pins s1 σ H1 _ I1 q1) λu s2 ⟨y,H2,I2,r2,q2⟩=>
  thn (ho pins s2 σ H2 x y v u _ I2 r1 r2 q2) λc s3 ⟨z,H3,I3,r3,k,e,q3⟩=> ?_) hm
 subst e;cases r3;exact wpAny_truthy_bool ⟨H3,I3,q3⟩
theorem xR:(sizeLine:Nat)<2^63:=by rw[sizeLine_eq];decide
theorem vals1 {x:V}{us:List Value}(r:Vals [x] us): ∃u,us=[u]/\RelV x u:=by
 cases r with
 | cons r1 r2=>cases r2;exact⟨_,rfl,r1⟩
theorem vals2 {x y:V}{us:List Value}(r:Vals [x,y] us): ∃u w',us=[u,w']/\RelV x u/\RelV y w':=by
 cases r with
 | cons r1 r2=>
  cases r2 with
  | cons r3 r4=>cases r4;exact⟨_,_,rfl,r1,r3⟩
theorem bD5:iC X (.builtin "abs") (λxs H Q=> ∃i,xs=[.int i]/\Q (.int (if i<0 then -i else i)) H):=by
 intro pins s σ H xs us Q I r h;obtain⟨i,rfl,q⟩:=h;obtain⟨u,rfl,t,rfl⟩:=vals1 r;exact call_abs_int λu tk=>⟨.int (if i<0 then -i else i),H,I.tok _,⟨_,rfl⟩,q⟩
theorem b70 (hc:X.calm=true):iC X (.builtin "max") (λxs H Q=> ∃i j,xs=[.int i,.int j]/\Q (.int (if j>i then j else i)) H):=by
 intro pins s σ H xs us Q I r h;obtain⟨i,j,rfl,q⟩:=h;obtain⟨u,w',rfl,⟨t,rfl⟩,⟨t',rfl⟩⟩:=vals2 r;refine max_two_ints (I.ok.hd hc) λh' tk k=>⟨_,H,I.kept k,?_,q⟩
 by_cases hj:j>i
 ·rw[if_pos hj,if_pos hj];exact⟨_,rfl⟩
 ·rw[if_neg hj,if_neg hj];exact⟨_,rfl⟩
theorem b71 (hc:X.calm=true):iC X (.builtin "min") (λxs H Q=> ∃i j,xs=[.int i,.int j]/\Q (.int (if j<i then j else i)) H):=by
 intro pins s σ H xs us Q I r h;obtain⟨i,j,rfl,q⟩:=h;obtain⟨u,w',rfl,⟨t,rfl⟩,⟨t',rfl⟩⟩:=vals2 r;refine min_two_ints (I.ok.hd hc) λh' tk k=>⟨_,H,I.kept k,?_,q⟩
 by_cases hj:j<i
 ·rw[if_pos hj,if_pos hj];exact⟨_,rfl⟩
 ·rw[if_neg hj,if_neg hj];exact⟨_,rfl⟩
end
end L2
namespace L2
open PySem PySem.Spec PyProof.Rows
structure bD6 (h:Heap)(x dx C:Addr)(mA:Str->Option Value):Prop where
 obj:h.get? x=some (instObj C dx)
 ns:h.Ns1 dx mA
 ne:dx≠x
theorem aE8 {h:Heap}{dx:Addr}{mA:Str->Option Value}(n:h.Ns1 dx mA): ∃od,h.get? dx=some od/\ ∀name,PySem.W.lookIn name od=some (mA name):=by
 obtain⟨o,es,ep,ho,hd,hk,_,hm⟩:=n;refine⟨o,ho,λname=> ?_⟩
 have e:=hm name;unfold nsFind findBy at e;rw[<-Array.find?_toList]at e;unfold PySem.W.lookIn;rw[hd];dsimp only;split
 ·rename_i y q
  rw[q]at e;exact congrArg some e
 ·rename_i q
  rw[q]at e;have a:es.toList.any (·.refKey)=false:=by
   rw[List.any_eq_false];intro y hy;obtain⟨z,t,hkey⟩:=hk y (Array.mem_toList_iff.mp hy);simp[DictEntry.refKey,hkey]
  have a': ¬es.toList.any (·.refKey)=true:=by rw[a];exact Bool.false_ne_true
  rw[if_neg a'];exact congrArg some e
theorem bD6.look {h:Heap}{x dx C:Addr}{mA:Str->Option Value}(I:bD6 h x dx C mA): ∃od,PySem.W.InstAt h x (instObj C dx) C (some od)/\ ∀name,PySem.W.lookIn name od=some (mA name):=
 let ⟨od,ho,hl⟩:=aE8 I.ns
 ⟨od,⟨I.obj,rfl,rfl,ho⟩,hl⟩
section
variable {prog:Program}{w:World}{A:Around}{E:Value->Shared->Prop}{s:Shared}{K:PySem.W.Frag}{x dx C f:Addr}{mA:Str->Option Value}{name:Str}{v:Value}
theorem bR2 {ns:List Str}{Q:Unit->Shared->Prop}(X:K.In s.heap)(I:bD6 s.heap x dx C mA)
  (hs:PySem.W.findIn K (.ref C) "__setattr__"=some (some (.builtin "object.__setattr__"))) (hp:plainOver K C=true) (ht:takerIn K C name=some none) (hh:PySem.W.hasDictIn K C=true)
  (hw:PySem.Within mA ns) (hsz:ns.length<=sizeLine)
  (h: ∀h',bD6 h' x dx C (λy=>if y=name then some v else mA y)->SameBut dx s.heap h'->Q () {s with heap:=h',toks:=s.toks+2}) :
  wpAny (model prog w) A (setAttr (.ref x) name v) Q E s:=by
 obtain⟨od,J,hl⟩:=I.look;refine PySem.W.set_plain X J hs (PySem.W.osa_open (s:={s with toks:=s.toks+1}) (r:=none) X J hp ht λb=> ?_)
 obtain⟨cd,hc,hd'⟩:=PySem.W.any_some hh;have hx:s.heap.get? x=some ⟨.ref C,some dx,.plain,#[]⟩:=I.obj;refine wpAny_bind (wpAny_pure (wpAny_bind (wpAny_bind (wpAny_loadPart hx (wpAny_bind (PySem.W.Looks.here (s:={s with toks:=s.toks+1}) (looks_clsIn X hc) ?_))))));rw[hd'];refine wpAny_pure (a:=some dx) (wpAny_bind (wpAny_pure (wpAny_bind ?_)))
 refine wpAny_nsSet1 (s:={s with toks:=s.toks+1}) I.ns λh' hn2 hs2=> ?_
 obtain⟨oD,esD,epD,hoD,hdD,hcD⟩:=hn2.count (PySem.Within.cons name v hw);refine wpAny_bind (wpAny_lookBehind hoD (by rw[hdD];exact pastItsLine_dict (le_trans hcD (by rw[length_cons];lia))) ?_)
 exact wpAny_pure (h _ ⟨(hs2.2 _ (Ne.symm I.ne)).trans I.obj,hn2,I.ne⟩ hs2)
theorem bD7 {R:Result->Shared->Prop}{vs:List Value}{kw:List (Str×Value)}(X:K.In s.heap)(hm:makesIn K C=true)
  (hi:PySem.W.findIn K (.ref C) "__init__"=some (some (.ref f))) (hf:PySem.W.typeIn K (.ref f)=some (.type "function"))
  (h:codeAny (model prog w) (A.under (.builtin "type.__call__" ⟨.ref C::vs,kw⟩)) (.call (.ref f) ⟨.ref (s.heap.objs.size+1)::vs,kw⟩) (PySem.W.InitBack (s.heap.objs.size+1) R)
   {s with heap:=(s.heap.push emptyDict).push (instObj C s.heap.objs.size)}) :
  codeAny (model prog w) A (.call (.ref C) ⟨vs,kw⟩) R s:=by
 obtain⟨hh,g,d,t,os⟩:=s;exact PySem.W.make_core (PySem.W.makes_of X hm) (PySem.W.looks_findIn X hi) (λself=>PySem.W.bind_fn X self hf) (.inl rfl) h
end
def mZ (f:Str)(v:V):List (Str×V)->List (Str×V)
 | []=>[(f,v)]
 | (g,x)::r=>if g=f then(g,v)::r else(g,x)::mZ f v r
theorem yV (f g:Str)(v:V): ∀fs:List (Str×V),(mZ f v fs).lookup g=if g=f then some v else fs.lookup g
 | []=>by
  show List.lookup g [(f,v)]=_
  by_cases h:g=f
  ·have hb:(g==f)=true:=beq_iff_eq.mpr h;simp only[List.lookup,hb,if_pos h]
  ·have hb:(g==f)=false:=beq_eq_false_iff_ne.mpr h;simp only[List.lookup,hb,if_neg h]
 | (k,x)::r=>by
  have ih:=yV f g v r;rw[show mZ f v ((k,x)::r)=(if k=f then(k,v)::r else(k,x)::mZ f v r)from rfl]
  by_cases hk:k=f
  ·rw[if_pos hk]
   by_cases h:g=k
   ·have hb:(g==k)=true:=beq_iff_eq.mpr h;simp only[List.lookup,hb,if_pos (h.trans hk)]
   ·have hb:(g==k)=false:=beq_eq_false_iff_ne.mpr h;simp only[List.lookup,hb,if_neg (λe:g=f=>h (e.trans hk.symm))]
  ·rw[if_neg hk]
   by_cases h:g=k
   ·have hb:(g==k)=true:=beq_iff_eq.mpr h;simp only[List.lookup,hb,if_neg (λe:g=f=>hk (h.symm.trans e))]
   ·have hb:(g==k)=false:=beq_eq_false_iff_ne.mpr h;simp only[List.lookup,hb];exact ih
theorem xS (f:Str)(v:V): ∀fs:List (Str×V),f∈(mZ f v fs).map (·.1)/\ ∀g,g∈fs.map (·.1)->g∈(mZ f v fs).map (·.1)
 | []=>⟨by simp[mZ],λg h=>by simp at h⟩
 | (k,x)::r=>by
  obtain⟨i1,i2⟩:=xS f v r;rw[show mZ f v ((k,x)::r)=(if k=f then(k,v)::r else(k,x)::mZ f v r)from rfl]
  by_cases hk:k=f
  ·rw[if_pos hk];subst hk;exact⟨by simp,λg h=>by simpa using h⟩
  ·rw[if_neg hk];refine⟨?_,λg h=> ?_⟩
   ·rw[map_cons];exact mem_cons_of_mem _ i1
   ·rw[map_cons]at h⊢;rcases List.mem_cons.mp h with e|e
    ·exact List.mem_cons.mpr (.inl e)
    ·exact mem_cons_of_mem _ (i2 g e)
theorem yW (f:Str)(v:V): ∀fs:List (Str×V),(mZ f v fs).length<=fs.length+1
 | []=>by simp[mZ]
 | (k,x)::r=>by
  have ih:=yW f v r;rw[show mZ f v ((k,x)::r)=(if k=f then(k,v)::r else(k,x)::mZ f v r)from rfl]
  by_cases hk:k=f
  ·rw[if_pos hk,length_cons,length_cons];lia
  ·rw[if_neg hk,length_cons,length_cons];lia
theorem aI7.some_of {v:V}{o:Option Value}(r:aI7 (some v) o): ∃u,o=some u/\RelV v u:=by
 cases o with
 | none=>exact(show False from r).elim
 | some u=>exact⟨u,rfl,r⟩
theorem aI7.none_of {o:Option Value}(r:aI7 none o):o=none:=by
 cases o with
 | none=>rfl
 | some u=>exact(show False from r).elim
theorem b72 {v:V}{u:Value}(r:RelV v u):PySem.W.handedIn u=true:=by
 cases v with
 | non=>cases (show u=Value.none from r);rfl
 | bl b=>cases (show u=Value.bool b from r);rfl
 | int i=>obtain⟨t,e⟩:=(show ∃t,u=Value.int i t from r);cases e;rfl
 | str x=>obtain⟨t,e⟩:=(show ∃t,u=Value.str x t from r);cases e;rfl
 | byt b=>obtain⟨t,e⟩:=(show ∃t,u=Value.bytes b t from r);cases e;rfl
 | flt b=>obtain⟨t,e⟩:=(show ∃t,u=Value.float b t from r);cases e;rfl
 | ref a=>cases (show u=Value.ref a from r);rfl
 | ty n=>cases (show u=Value.type n from r);rfl
section
variable {P:Program}{w:World}{H H':Hp}{h h':Heap}{a C dx:Addr}{fs fs':List (Str×V)}
theorem bR3 (hok:HOk P w H h)(e:H a=some (.ins C dx fs)): ∃mA,bD6 h a dx C mA/\(∀f,aI7 (fs.lookup f) (mA f))/\PySem.Within mA (fs.map (·.1))/\fs.length<=1000/\H dx=some (.own a):=by
 obtain⟨d,z,ne,ob,mA,n,r,q⟩:=(show jB P w H h a (.ins C dx fs)from hok a _ e)
 exact⟨mA,⟨ob,n,ne⟩,r,q,z,d⟩
end
structure Cls (K:PySem.W.Frag)(C:Addr):Prop where
 pg:plainGet K C Str.empty=true
 hd:PySem.W.hasDictIn K C=true
 po:plainOver K C=true
 sa:PySem.W.findIn K (.ref C) "__setattr__"=some (some (.builtin "object.__setattr__"))
theorem Cls.get {K:PySem.W.Frag}{C:Addr}(c:Cls K C)(f:Str):plainGet K C f=true:=c.pg
def xT (K:PySem.W.Frag)(C:Addr)(f:Str):Prop:=PySem.W.findIn K (.ref C) f=some none
theorem xT.taker {K:PySem.W.Frag}{C:Addr}{f:Str}(n:xT K C f):takerIn K C f=some none:=by
 unfold takerIn;rw[show PySem.W.findIn K (.ref C) f=some none from n]
 rfl
section
variable {X:Cx}{pins:List (Addr×Obj)}{σ:St}{H:Hp}{s:Shared}{a C dx:Addr}{fs:List (Str×V)}{f:Str}{v:V}{A:Around}{E:Value->Shared->Prop}
theorem aX2 {y:V}{u:Value}{Q:Unit->Shared->Prop}(I:Inv X pins σ H s)(e:H a=some (.ins C dx fs))(c:Cls X.K C)(n:xT X.K C f)(hl:fs.length<1000)(ry:RelV y u)
  (h: ∀s',Inv X pins σ (upd H a (.ins C dx (mZ f y fs))) s'->Q () s'):wpAny (model X.prog X.w) A (setAttr (.ref a) f u) Q E s:=by
 obtain⟨mA,O,r,wi,_,ho⟩:=bR3 I.hok e;have hz:(fs.map (·.1)).length<=sizeLine:=by rw[length_map,sizeLine_eq];lia
 refine bR2 I.kIn O c.sa c.po n.taker c.hd wi hz λh' O' sb=>h _ ?_
 have hd: ∃o,h'.get? dx=some o:=let ⟨o,_,_,e',_⟩:=O'.ns;⟨o,e'⟩;refine I.write (x:=a) (e:=dx) (by rw[e];exact True.intro) (.inr ho) (λb q hb z=>(sb.2 b hb).trans z) hd ?_
 refine⟨by rw[aT O.ne];exact ho,?_,O.ne,O'.obj,_,O'.ns,λg=> ?_,λg hg=> ?_⟩
 ·have:=yW f y fs;lia
 ·show aI7 ((mZ f y fs).lookup g) (if g=f then some u else mA g)
  rw[yV]
  by_cases q:g=f
  ·rw[if_pos q,if_pos q];exact ry
  ·rw[if_neg q,if_neg q];exact r g
 ·by_cases q:g=f
  ·rw[q];exact(xS f y fs).1
  ·refine(xS f y fs).2 g (wi g λz=>hg ?_)
   show(if g=f then some u else mA g)=none
   rw[if_neg q];exact z
theorem Inv.made (I:Inv X pins σ H s):Inv X pins σ (upd (upd H s.heap.objs.size (.own (s.heap.objs.size+1))) (s.heap.objs.size+1) (.ins C s.heap.objs.size []))
  {s with heap:=(s.heap.push emptyDict).push (instObj C s.heap.objs.size)}:=by
 have e1:(s.heap.push emptyDict).get? s.heap.objs.size=some emptyDict:=get?_push_size s.heap rfl;have e2:((s.heap.push emptyDict).push (instObj C s.heap.objs.size)).get? (s.heap.objs.size+1)=some (instObj C s.heap.objs.size):=by
  have:=get?_push_size (s.heap.push emptyDict) (o:=instObj C s.heap.objs.size) rfl
  rwa [size_push]at this
 have e3:(s.heap.push emptyDict).Ns s.heap.objs.size (λ_=>none):=⟨emptyDict,#[],_,e1,rfl,(λe he=>absurd he (by simp)),λ_=>rfl⟩
 have I1:=I.laid (a:=s.heap.objs.size) (o:= .own (s.heap.objs.size+1)) (h':=s.heap.push emptyDict) (t':=s.toks) (λb u q=>get?_push_of_some _ q) (le_refl _) ⟨_,e1⟩
 refine I1.laid (a:=s.heap.objs.size+1) (o:= .ins C s.heap.objs.size []) (t':=s.toks) (λb u q=>get?_push_of_some _ q) (le_of_eq (size_push _ _)) ?_
 have ne:s.heap.objs.size≠s.heap.objs.size+1:=ne_of_lt (lt_succ_self _);refine⟨by rw[aT ne,dS],zero_le _,ne,e2,λ_=>none,(Heap.Ns1.of_empty e3).at λo q=>get?_push_of_some _ q,λ_=>True.intro,λy hy=>absurd rfl hy⟩
theorem bR4 {prog:Program}{w:World}{env:Env}{e:Expr}{f:Str}{pos:Pos}{s:Shared}{Q:Value->Shared->Prop}(hb:attributeBase e f env (eval e env)=eval e env)
  (h:wpAny (model prog w) A (eval e env) (λo s₁=>wpAny (model prog w) A (getAttr o f true) Q E s₁) E s):wpAny (model prog w) A (eval (.Attribute e f pos) env) Q E s:=
 Attribute_any_ h (by rw[arm_eval_Attribute,hb])
end
def bD8 (K:PySem.W.Frag)(ta tv:TE)(f:Str):TS:=λD σ H=>tv σ H λy H1=>ta σ H1 λx H2=> ∃a C dx fs,x= .ref a/\H2 a=some (.ins C dx fs)/\Cls K C/\xT K C f/\fs.length<1000/\
 D.nx σ (upd H2 a (.ins C dx (mZ f y fs)))
section
variable {X:Cx}{o e value:Expr}{f:Str}{pos pos' tpos:Pos}{ta tv:TE}
theorem aX3 (ha:PE X o ta)(hv:PE X value tv)(hs:swapsWith value (some (.Attribute o f pos')) pos.line X.env=pure false):PS X (.Assign [.Attribute o f pos'] value pos) (bD8 X.K ta tv f):=by
 intro pins s σ H D I h;refine plainObj_wpAny_Assign_Attribute (thn (hv pins s σ H _ I h) λu s1 ⟨y,H1,I1,ry,q⟩=>thn (ha pins s1 σ H1 _ I1 q) λov s2 ⟨x,H2,I2,rx,a,C,dx,fs,ex,ea,c,n,l,q2⟩=> ?_) hs
 subst ex;obtain rfl:ov=Value.ref a:=rx;exact aX2 I2 ea c n l ry λs3 I3=>⟨σ,_,I3,q2⟩
end
end L2
namespace L2
open PySem PySem.Spec PyProof.Rows
structure dA (k:Nat)(A:Around):Prop where
 hd:A.handled=none
 dp:A.depth+3*k+5<recursionLimit
 un:A.units+16*k+200<cLine
theorem dA.mono {j k:Nat}{A:Around}(r:dA k A)(h:j<=k):dA j A:=⟨r.hd,by have:=r.dp;lia,by have:=r.un;lia⟩
theorem dA.deeper {k:Nat}{A:Around}(r:dA (k+1) A)(env:Env):dA k (A.deeper env):=
 ⟨r.hd,by have:=r.dp;show A.depth+1+3*k+5<_;lia,by have:=r.un;show A.units+3+16*k+200<_;lia⟩
theorem dA.in1 {k:Nat}{A:Around}(r:dA (k+1) A):dA k A.in1:=
 ⟨r.hd,by have:=r.dp;show A.depth+3*k+5<_;lia,by have:=r.un;show A.units+1+16*k+200<_;lia⟩
theorem aX4 {A:Around}{C:Addr}{us:List Value}{kw:List (Str×Value)}:(A.under (.builtin "type.__call__" ⟨.ref C::us,kw⟩)).depth=A.depth+1:=by
 first|rfl|simp[Around.under,Code.weight,Code.isCreation,Code.isGuard,Code.isCaller,Code.frames,Code.isFrame,guardIds]
theorem aX5 {A:Around}{C:Addr}{us:List Value}{kw:List (Str×Value)}:(A.under (.builtin "type.__call__" ⟨.ref C::us,kw⟩)).units=A.units+1:=by
 first|rfl|simp[Around.under,Code.cUnits,Code.frames,Code.isFrame]
theorem dA.make {k:Nat}{A:Around}(r:dA (k+1) A)(C:Addr)(us:List Value)(kw:List (Str×Value)):dA k (A.under (.builtin "type.__call__" ⟨.ref C::us,kw⟩)):=
 ⟨r.hd,by have:=r.dp;rw[aX4];omega,by have:=r.un;rw[aX5];omega⟩
theorem dA.depth {k:Nat}{A:Around}(r:dA k A):A.depth<recursionLimit:=by have:=r.dp;lia
theorem dA.units {k:Nat}{A:Around}(r:dA k A):A.units+64<cLine:=by have:=r.un;lia
def tNil:TA:=λ_ H Q=>Q [] H
def tCons (ta:TE)(tr:TA):TA:=λσ H Q=>ta σ H λx H1=>tr σ H1 λxs H2=>Q (x::xs) H2
section
variable {X:Cx}{e:Expr}{es:List Expr}{te:TE}{t:TA}{pos:Pos}
theorem aX6:PA X [] tNil:=λ_ _ _ _ H Q I h=>Calls.spliced_nil ⟨[],H,I,.nil,h⟩
theorem aJ3 (ha:PE X e te)(hr:PA X es t)(hs:starEach (e::es) X.env=(false,eval e X.env)::starEach es X.env:=by rfl):PA X (e::es) (tCons te t):=by
 intro pos pins s σ H Q I h;rw[hs];show wpAny _ _ (spliced ((false,eval e X.env)::backTo pos (starEach es X.env))) _ _ s;refine Calls.spliced_cons (thn (ha pins s σ H _ I h) λu s1 ⟨x,H1,I1,r1,q1⟩=> ?_)
 exact thn (hr pos pins s1 σ H1 _ I1 q1) λus s2 ⟨xs,H2,I2,r2,q2⟩=>⟨x::xs,H2,I2,.cons r1 r2,q2⟩
def tTup (t:TA):TE:=λσ H Q=>t σ H λxs H1=>xs.length<=sizeLine/\ ∀p,H1 p=none->Q (.ref p) (upd H1 p (.tup xs))
def tLst (t:TA):TE:=λσ H Q=>t σ H λxs H1=>xs.length<=sizeLine/\ ∀p,H1 p=none->Q (.ref p) (upd H1 p (.lst xs))
theorem pe_tup {x1}(h:PA X es t):PE X (.Tuple es x1 pos) (tTup t):=by
 intro pins s σ H Q I hq;refine wpAny_Tuple_spliced (thn (h pos pins s σ H _ I hq) λus s1 ⟨xs,H1,I1,r,z,q⟩=>⟨by rw[<-r.length];exact z,?_⟩)
 have hf:H1 s1.heap.objs.size=none:=I1.hok.fresh (le_refl _);refine⟨.ref s1.heap.objs.size,upd H1 s1.heap.objs.size (.tup xs),I1.laid (t':=s1.toks) (λb u e=>get?_push_of_some _ e) (le_refl _) ?_,rfl,q _ hf⟩
 exact⟨z,us,r,⟨_,get?_push_size _ rfl,rfl,_,rfl⟩⟩
theorem pe_lst (h:PA X es t):PE X (.List es pos) (tLst t):=by
 intro pins s σ H Q I hq;refine wpAny_List_spliced (thn (h pos pins s σ H _ I hq) λus s1 ⟨xs,H1,I1,r,z,q⟩=>⟨by rw[<-r.length];exact z,?_⟩)
 have hf:H1 s1.heap.objs.size=none:=I1.hok.fresh (le_refl _);refine⟨.ref s1.heap.objs.size,upd H1 s1.heap.objs.size (.lst xs),I1.laid (t':=s1.toks) (λb u e=>get?_push_of_some _ e) (le_refl _) ?_,rfl,q _ hf⟩
 exact⟨z,us,0,r,get?_push_size _ rfl⟩
end
abbrev Sp:=List V->Hp->VK->XK->Prop
abbrev CXT:=List Env->Hp->Shared->XK->Value->Shared->Prop
structure aB5 (P:Program)(w:World)(K:PySem.W.Frag)(mg:Str->Option Value)(base:Heap)(A:Around)(outer:List Env)(s:Shared)(H:Hp):Prop where
 frames:A.frames=some outer
 mod:Mod K mg base
 bs: ∀b o,base.get? b=some o->s.heap.get? b=some o/\H b=none
 bsz:base.objs.size<=s.heap.objs.size
 funs:s.heap.FunFrames base outer
 frf: ∀b∈frs outer,H b=none
 hok:HOk P w H s.heap
 bare:AllBare s.gens
def CE (outer:List Env)(P:Program)(w:World)(H:Hp)(s:Shared)(Q:VK)(u:Value)(s':Shared):Prop:=
 ∃v H',s'.os=s.os/\AllBare s'.gens/\Un (frs outer) [] H H' s.heap s'.heap/\HOk P w H' s'.heap/\RelV v u/\Q v H'
def CR (CX:CXT)(outer:List Env)(P:Program)(w:World)(H:Hp)(s:Shared)(Q:VK)(E:XK)(r:Result)(s':Shared):Prop:=
 match r with
 | .ok (.ret u)=>CE outer P w H s Q u s'
 | .ok _=>False
 | .error e=>CX outer H s E e s'
structure kI (P:Program)(w:World)(K:PySem.W.Frag)(mg:Str->Option Value)(base:Heap)(CX:CXT)(k:Nat)(f:Addr)(fd:FuncData)(ps:List Str)(sp:Sp):Prop where
 len: ∀vs H Q E,sp vs H Q E->vs.length=ps.length
 run: ∀(A:Around) (outer:List Env) (s:Shared) (H:Hp) (args:Args) (us:List Value) (vs:List V) (Q:VK) (E:XK),dA k A->aB5 P w K mg base A outer s H->BindsTo s fd args (ps.zip us)->Vals vs us->sp vs H Q E->
  codeAny (model P w) A (.call (.ref f) args) (CR CX outer P w H s Q E) s
theorem kI.mono {P:Program}{w:World}{K:PySem.W.Frag}{mg:Str->Option Value}{base:Heap}{CX:CXT}{j k:Nat}{f:Addr}{fd:FuncData}{ps:List Str}{sp:Sp}(F:kI P w K mg base CX j f fd ps sp)(h:j<=k) :
  kI P w K mg base CX k f fd ps sp:=⟨F.len,λA outer s H args us vs Q E hr=>F.run A outer s H args us vs Q E (hr.mono h)⟩
theorem kI.imp {P:Program}{w:World}{K:PySem.W.Frag}{mg:Str->Option Value}{base:Heap}{CX:CXT}{k:Nat}{f:Addr}{fd:FuncData}{ps:List Str}{sp sp':Sp}(F:kI P w K mg base CX k f fd ps sp)
  (h: ∀vs H Q E,sp' vs H Q E->sp vs H Q E):kI P w K mg base CX k f fd ps sp':=
 ⟨λvs H Q E q=>F.len vs H Q E (h _ _ _ _ q),λA outer s H args us vs Q E hr he hb hv hs=>F.run A outer s H args us vs Q E hr he hb hv (h _ _ _ _ hs)⟩
theorem aB5.make {P:Program}{w:World}{K:PySem.W.Frag}{mg:Str->Option Value}{base:Heap}{A:Around}{outer:List Env}{s:Shared}{H:Hp}(e:aB5 P w K mg base A outer s H)(C:Addr)(us:List Value)(kw:List (Str×Value)) :
  aB5 P w K mg base (A.under (.builtin "type.__call__" ⟨.ref C::us,kw⟩)) outer s H:=⟨by first|exact e.frames| (simpa[Around.under,Code.envs,Code.isFrame,pushEnvs]using e.frames),e.mod,e.bs,e.bsz,e.funs,e.frf,e.hok,e.bare⟩
theorem aB5.in1 {P:Program}{w:World}{K:PySem.W.Frag}{mg:Str->Option Value}{base:Heap}{A:Around}{outer:List Env}{s:Shared}{H:Hp}(e:aB5 P w K mg base A outer s H) :
  aB5 P w K mg base A.in1 outer s H:=⟨e.frames,e.mod,e.bs,e.bsz,e.funs,e.frf,e.hok,e.bare⟩
section
variable {X:Cx}{pins:List (Addr×Obj)}{σ:St}{H:Hp}{s s':Shared}
theorem Inv.env0 (I:Inv X pins σ H s):aB5 X.prog X.w X.K X.mg X.base X.A X.stack s H:=
 ⟨I.ok.frames,I.ok.mod,I.bs,le_trans I.ok.bsz I.sz,I.stack,I.stkFree,I.hok,I.bare⟩
theorem Inv.after {Q:VK}{u:Value}(I:Inv X pins σ H s)(h:CE X.stack X.prog X.w H s Q u s'):EP X pins σ Q u s':=by
 obtain⟨v,H',os,bare,un,hok,r,q⟩:=h;obtain⟨hh,g,d,t,os'⟩:=s';obtain rfl:os'=s.os:=os;exact⟨v,H',I.call (h':=hh) (g':=g) (d':=d) (t':=t) (ch:=[]) un hok bare (λb z=>absurd z (by simp)),r,q⟩
end
def bD9 (sp:Sp)(dvs:List V)(E:XK)(t:TA):TE:=λσ H Q=>t σ H λvs H1=>sp (vs++dvs) H1 Q E
def bZ8 (C:Addr)(sp:Sp)(dvs:List V)(E:XK)(t:TA):TE:=λσ H Q=>t σ H λvs H1=> ∀x dx,H1 x=none->H1 dx=none->dx≠x->
 sp (.ref x::(vs++dvs)) (upd (upd H1 dx (.own x)) x (.ins C dx [])) (λv H2=>v= .non/\Q (.ref x) H2) E
def Binds (K:PySem.W.Frag)(fd:FuncData)(ps:List Str)(ds:List Value):Prop:=
 ∀(s:Shared) (us:List Value),K.In s.heap->(us++ds).length=ps.length->BindsTo s fd ⟨us,[]⟩ (ps.zip (us++ds))
theorem Binds.all {K:PySem.W.Frag}{fd:FuncData}{ps:List Str}(h: ∀us:List Value,us.length=ps.length->bindArgs fd ⟨us,[]⟩=pure (ps.zip us)):Binds K fd ps []:=λs us _ hl=>by
 rw[append_nil]at hl⊢;exact .of_eq (h us hl)
def vA (CX:CXT)(X:Cx)(E:XK):Prop:= ∀(pins:List (Addr×Obj)) (σ:St) (H:Hp) (s:Shared) (e:Value) (s':Shared),Inv X pins σ H s->CX X.stack H s E e s'->X.xe e s'
section
variable {X:Cx}{CX:CXT}{k:Nat}{f C:Addr}{fd:FuncData}{ps:List Str}{sp:Sp}{dvs:List V}{ds:List Value}{E:XK}{x m:Str}{p pos apos:Pos}{e o:Expr}{es:List Expr}{ta:TE}{t:TA}
theorem bE0 {pins:List (Addr×Obj)}{σ:St}{H:Hp}{s:Shared}{Q:VK}{us:List Value}{vs:List V}(F:kI X.prog X.w X.K X.mg X.base CX k f fd ps sp)(hr:dA k X.A)(hb:Binds X.K fd ps ds)(hd:Vals dvs ds)(hx:vA CX X E)
  (I:Inv X pins σ H s) (r:Vals vs us) (h:sp (vs++dvs) H Q E):wpAny (model X.prog X.w) X.A (call (.ref f) us) (EP X pins σ Q) X.xe s:=by
 have r2:Vals (vs++dvs) (us++ds):=r.append hd;have hl:(us++ds).length=ps.length:=by rw[<-r2.length];exact F.len _ _ _ _ h
 refine wpAny_call (codeAny_mono (F.run X.A X.stack s H ⟨us,[]⟩ (us++ds) (vs++dvs) Q E hr I.env0 (hb s us I.kIn hl) r2 h) λr s' hq=> ?_)
 cases r with
 | error e=>exact hx pins σ H s e s' I hq
 | ok fl=>
  cases fl with
  | ret u=>exact I.after hq
  | next=>exact False.elim hq
  | brk=>exact False.elim hq
  | cont=>exact False.elim hq
theorem b27 (F:kI X.prog X.w X.K X.mg X.base CX k f fd ps sp)(hr:dA k X.A)(hg:Gl X x)(hm:X.mg x=some (.ref f))(hk:keepIn X.K (.ref f)=true)(hb:Binds X.K fd ps ds)(hd:Vals dvs ds)(hx:vA CX X E)
  (ha:PA X (e::es) t) (hdb:(x==("__debug__":Str))=false:=by decide) (he:starEach (e::es) X.env=(false,eval e X.env)::starEach es X.env:=by rfl) (hpl:(backTo pos (starEach es X.env)).any (·.1)=false:=by rfl) :
  PE X (.Call (.Name x p) (e::es) [] pos) (bD9 sp dvs E t):=by
 intro pins s σ H Q I h;refine wpAny_Call_Name_kw (l6 I hg hm ?_ hdb);refine PySem.W.callWith_K (h₀:=X.base) I.ok.mod.kin hk (thn (ha pos pins s σ H _ I h) λus s1 ⟨vs,H1,I1,r,q⟩=>⟨I1.kIn,?_⟩) he hpl
 exact bE0 F hr hb hd hx I1 r q
theorem bE1 (F:kI X.prog X.w X.K X.mg X.base CX k f fd ps sp)(hr:dA k X.A)(hg:Gl X x)(hm:X.mg x=some (.ref f))(hk:keepIn X.K (.ref f)=true)(hb:Binds X.K fd ps ds)(hd:Vals dvs ds)(hx:vA CX X E)
  (hdb:(x==("__debug__":Str))=false:=by decide):PE X (.Call (.Name x p) [] [] pos) (bD9 sp dvs E tNil):=by
 intro pins s σ H Q I h;refine wpAny_Call_Name_kw (l6 I hg hm ?_ hdb);exact PySem.W.callWith_K0 I.kIn hk (bE0 (us:=[]) F hr hb hd hx I .nil h)
structure Mk (K:PySem.W.Frag)(C f:Addr):Prop where
 makes:makesIn K C=true
 init:PySem.W.findIn K (.ref C) "__init__"=some (some (.ref f))
 fn:PySem.W.isFn K (.ref f)=true
 kp:keepIn K (.ref C)=true
end
section
variable {X:Cx}{CX:CXT}{k:Nat}{f C:Addr}{fd:FuncData}{ps ks:List Str}{sp:Sp}{E:XK}{x m:Str}{p pos apos kpos:Pos}{e o:Expr}{es:List Expr}{kws:List Keyword}{te ta:TE}{t tk:TA}{nm:Option Str}
variable {g:List Value->List Value->List Value}{gV:List V->List V->List V}
end
structure aP (N P:List Str)(sc:Scope):Prop where
 kind:sc.kind= .function
 co:sc.isCoroutine=false
 gen:sc.isGenerator=false
 nd:N.Nodup
 pre:N.take P.length=P
 par: ∀x∈P,sc.names.lookup x=some .local\/sc.names.lookup x=some .cell
 nofree: ∀y∈sc.names,y.2≠ .free
theorem aE9 {kindOf:Str->Option NameKind}{x:Str}: ∀{binds:List (Str×Value)} {m:Str->Option Value},(∀v,(x,v) ∉ binds)->bindL kindOf binds m x=m x
 | [],_,_=>rfl
 | (n,v)::r,m,h=>by
  unfold bindL;rw[aE9 λw hw=>h w (mem_cons_of_mem _ hw)]
  split
  ·have:x≠n:=by rintro rfl;exact h v mem_cons_self
   simp[this]
  ·rfl
theorem aF0 {kindOf:Str->Option NameKind}{x:Str}: ∀{binds:List (Str×Value)} {m:Str->Option Value},(∀v,(x,v) ∉ binds)->bindC kindOf binds m x=m x
 | [],_,_=>rfl
 | (n,v)::r,m,h=>by
  unfold bindC;rw[aF0 λw hw=>h w (mem_cons_of_mem _ hw)]
  split
  ·rfl
  ·have:x≠n:=by rintro rfl;exact h v mem_cons_self
   simp[this]
theorem aF1 {kindOf:Str->Option NameKind}{x:Str}{v:Value}: ∀{P:List Str} {vs:List Value} {i:Nat} {m:Str->Option Value},P.Nodup->P[i]? =some x->vs[i]? =some v->kindOf x=some .local->
  bindL kindOf (P.zip vs) m x=some v
 | [],_,_,_,_,h,_,_=>by simp at h
 | _::_,[],_,_,_,_,h,_=>by simp at h
 | p::P,w::vs,0,m,nd,h1,h2,hk=>by
  simp at h1 h2;subst h1;subst h2
  show bindL kindOf ((p,w)::P.zip vs) m p=_
  unfold bindL;rw[aE9 λv hv=>(List.nodup_cons.mp nd).1 (of_mem_zip hv).1,if_pos hk]
  simp
 | p::P,w::vs,i+1,m,nd,h1,h2,hk=>by
  show bindL kindOf ((p,w)::P.zip vs) m x=_
  unfold bindL;exact aF1 (i:=i) (List.nodup_cons.mp nd).2 (by simpa using h1) (by simpa using h2) hk
theorem aF2 {kindOf:Str->Option NameKind}{x:Str}{v:Value}: ∀{P:List Str} {vs:List Value} {i:Nat} {m:Str->Option Value},P.Nodup->P[i]? =some x->vs[i]? =some v->kindOf x≠some .local->
  bindC kindOf (P.zip vs) m x=some v
 | [],_,_,_,_,h,_,_=>by simp at h
 | _::_,[],_,_,_,_,h,_=>by simp at h
 | p::P,w::vs,0,m,nd,h1,h2,hk=>by
  simp at h1 h2;subst h1;subst h2
  show bindC kindOf ((p,w)::P.zip vs) m p=_
  unfold bindC;rw[aF0 λv hv=>(List.nodup_cons.mp nd).1 (of_mem_zip hv).1,if_neg hk]
  simp
 | p::P,w::vs,i+1,m,nd,h1,h2,hk=>by
  show bindC kindOf ((p,w)::P.zip vs) m x=_
  unfold bindC;exact aF2 (i:=i) (List.nodup_cons.mp nd).2 (by simpa using h1) (by simpa using h2) hk
def start (N:List Str)(vs:List V):St:=vs.map some++replicate (N.length-vs.length) none
def nU (CX:CXT)(P:Program)(w:World)(K:PySem.W.Frag)(mg:Str->Option Value)(base:Heap)(N:List Str)(qual:Str)(scope:Scope)(f:Addr)(cd:Value)(A:Around)(outer:List Env)(s:Shared)(H:Hp)(E:XK):Cx where
 prog:=P
 w:=w
 K:=K
 mg:=mg
 base:=base
 A:=A.deeper (envOfC qual scope s.heap.objs.size f cd)
 N:=N
 s₀:=s
 H₀:=H
 env:=envOfC qual scope s.heap.objs.size f cd
 outer:=outer
 stack:=envOfC qual scope s.heap.objs.size f cd::outer
 ex:=[]
 calm:=true
 fn:=λ_=>true
 pn:=[]
 xe:=λe s'=>wpAny (model P w) (A.deeper (envOfC qual scope s.heap.objs.size f cd)) (leaving (envOfC qual scope s.heap.objs.size f cd) e) (λ_ s''=>CX outer H s E e s'') (λe' s''=>CX outer H s E e' s'') s'
theorem aQ1 {sc:Scope}{n:Nat}{x:Str}(h:sc.names.lookup x=some .cell): ∃c,(cellsFrom n sc.names []).lookup x=some c:=by
 have q:=cellsFrom_some sc.names n [] (.inl h);exact Option.isSome_iff_exists.mp q
theorem aF3 {CX:CXT}{P:Program}{w:World}{K:PySem.W.Frag}{mg:Str->Option Value}{base:Heap}{N ps:List Str}{qual:Str}{scope:Scope}{f:Addr}{cd:Value}{A:Around}{outer:List Env}{s s1:Shared}{H:Hp}{E:XK}{us:List Value}{vs:List V}
  (S:aP N ps scope) (hd:A.handled=none) (e0:aB5 P w K mg base A outer s H) (hl:vs.length=ps.length) (r:Vals vs us)
  (x:InCallC s s.heap.objs.size (bindL (envOfC qual scope s.heap.objs.size f cd).kindOf (ps.zip us) λ_=>none) (cellsFrom (s.heap.objs.size+1) scope.names []) (bindC (envOfC qual scope s.heap.objs.size f cd).kindOf (ps.zip us) λ_=>none) s1) :
  Inv (nU CX P w K mg base N qual scope f cd A outer s H E) [] (start N vs) H s1:=by
 have hpl:ps.length<=N.length:=by have:=congrArg List.length S.pre;rw[length_take]at this;lia
 obtain⟨h1,tk,rfl,hk⟩:=x.done;have noA: ∀b:Addr,b ∉ (nU CX P w K mg base N qual scope f cd A outer s H E).ex:=λb z=>absurd (show b∈([]:List Addr)from z) (by simp)
 refine⟨⟨e0.mod,S.kind,rfl,rfl,le_refl _,λy z c h1 h2=> ?_,λy hy=> ?_,λy c _ h=> ?_,λ_=>hd,Around.frames_deeper e0.frames,.inr ⟨rfl,rfl⟩,λb z=>absurd z (noA b),e0.bs,e0.bsz,λb _ _=>noA b,λb z=>absurd z (noA b),e0.funs,e0.frf⟩,
  rfl,e0.bare,Un.kept hk,⟨_,x.toInCall.ns,λi y v h1 h2 h3=> ?_⟩,λy c h=>⟨_,x.cell y c h⟩,e0.hok.fresh (le_refl _),λy c h=> ?_,λp hp=>absurd (show p∈([]:List (Addr×Obj))from hp) (by simp),e0.hok.kept hk,?_⟩
 ·exact name_of_addr x.apart (PySem.mem_of_lookup h1) (PySem.mem_of_lookup h2)
 ·have hy:scope.names.lookup y=some .cell\/scope.names.lookup y=some .free:=hy;rcases hy with hy|hy
  ·exact aQ1 hy
  ·exact absurd rfl (S.nofree _ (PySem.mem_of_lookup hy))
 ·exact le_of_lt (x.above y c (PySem.mem_of_lookup h))
 ·have hi:i<vs.length:=by
   unfold start at h2
   by_cases hi:i<vs.length
   ·exact hi
   ·rw[getElem?_append_right (by simpa using hi)]at h2
    rw[List.getElem?_replicate]at h2;split at h2<;>cases h2
  have ha:vs[i]? =some v:=by
   unfold start at h2;rw[List.getElem?_append_left (by simpa using hi),getElem?_map]at h2
   cases e:vs[i]? with
   | none=>rw[e]at h2;cases h2
   | some a=>rw[e]at h2;cases h2;rfl
  obtain⟨u,hu,rv⟩:=r.get ha;have hp:ps[i]? =some y:=by
   rw[<-S.pre,List.getElem?_take_of_lt (by lia)];exact h1
  have ndP:ps.Nodup:=by rw[<-S.pre];exact S.nd.sublist (List.take_sublist _ _)
  refine⟨u,rv,?_⟩
  rcases S.par y (mem_of_getElem? hp)with k|k
  ·exact .inl ⟨k,aF1 ndP hp hu k⟩
  ·obtain⟨c,e⟩:=aQ1 (n:=s.heap.objs.size+1) k;refine .inr ⟨.inl k,c,e,?_⟩;have q:=x.cell y c e;rw[aF2 ndP hp hu (by show scope.names.lookup y≠_;rw[k];decide)]at q
   exact q
 ·exact e0.hok.fresh (le_of_lt (x.above y c (PySem.mem_of_lookup h)))
 ·unfold start;show _=N.length;rw[length_append,length_map,List.length_replicate]
  lia
theorem bE2 {CX:CXT}{P:Program}{w:World}{K:PySem.W.Frag}{mg:Str->Option Value}{base:Heap}{k:Nat}{f:Addr}{name qual:Str}{params:Arguments}{body:List Stmt}{scope:Scope}{dV kV doc pm cdv ct oc:Value}{an od:Option Addr}
  {osl:Array (Option Value)} {N ps:List Str} {sp:Sp} (lk:K.lookup f=some ⟨oc,od,.func (fnOf name qual params body scope dV kV doc pm an cdv ct),osl⟩) (hcd:codeIn K cdv qual=true) (S:aP N ps scope)
  (len: ∀vs H Q E,sp vs H Q E->vs.length=ps.length)
  (hbody: ∀(A:Around) (outer:List Env) (s:Shared) (H:Hp) (vs:List V) (Q:VK) (E:XK),dA k (A.deeper (envOfC qual scope s.heap.objs.size f cdv))->sp vs H Q E->
   ∃t,PSs (nU CX P w K mg base N qual scope f cdv A outer s H E) body t/\t {nx:=λ_ H'=>Q .non H',rt:=Q} (start N vs) H) :
  kI P w K mg base CX (k+1) f (fnOf name qual params body scope dV kV doc pm an cdv ct) ps sp:=by
 refine⟨len,λA outer s H args us vs Q E hr e0 hb r hsp=> ?_⟩
 have hl:=len _ _ _ _ hsp;have KX:K.In s.heap:=e0.mod.kin.keeps λb o e=>(e0.bs b o e).1
 have lim:s.heap.NoLimit:=e0.mod.nolimit.keeps λb o e=>(e0.bs b o e).1
 have hkind: ∀y∈ps.zip us,scope.names.lookup y.1=some .local\/(scope.names.lookup y.1=some .cell/\((cellsFrom (s.heap.objs.size+1) scope.names []).lookup y.1).isSome=true):=λ⟨n,v⟩ hy=>by
  rcases S.par n (of_mem_zip hy).1 with q|q
  ·exact .inl q
  ·exact .inr ⟨q,cellsFrom_some _ _ _ (.inl q)⟩
 refine codeAny_call_function hr.depth (KX _ _ lk) rfl S.co S.gen rfl (PySem.W.codeRec_of KX hcd) (hb _ _ _ _ ?_)
 refine wpAny_newFunctionEnv_cells S.kind hkind λenv he s1 x=> ?_
 subst he;refine⟨lim.keeps x.toInCall.keep,codeAny_func ?_⟩;obtain⟨t,ht,hq⟩:=hbody A outer s H vs Q E (hr.deeper _) hsp;have I:Inv (nU CX P w K mg base N qual scope f cdv A outer s H E) [] (start N vs) H s1:=aF3 S hr.hd e0 hl r x;refine wpAny_mono (ht [] s1 (start N vs) H _ I hq) (λfl s' hs=> ?_) λe s' hs=>hs
 have fin: ∀{σ':St} {H':Hp} {v:V} {u:Value},Inv (nU CX P w K mg base N qual scope f cdv A outer s H E) [] σ' H' s'->RelV v u->Q v H'->CE outer P w H s Q u s':=
  λ{σ' H' v u} J rv q=>⟨v,H',J.os,J.bare,J.base,J.hok,rv,q⟩
 cases fl with
 | ret u=>
  obtain⟨v,σ',H',J,rv,q⟩:=hs;exact fin J rv q
 | next=>
  obtain⟨σ',H',J,q⟩:=hs;exact fin (v:=V.non) (u:=Value.none) J rfl q
 | brk=>
  obtain⟨_,_,_,q⟩:=hs;exact False.elim q
 | cont=>
  obtain⟨_,_,_,q⟩:=hs;exact False.elim q
end L2
namespace L2
open PySem PySem.Spec PyProof.Rows
section
variable {X:Cx}{x:Str}{p pos:Pos}{e:Expr}{es:List Expr}{t:TA}{id T:String}{r:List V->Hp->VK->Prop}
def tCB (r:List V->Hp->VK->Prop)(t:TA):TE:=λσ H Q=>t σ H λvs H1=>r vs H1 Q
theorem aQ2 (hc:iC X (.builtin id) r)(hg:Gl X x)(hm:X.mg x=none)(hv:bootBuiltins x=some (.builtin id))(ha:PA X (e::es) t)(hn:x≠"__name__":=by decide)(hdb:(x==("__debug__":Str))=false:=by decide)
  (he:starEach (e::es) X.env=(false,eval e X.env)::starEach es X.env:=by rfl) (hpl:(backTo pos (starEach es X.env)).any (·.1)=false:=by rfl):PE X (.Call (.Name x p) (e::es) [] pos) (tCB r t):=by
 intro pins s σ H Q I h;refine wpAny_Call_Name_kw (pQ I hg hm hv ?_ hn hdb);exact PyProof.Rows.callWith_builtin1 (thn (ha pos pins s σ H _ I h) λus s1 ⟨vs,H1,I1,r1,q1⟩=>hc pins s1 σ H1 vs us Q I1 r1 q1) he hpl
theorem b73 (hc:iC X (.type T) r)(hg:Gl X x)(hm:X.mg x=none)(hv:bootBuiltins x=some (.type T))(ha:PA X (e::es) t)(hn:x≠"__name__":=by decide)(hdb:(x==("__debug__":Str))=false:=by decide)
  (he:starEach (e::es) X.env=(false,eval e X.env)::starEach es X.env:=by rfl) (hpl:(backTo pos (starEach es X.env)).any (·.1)=false:=by rfl):PE X (.Call (.Name x p) (e::es) [] pos) (tCB r t):=by
 intro pins s σ H Q I h;refine wpAny_Call_Name_kw (pQ I hg hm hv ?_ hn hdb);exact PyProof.Rows.callWith_type1 (thn (ha pos pins s σ H _ I h) λus s1 ⟨vs,H1,I1,r1,q1⟩=>hc pins s1 σ H1 vs us Q I1 r1 q1) he hpl
end
end L2
namespace HT
open PySem PyProof.Rows
section
open PySem.SeqAt
open PySem.AutoSeq1 (wpAny_loadPart')
open PySem.MeetsSeq PySem.MeetsSeq2 PySem.MeetsSeq3
end
section
variable {prog:Program}{w:World}{A:Around}{E:Value->Shared->Prop}{s:Shared}
theorem cat_tup {t b:Addr}{vs ws:List Value}{Q:Value->Shared->Prop}(ht:IsTup s.heap t vs.toArray)(hb:IsTup s.heap b ws.toArray)(hv:vs≠[])
  (h1:ws=[]->Q (.ref t) s) (h2:ws≠[]->Q (.ref s.heap.objs.size) {s with heap:=s.heap.push {cls:= .type "tuple",data:= .seq (vs++ws).toArray}})
  (hsz:vs.length+ws.length<=sizeLine):wpAny (model prog w) A (binaryOp .Add (.ref t) (.ref b)) Q E s:=by
 obtain⟨⟨cls,dd,data,sl⟩,ho,hc,n,hd⟩:=id ht;obtain⟨⟨cls2,dd2,data2,sl2⟩,ho2,hc2,n2,hd2⟩:=id hb;simp only at hc hd hc2 hd2;subst hc hd hc2 hd2;have e:vs.toArray++ws.toArray=(vs++ws).toArray:=by simp
 by_cases hw:ws=[]
 ·exact concat_meets ⟨_,ho,rfl⟩ ⟨_,ho2,rfl⟩ noFill_tuple_add seq_tuple_add PySem.F.slot_tuple_add PySem.F.entry_tuple_add (PySem.F.args_tuple_add_2 _ _)
   (tuple_addW1 t b vs.toArray ws.toArray n n2 dd dd2 sl sl2 (by simpa using hv) (by simp[hw])) ⟨ho,ho2,h1 hw⟩
 ·refine concat_meets ⟨_,ho,rfl⟩ ⟨_,ho2,rfl⟩ noFill_tuple_add seq_tuple_add PySem.F.slot_tuple_add PySem.F.entry_tuple_add (PySem.F.args_tuple_add_2 _ _)
   (tuple_addW2 t b vs.toArray ws.toArray n n2 dd dd2 sl sl2 (by simpa using hv) (by simpa using hw) (by rw[size_toArray,size_toArray];exact hsz)) ⟨ho,ho2,?_⟩
  rw[e];exact h2 hw
def sIx (n d:Nat):Option Int->Nat
 | none=>d
 | some v=>if v<0 then(v+(n:Int)).toNat else min v.toNat n
theorem sIx_none (n d:Nat):sIx n d none=d:=rfl
theorem sIx_nat (n d k:Nat):sIx n d (some (k:Int))=min k n:=by
 show(if(k:Int)<0 then((k:Int)+(n:Int)).toNat else min (k:Int).toNat n)=min k n
 rw[if_neg (by lia),toNat_natCast]
theorem sIx_le (n d:Nat)(hd:d<=n)(o:Option Int):sIx n d o<=n:=by
 cases o with
 | none=>exact hd
 | some v=>
  show(if v<0 then(v+(n:Int)).toNat else min v.toNat n)<=n
  by_cases hv:v<0
  ·rw[if_pos hv];lia
  ·rw[if_neg hv];exact Nat.min_le_right _ _
theorem b28 (v:Int)(n d:Nat):(if v<0 then max (v+(n:Int)) 0 else min v (n:Int))=((sIx n d (some v):Nat):Int):=by
 show(if v<0 then max (v+(n:Int)) 0 else min v (n:Int))=(((if v<0 then(v+(n:Int)).toNat else min v.toNat n):Nat):Int)
 by_cases hv:v<0
 ·simp only[if_pos hv];lia
 ·simp only[if_neg hv];lia
theorem aX7 (lo hi:Option Int)(n:Nat):Builtin.Slice.sliceAdjust lo hi 1 (n:Int)=(((sIx n 0 lo:Nat):Int),((sIx n n hi:Nat):Int)):=by
 have h1: ¬((1:Int)<0):=by lia
 unfold Builtin.Slice.sliceAdjust;simp only[h1,if_false];refine Prod.ext ?_ ?_
 ·cases lo with
  | none=>rfl
  | some v=>exact b28 v n 0
 ·cases hi with
  | none=>rfl
  | some v=>exact b28 v n n
theorem aX8 (i j:Nat):Builtin.Slice.slicePlaces (i:Int) (j:Int) 1=j-i:=by
 unfold Builtin.Slice.slicePlaces;have h1:(1:Int)>0:=by lia
 simp only[h1,if_true,Int.ediv_one];split<;>lia
theorem a32 {v:Value}{o:Option Int}{Q:Option Int->Shared->Prop}(p:IsPart v o)(h:Q o s):wpAny (model prog w) A (Builtin.Slice.slicePartIndex v) Q E s:=by
 cases p with
 | none=>exact slicePart_none h
 | int i t=>exact slicePart_int h
theorem pA {sl:Addr}{vl vu:Value}{lo hi:Option Int}{n:Nat}{Q:Int×Int×Nat->Shared->Prop}(hs:s.heap.IsSliceOf sl vl vu .none)(pl:IsPart vl lo)(pu:IsPart vu hi)
  (h:Q (((sIx n 0 lo:Nat):Int),1,sIx n n hi-sIx n 0 lo) s):wpAny (model prog w) A (Builtin.Slice.sliceApplied (.ref sl) (pure (n:Int))) Q E s:=by
 obtain⟨os,hos,hcs,hds⟩:=id hs;unfold Builtin.Slice.sliceApplied Builtin.Slice.sliceFields;refine wpAny_bind (wpAny_bind (wpAny_field hos hds (x:=vl) rfl (wpAny_bind (wpAny_field hos hds (x:=vu) rfl (wpAny_bind (wpAny_field hos hds (x:= .none) rfl (wpAny_pure ?_)))))));refine wpAny_bind (slicePart_none ?_);show wpAny _ _ (if((1:Int)==0)=true then _ else _) _ _ s;rw[if_neg (by decide)]
 refine wpAny_bind (a32 pl (wpAny_bind (a32 pu (wpAny_bind (wpAny_pure ?_)))))
 show wpAny _ _ (match Builtin.Slice.sliceAdjust lo hi 1 (n:Int)with| (lo,hi)=>pure (lo,(1:Int),Builtin.Slice.slicePlaces lo hi 1)) _ _ s
 rw[aX7 lo hi n];show wpAny _ _ (pure (((sIx n 0 lo:Nat):Int),(1:Int),Builtin.Slice.slicePlaces ((sIx n 0 lo:Nat):Int) ((sIx n n hi:Nat):Int) 1)) _ _ s;rw[aX8];exact wpAny_pure h
theorem bE3 (xs:Array Value)(i k:Nat):((List.range k).filterMap fun(m:Nat)=>xs[((i:Int)+(m:Int)*1).toNat]?).toArray=((xs.toList.drop i).take k).toArray:=by
 have e:(fun(m:Nat)=>xs[((i:Int)+(m:Int)*1).toNat]?)=λm=>xs[i+m]? :=by
  funext m
  have:((i:Int)+(m:Int)*1).toNat=i+m:=by lia
  rw[this]
 rw[e];have:=pick_run xs i k;rw[List.filterMap_map]at this;have e2:((λx=>xs[x]?)∘λx=>i+x)=λm=>xs[i+m]? :=rfl
 rw[e2]at this;rw[this]
theorem getItem_tuple_cut {t sl:Addr}{items:Array Value}{vl vu:Value}{lo hi:Option Int}{Q:Value->Shared->Prop}(ht:IsTup s.heap t items)(hs:s.heap.IsSliceOf sl vl vu .none)(pl:IsPart vl lo)(pu:IsPart vu hi)
  (hw: ¬(sIx items.size 0 lo=0/\sIx items.size items.size hi=items.size))
  (h:Q (.ref s.heap.objs.size) {s with heap:=s.heap.push {cls:= .type "tuple",data:= .seq ((items.toList.drop (sIx items.size 0 lo)).take (sIx items.size items.size hi-sIx items.size 0 lo)).toArray}})
  (hsz:items.size<=sizeLine):wpAny (model prog w) A (getItem (.ref t) (.ref sl)) Q E s:=by
 have htake:sizeOk (.seq ((items.toList.drop (sIx items.size 0 lo)).take (sIx items.size items.size hi-sIx items.size 0 lo)).toArray):=by
  show((items.toList.drop (sIx items.size 0 lo)).take (sIx items.size items.size hi-sIx items.size 0 lo)).toArray.size<=sizeLine
  rw[size_toArray,length_take,length_drop,length_toList];omega
 have hj:sIx items.size items.size hi<=items.size:=sIx_le _ _ (le_refl _) hi;obtain⟨os,hos,hcs,hds⟩:=id hs;have hTs:s.TypeIs (.ref sl) "slice":=⟨os,hos,hcs⟩;unfold getItem;try with_reducible refine wpAny_holding ?_
 first|refine wpAny_bind (wpAny_pure ?_)|skip
 refine wpAny_bind (wpAny_sequenceKey ht.typeIs (by decide) ?_)
 refine wpAny_bind (wpAny_callSpecial?_slot (name:=Str.ofString "__getitem__") ht.typeIs PyProof.Rows.slot_tuple_getitem
  (wpAny_call_entry PyProof.Rows.slot_tuple_getitem ht.typeIs entry_tuple_getitem ?_ (args_tuple_getitem _ _)))
 show wpAny _ _ (Builtin.Tuple.tupleItemsOf (.ref t) >>= _) _ _ s
 refine wpAny_bind (tupleItemsOf_ ht ?_)
 refine wpAny_bind (wpAny_typeOf hTs ?_)
 rw[if_pos (by decide)]
 refine wpAny_bind (pA hs pl pu ?_)
 have hno: ¬((((sIx items.size 0 lo:Nat):Int)==0&&(1:Int)==1&&(sIx items.size items.size hi-sIx items.size 0 lo)==items.size)=true):=by
  intro q;rw[and_eq_true,and_eq_true]at q;have q1:((sIx items.size 0 lo:Nat):Int)=0:=eq_of_beq q.1.1;have q2:sIx items.size items.size hi-sIx items.size 0 lo=items.size:=eq_of_beq q.2;exact hw ⟨by omega,by omega⟩
 show wpAny _ _ (if(((sIx items.size 0 lo:Nat):Int)==0&&(1:Int)==1&&(sIx items.size items.size hi-sIx items.size 0 lo)==items.size)=true then _ else _) _ _ s
 rw[if_neg hno,bE3]
 first
  | exact wpAny_bind (m:=Builtin.Tuple.tupleExact _) (wpAny_newObj_type (wpAny_pure ⟨_,rfl,wpAny_pure h⟩) htake)
  | exact wpAny_bind (m:=Builtin.Tuple.tupleExact _) (wpAny_newObj_type (wpAny_bind (wpAny_pure (wpAny_pure ⟨_,rfl,wpAny_pure h⟩))) htake)
  | exact wpAny_bind (wpAny_bind (m:=Builtin.Tuple.tupleExact _) (wpAny_newObj_type (wpAny_pure (wpAny_pure ⟨_,rfl,wpAny_pure h⟩)) htake))
  | exact wpAny_bind (wpAny_bind (m:=Builtin.Tuple.tupleExact _) (wpAny_newObj_type (wpAny_pure ⟨_,rfl,wpAny_pure h⟩) htake))
end
end HT
namespace L2
open PySem PySem.Spec PyProof.Rows
abbrev TO:=St->Hp->(Option Int->Hp->Prop)->Prop
def PO (X:Cx)(e:Option Expr)(t:TO):Prop:=
 ∀(pins:List (Addr×Obj)) (s:Shared) (σ:St) (H:Hp) (Q:Option Int->Hp->Prop),Inv X pins σ H s->t σ H Q->
  wpAny (model X.prog X.w) X.A (evalPart e X.env) (λu s'=> ∃o H',Inv X pins σ H' s'/\IsPart u o/\Q o H') X.xe s
def bR5:TO:=λ_ H Q=>Q none H
def tPart (t:TE):TO:=λσ H Q=>t σ H λx H1=> ∃i,x= .int i/\Q (some i) H1
theorem intsAre_of {ns:List Int}: ∀{us:List Value},Vals (ns.map V.int) us->IntsAre us ns:=by
 induction ns with
 | nil=>intro us r;rw[map_nil]at r;cases r;exact .nil
 | cons n ns ih=>
  intro us r;rw[map_cons]at r;cases r with
  | cons r1 r2=>
   obtain⟨t,e⟩:=r1;subst e;exact .cons n t (ih r2)
section
variable {X:Cx}{e:Expr}{te:TE}{lo hi:Option Expr}{tl th:TO}{pos p2:Pos}
theorem bR6:PO X none bR5:=by
 intro pins s σ H Q I h;rw[evalPart_none];exact wpAny_pure ⟨none,H,I,.none,h⟩
theorem bR7 (h:PE X e te):PO X (some e) (tPart te):=by
 intro pins s σ H Q I hw;rw[evalPart_some];refine thn (h pins s σ H _ I hw) λu s1 ⟨x,H1,I1,r1,q1⟩=> ?_
 obtain⟨i,rfl,q⟩:=q1;obtain⟨t,rfl⟩:=r1;exact⟨some i,H1,I1,.int i t,q⟩
def SlR (X:Cx)(r:V->Option Int->Option Int->Hp->VK->Prop):Prop:=
 ∀(pins:List (Addr×Obj)) (s:Shared) (σ:St) (H:Hp) (x:V) (v vl vu:Value) (lo hi:Option Int) (sl:Addr) (Q:VK),Inv X pins σ H s->RelV x v->s.heap.IsSliceOf sl vl vu .none->IsPart vl lo->IsPart vu hi->r x lo hi H Q->
  ∃T id,typeLookup (.type T) "__getitem__"=pure (some (.builtin id))/\s.TypeIs v T/\wpAny (model X.prog X.w) X.A (getItem v (.ref sl)) (EP X pins σ Q) X.xe s
theorem SlR.or {r r':V->Option Int->Option Int->Hp->VK->Prop}(h:SlR X r)(h':SlR X r'):SlR X (λx lo hi H Q=>r x lo hi H Q\/r' x lo hi H Q):=by
 intro pins s σ H x v vl vu lo hi sl Q I rx hs pl pu q;rcases q with q|q
 ·exact h pins s σ H x v vl vu lo hi sl Q I rx hs pl pu q
 ·exact h' pins s σ H x v vl vu lo hi sl Q I rx hs pl pu q
def tSl (r:V->Option Int->Option Int->Hp->VK->Prop)(te:TE)(tl th:TO):TE:=λσ H Q=>te σ H λx H1=>tl σ H1 λl H2=>th σ H2 λu H3=>r x l u H3 Q
theorem aQ3 {r:V->Option Int->Option Int->Hp->VK->Prop}(hr:SlR X r)(he:PE X e te)(hl:PO X lo tl)(hu:PO X hi th):PE X (.Subscript e (.Slice lo hi none p2) pos) (tSl r te tl th):=by
 intro pins s σ H Q I h;refine Subscript_ (thn (he pins s σ H _ I h) λv s1 ⟨x,H1,I1,r1,q1⟩=> ?_)
 refine wpAny_Slice (thn (hl pins s1 σ H1 _ I1 q1) λvl s2 ⟨l,H2,I2,pl,q2⟩=>thn (hu pins s2 σ H2 _ I2 q2) λvu s3 ⟨u,H3,I3,pu,q3⟩=> ?_)
 rw[evalPart_none];refine wpAny_pure ?_;have I4:Inv X pins σ H3 {s3 with heap:=s3.heap.push {cls:= .type "slice",data:= .fields #[vl,vu,.none]}}:=I3.kept (t':=s3.toks) λb ob q=>get?_push_of_some _ q
 obtain⟨T,id,hT,ht,hg⟩:=hr pins {s3 with heap:=s3.heap.push {cls:= .type "slice",data:= .fields #[vl,vu,.none]}} σ H3 x v vl vu l u s3.heap.objs.size Q I4 r1 (Heap.IsSliceOf.new ..) pl pu q3;show wpAny (model X.prog X.w) X.A (subscriptTail e (.Slice lo hi none p2) v (.ref s3.heap.objs.size)) (EP X pins σ Q) X.xe {s3 with heap:=s3.heap.push {cls:= .type "slice",data:= .fields #[vl,vu,.none]}}
 exact tail_any (ops:=[.ref s3.heap.objs.size,v]) ht hT hg (by with_unfolding_all rfl)
def aQ4 (xs:List V)(lo hi:Option Int):List V:=(xs.drop (HT.sIx xs.length 0 lo)).take (HT.sIx xs.length xs.length hi-HT.sIx xs.length 0 lo)
theorem yX (xs:List V)(lo hi:Option Int):(aQ4 xs lo hi).length<=xs.length:=by
 unfold aQ4;rw[length_take,length_drop]
 lia
def rSlT (K:PySem.W.Frag):V->Option Int->Option Int->Hp->VK->Prop:=λx lo hi H Q=> ∃a xs,x= .ref a/\SqT K H a xs/\
 ¬(HT.sIx xs.length 0 lo=0/\HT.sIx xs.length xs.length hi=xs.length)/\ ∀p,H p=none->Q (.ref p) (upd H p (.tup (aQ4 xs lo hi)))
theorem bE4:SlR X (rSlT X.K):=by
 intro pins s σ H x v vl vu lo hi sl Q I rx hs pl pu h;obtain⟨a,xs,rfl,hx,hw,q⟩:=h;cases rx;obtain⟨its,r,ht,hz⟩:=I.tuple hx;have hlen:its.toArray.size=xs.length:=by rw[size_toArray];exact r.length.symm
 refine⟨"tuple",_,PyProof.Rows.slot_tuple_getitem.lookup,ht.typeIs,?_⟩
 refine HT.getItem_tuple_cut ht hs pl pu (by rw[hlen];exact hw) ?_ (by rw[hlen];exact hz)
 rw[hlen];refine⟨.ref s.heap.objs.size,_,I.laid (t':=s.toks) (o:= .tup (aQ4 xs lo hi)) (λb ob q=>get?_push_of_some _ q) (le_refl _) ?_,rfl,q _ (I.hok.fresh (le_refl _))⟩
 exact⟨le_trans (yX xs lo hi) hz,_,(r.drop (HT.sIx xs.length 0 lo)).take (HT.sIx xs.length xs.length hi-HT.sIx xs.length 0 lo),IsTup.new _ _⟩
def rCatT (K:PySem.W.Frag):R2:=λx y H Q=> ∃a b xs ys,x= .ref a/\y= .ref b/\SqT K H a xs/\SqT K H b ys/\xs≠[]/\xs.length+ys.length<=sizeLine/\
 (ys=[]->Q (.ref a) H)/\(ys≠[]-> ∀p,H p=none->Q (.ref p) (upd H p (.tup (xs++ys))))
theorem Vals.nil_iff {xs:List V}{us:List Value}(r:Vals xs us):us=[]↔xs=[]:=by
 cases r with
 | nil=>simp
 | cons _ _=>simp
theorem bR8:OpR X (binaryOp .Add) (rCatT X.K):=by
 intro pins s σ H x y v u Q I rx ry h;obtain⟨a,b,xs,ys,rfl,rfl,ha,hb,hx,hz,q1,q2⟩:=h;cases rx;cases ry;obtain⟨its,r1,p1,_⟩:=I.tuple ha;obtain⟨its2,r2,p2,_⟩:=I.tuple hb;refine HT.cat_tup p1 p2 (λz=>hx (r1.nil_iff.mp z)) (λz=>⟨.ref a,H,I,rfl,q1 (r2.nil_iff.mp z)⟩) (λz=> ?_) (by rw[<-r1.length,<-r2.length];exact hz)
 refine⟨.ref s.heap.objs.size,_,I.laid (t':=s.toks) (o:= .tup (xs++ys)) (λb ob q=>get?_push_of_some _ q) (le_refl _) ?_,rfl,q2 (λw=>z (r2.nil_iff.mpr w)) _ (I.hok.fresh (le_refl _))⟩
 exact⟨by rw[length_append];exact hz,_,r1.append r2,IsTup.new _ _⟩
end
end L2
namespace L2
open PySem PySem.Spec PyProof.Rows
def ixN (n:Nat)(i:Int):Option Nat:=if 0<=i then(if i<n then some i.toNat else none)else if -(n:Int)<=i then some (i+n).toNat else none
def atI {α:Type}(xs:List α)(i:Int):Option α:=(ixN xs.length i).bind λj=>xs[j]?
theorem b29 {n:Nat}{i:Int}{j:Nat}(h:ixN n i=some j):seqIndex? i n=some j/\j<n/\ -(n:Int)<=i/\i<n:=by
 unfold ixN at h
 by_cases h0:0<=i
 ·rw[if_pos h0]at h
  by_cases h1:i<n
  ·rw[if_pos h1]at h;have e:i.toNat=j:=Option.some.inj h;exact⟨by rw[seqIndex_of h0 h1,e],by lia,by lia,h1⟩
  ·rw[if_neg h1]at h;cases h
 ·rw[if_neg h0]at h
  by_cases h1: -(n:Int)<=i
  ·rw[if_pos h1]at h;have e:(i+n).toNat=j:=Option.some.inj h;exact⟨by rw[seqIndex_neg (by lia) h1,e],by lia,h1,by lia⟩
  ·rw[if_neg h1]at h;cases h
theorem a11 {α:Type}{xs:List α}{i:Int}{v:α}(h:atI xs i=some v): ∃j,seqIndex? i xs.length=some j/\xs[j]? =some v/\j<xs.length/\ -(xs.length:Int)<=i/\i<xs.length:=by
 unfold atI at h;cases e:ixN xs.length i with
 | none=>rw[e]at h;cases h
 | some j=>
  rw[e]at h;obtain⟨h1,h2,h3,h4⟩:=b29 e;exact⟨j,h1,h,h2,h3,h4⟩
theorem b6 {α:Type}{xs:List α}{j:Nat}{v:α}(h:xs[j]? =some v):atI xs (j:Int)=some v:=by
 have hj:j<xs.length:=(List.getElem?_eq_some_iff.mp h).1;have e:ixN xs.length (j:Int)=some j:=by
  unfold ixN;rw[if_pos (by lia),if_pos (by lia)];simp
 unfold atI;rw[e];exact h
theorem bE5 {α:Type}(xs:List α)(v:α):atI (xs++[v]) (-1)=some v:=by
 have hl:(xs++[v]).length=xs.length+1:=by simp
 have e:ixN (xs++[v]).length (-1)=some xs.length:=by
  unfold ixN;rw[hl,if_neg (by decide),if_pos (by lia)]
  congr 1
  lia
 unfold atI;rw[e];show(xs++[v])[xs.length]? =some v;simp
def a12 (b:Expr):Prop:= ∀o i,subscripted b false o i=operate [o,i] (getItem o i)
def IxR (X:Cx)(r:R2):Prop:=
 ∀(value slice:Expr) (pins:List (Addr×Obj)) (s:Shared) (σ:St) (H:Hp) (x y:V) (v u:Value) (Q:VK),Inv X pins σ H s->RelV x v->RelV y u->r x y H Q->
  subscripted slice false v u=operate [v,u] (getItem v u)->wpAny (model X.prog X.w) X.A (subscriptTail value slice v u) (EP X pins σ Q) X.xe s
def MtR (X:Cx)(id:String)(r:V->List V->Hp->VK->Prop):Prop:=
 ∀(pins:List (Addr×Obj)) (s:Shared) (σ:St) (H:Hp) (x:V) (xs:List V) (v:Value) (us:List Value) (Q:VK),Inv X pins σ H s->RelV x v->Vals xs us->r x xs H Q->
  wpAny (model X.prog X.w) X.A (call (.builtin id) (v::us)) (EP X pins σ Q) X.xe s
section
variable {X:Cx}{a b:Expr}{ta tb:TE}{pos:Pos}
theorem IxR.or {r r':R2}(h:IxR X r)(h':IxR X r'):IxR X (λx y H Q=>r x y H Q\/r' x y H Q):=by
 intro value slice pins s σ H x y v u Q I rx ry q hs;rcases q with q|q
 ·exact h value slice pins s σ H x y v u Q I rx ry q hs
 ·exact h' value slice pins s σ H x y v u Q I rx ry q hs
theorem MtR.or {id:String}{r r':V->List V->Hp->VK->Prop}(h:MtR X id r)(h':MtR X id r'):MtR X id (λx xs H Q=>r x xs H Q\/r' x xs H Q):=by
 intro pins s σ H x xs v us Q I rx rs q;rcases q with q|q
 ·exact h pins s σ H x xs v us Q I rx rs q
 ·exact h' pins s σ H x xs v us Q I rx rs q
theorem pe_ix {r:R2}(hr:IxR X r)(ha:PE X a ta)(hb:PE X b tb)(hs:a12 b):PE X (.Subscript a b pos) (tOp r ta tb):=by
 intro pins s σ H Q I h;exact Subscript_ (binT ha hb I h λv u s2 x y H2 I2 rx ry q=>hr a b pins s2 σ H2 x y v u Q I2 rx ry q (hs _ _))
def rIxL (K:PySem.W.Frag):R2:=λx y H Q=> ∃p xs i v,x= .ref p/\y= .int i/\SqL K H p xs/\atI xs i=some v/\Q v H
def rIxT (K:PySem.W.Frag):R2:=λx y H Q=> ∃p xs i v,x= .ref p/\y= .int i/\SqT K H p xs/\atI xs i=some v/\Q v H
def rIxS:R2:=λx y H Q=> ∃z i c,x= .str z/\y= .int i/\z.length<=sizeLine/\atI z.cps.toList i=some c/\Q (.str ⟨#[c]⟩) H
theorem bR9:IxR X (rIxL X.K):=by
 intro value slice pins s σ H x y v u Q I rx ry h hs;obtain⟨p,xs,i,z,rfl,rfl,hq,he,q⟩:=h;cases rx;obtain⟨t,rfl⟩:=ry;obtain⟨its,r,pl,hz⟩:=I.list hq;obtain⟨j,h1,h2,h3,h4,h5⟩:=a11 he;obtain⟨w,ew,rw'⟩:=r.get h2;have hl:=r.length;have hn:=xR;have fin:EP X pins σ Q w s:=⟨z,H,I,rw',q⟩
 by_cases h0:0<=i
 ·have hj:i.toNat=j:=by
   rw[seqIndex_of h0 h5]at h1;exact Option.some.inj h1
  exact item_listR pl.isList h0 (by lia) (by rw[hj];simpa using ew) fin hs
 ·have hj:(i+(its.toArray.size:Int)).toNat=j:=by
   rw[seqIndex_neg (by lia) h4]at h1
   rw[size_toArray,<-hl];exact Option.some.inj h1
  exact subscriptTail_builtinR (x:=w) pl.isList.typeIs slot_list_getitem.lookup
   (wpAny_getItem_list_neg (Q:=λr s'=>r=w/\EP X pins σ Q r s') pl.isList (by lia) (by rw[size_toArray]<;>lia) (by lia) (by rw[hj];simpa using ew) ⟨rfl,fin⟩) hs
theorem ix_tup:IxR X (rIxT X.K):=by
 intro value slice pins s σ H x y v u Q I rx ry h hs;obtain⟨p,xs,i,z,rfl,rfl,hq,he,q⟩:=h;cases rx;obtain⟨t,rfl⟩:=ry;obtain⟨its,r,pl,hz⟩:=I.tuple hq;obtain⟨j,h1,h2,h3,h4,h5⟩:=a11 he;obtain⟨w,ew,rw'⟩:=r.get h2;have hl:=r.length;have hn:=xR;have fin:EP X pins σ Q w s:=⟨z,H,I,rw',q⟩;exact subscriptTail_builtinR (x:=w) pl.typeIs slot_tuple_getitem.lookup
  (getItem_tuple (j:=j) (Q:=λr s'=>r=w/\EP X pins σ Q r s') pl (by lia) (by lia) (by rw[size_toArray,<-hl];exact h1) (by simpa using ew) ⟨rfl,fin⟩) hs
theorem ix_str:IxR X rIxS:=by
 intro value slice pins s σ H x y v u Q I rx ry h hs;obtain⟨z,i,c,rfl,rfl,hz,he,q⟩:=h;obtain⟨t,rfl⟩:=rx;obtain⟨t',rfl⟩:=ry;obtain⟨j,h1,h2,h3,h4,h5⟩:=a11 he;have hl:z.cps.toList.length=z.length:=by simp[Str.length]
 rw[hl]at h1 h4 h5;have hn:=xR;exact tail_any (typeIs_str s z t) slot_str_getitem.lookup (getItem_str (c:=c) (by
  have e1:decide (i< -(2^63:Int))=false:=decide_eq_false (by lia)
  have e2:decide (i≥2^63)=false:=decide_eq_false (by lia)
  rw[e1,e2,Bool.or_false]) (by rw[h1];simpa using h2) ⟨.str ⟨#[c]⟩,H,I.tok _,⟨_,rfl⟩,q⟩) hs
def rIx (K:PySem.W.Frag):R2:=λx y H Q=>rIxL K x y H Q\/rIxT K x y H Q\/rIxS x y H Q
theorem ix_seq:IxR X (rIx X.K):=bR9.or (ix_tup.or ix_str)
theorem aX9 (its:List Value)(n j:Nat)(u:Value):Obj.mapSeq (·.setIfInBounds j u) {cls:= .type "list",data:= .seq its.toArray n}={cls:= .type "list",data:= .seq (its.set j u).toArray n}:=by
 simp[Obj.mapSeq]
theorem Inv.lst {pins:List (Addr×Obj)}{σ:St}{H:Hp}{s:Shared}{p:Addr}{xs:List V}(I:Inv X pins σ H s)(h:H p=some (.lst xs)) :
  ∃(its:List Value) (n:Nat),Vals xs its/\s.heap.get? p=some {cls:= .type "list",data:= .seq its.toArray n}/\xs.length<=sizeLine:=by
 obtain⟨z,its,n,r,e⟩:=I.hok p _ h;exact⟨its,n,r,e,z⟩
theorem Inv.lstUpd {pins:List (Addr×Obj)}{σ:St}{H:Hp}{s:Shared}{p:Addr}{xs ys:List V}{its its':List Value}{n n':Nat}{f:Obj->Obj}(I:Inv X pins σ H s)(h:H p=some (.lst xs))
  (ho:s.heap.get? p=some {cls:= .type "list",data:= .seq its.toArray n}) (hf:f {cls:= .type "list",data:= .seq its.toArray n}={cls:= .type "list",data:= .seq its'.toArray n'}) (r:Vals ys its') (hz:ys.length<=sizeLine) (t:Nat) :
  Inv X pins σ (upd H p (.lst ys)) {s with heap:=s.heap.update p f,toks:=t}:=by
 have e:(s.heap.update p f).get? p=some {cls:= .type "list",data:= .seq its'.toArray n'}:=by
  rw[get?_update_self f ho (by rw[hf]<;>rfl),hf]
 refine I.write (x:=p) (e:=p) (by rw[h];trivial) (.inl rfl) (λb u hb q=>(Heap.get?_update_other _ _ (Ne.symm hb)).trans q) ⟨_,e⟩ ?_
 exact⟨hz,its',n',r,e⟩
def rSetL:V->V->V->Hp->(Hp->Prop)->Prop:=λo i v H Q=> ∃p xs k j,o= .ref p/\i= .int k/\H p=some (.lst xs)/\ixN xs.length k=some j/\Q (upd H p (.lst (xs.set j v)))
theorem aQ5:PSet X rSetL:=by
 intro pins s σ H o i v ov iv u Q I ro ri rv h;obtain⟨p,xs,k,j,rfl,rfl,hp,hj,q⟩:=h;cases ro;obtain⟨t,rfl⟩:=ri;obtain⟨its,n,r,ho,hz⟩:=I.lst hp;obtain⟨h1,h2,h3,h4⟩:=b29 hj;have hl:=r.length;have hn:=xR;have I':Inv X pins σ (upd H p (.lst (xs.set j v))) {s with heap:=s.heap.update p (Obj.mapSeq (·.setIfInBounds j u))}:=
  I.lstUpd hp ho (aX9 its n j u) (r.set rv j) (by rw[length_set];exact hz) s.toks
 by_cases h0:0<=k
 ·have hk:k.toNat=j:=by
   rw[seqIndex_of h0 h4]at h1;exact Option.some.inj h1
  exact PySem.W.ki_setAt ho h0 (by lia) (by rw[size_toArray,<-hl];exact h4) (by rw[hk];exact⟨_,I',q⟩)
 ·have hk:(k+(its.toArray.size:Int)).toNat=j:=by
   rw[seqIndex_neg (by lia) h3]at h1
   rw[size_toArray,<-hl];exact Option.some.inj h1
  exact PySem.W.ki_setBack ho (by lia) (by rw[size_toArray,<-hl];exact h3) (by lia) (by rw[hk];exact⟨_,I',q⟩)
theorem aJ4 (lo hi:Option Int)(n:Nat):(sliceBounds lo hi none n).1=((HT.sIx n 0 lo:Nat):Int)/\(sliceBounds lo hi none n).2.1=((HT.sIx n n hi:Nat):Int)/\(sliceBounds lo hi none n).2.2=1:=by
 refine⟨?_,?_,rfl⟩
 ·cases lo with
  | none=>simp[sliceBounds,HT.sIx]
  | some i=>
   simp only[sliceBounds,HT.sIx,getD_none,show(1:Int)>0 by decide,if_true]
   by_cases h:i<0
   ·simp only[h,if_true]<;>lia
   ·simp only[h,if_false]<;>lia
 ·cases hi with
  | none=>simp[sliceBounds,HT.sIx]
  | some i=>
   simp only[sliceBounds,HT.sIx,getD_none,show(1:Int)>0 by decide,if_true]
   by_cases h:i<0
   ·simp only[h,if_true]<;>lia
   ·simp only[h,if_false]<;>lia
theorem aB6 (its:List Value)(lo hi:Option Int):slicePick its.toArray lo hi none=((its.drop (HT.sIx its.length 0 lo)).take (HT.sIx its.length its.length hi-HT.sIx its.length 0 lo)).toArray:=by
 obtain⟨h1,h2,h3⟩:=aJ4 lo hi its.toArray.size;unfold slicePick;rw[h1,h2,h3];simp only[sliceRange_one,pick_run,size_toArray]<;>rfl
def rSlL (K:PySem.W.Frag):V->Option Int->Option Int->Hp->VK->Prop:=λx lo hi H Q=> ∃a xs,x= .ref a/\SqL K H a xs/\ ∀p,H p=none->Q (.ref p) (upd H p (.lst (aQ4 xs lo hi)))
theorem b30:SlR X (rSlL X.K):=by
 intro pins s σ H x v vl vu lo hi sl Q I rx hs pl pu h;obtain⟨a,xs,rfl,hx,q⟩:=h;cases rx;obtain⟨its,r,ht,hz⟩:=I.list hx;have hlen:=r.length;refine⟨"list",_,slot_list_getitem.lookup,ht.isList.typeIs,?_⟩;refine wpAny_getItem_list_slice ht.isList hs pl pu .none (by simp) ?_ (by rw[size_toArray]<;>lia)
 rw[aB6,<-hlen];refine⟨.ref s.heap.objs.size,_,I.laid (t':=s.toks) (o:= .lst (aQ4 xs lo hi)) (λb ob q=>get?_push_of_some _ q) (le_refl _) ?_,rfl,q _ (I.hok.fresh (le_refl _))⟩
 exact⟨le_trans (yX xs lo hi) hz,_,0,(r.drop (HT.sIx xs.length 0 lo)).take (HT.sIx xs.length xs.length hi-HT.sIx xs.length 0 lo),get?_push_size _ rfl⟩
def wE:V->Bool
 | .non=>true
 | .bl _=>true
 | .int _=>true
 | .str _=>true
 | _=>false
def eqV:V->V->Bool
 | .non,.non=>true
 | .bl a,.bl b=>a==b
 | .bl a,.int b=>(if a then 1 else 0)==b
 | .int a,.bl b=>a==(if b then 1 else 0)
 | .int a,.int b=>a==b
 | .str a,.str b=>a==b
 | _,_=>false
theorem eqAt_V {A:Around}{s:Shared}{y x:V}{u v:Value}(ry:RelV y u)(rx:RelV x v)(fy:wE y=true)(fx:wE x=true):SeqAt.EqAt A s u v (eqV y x):=by
 cases y with
 | non=>
  cases ry;cases x with
  | non=>cases rx;exact SeqAt.EqAt.same _
  | bl b=>cases rx;exact SeqAt.EqAt.none_bool b
  | int b=>obtain⟨t,rfl⟩:=rx;exact SeqAt.EqAt.none_int b t
  | str b=>obtain⟨t,rfl⟩:=rx;exact SeqAt.EqAt.none_str b t
  | _=>exact absurd (show false=true from fx) Bool.false_ne_true
 | bl a=>
  cases ry;cases x with
  | non=>cases rx;exact SeqAt.EqAt.bool_none a
  | bl b=>cases rx;exact SeqAt.EqAt.bool_bool a b
  | int b=>obtain⟨t,rfl⟩:=rx;exact SeqAt.EqAt.bool_int a b t
  | str b=>obtain⟨t,rfl⟩:=rx;exact SeqAt.EqAt.bool_str a b t
  | _=>exact absurd (show false=true from fx) Bool.false_ne_true
 | int a=>
  obtain⟨t',rfl⟩:=ry;cases x with
  | non=>cases rx;exact SeqAt.EqAt.int_none a t'
  | bl b=>cases rx;exact SeqAt.EqAt.int_bool a t' b
  | int b=>obtain⟨t,rfl⟩:=rx;exact SeqAt.EqAt.int_int a t' b t
  | str b=>obtain⟨t,rfl⟩:=rx;exact SeqAt.EqAt.int_str a t' b t
  | _=>exact absurd (show false=true from fx) Bool.false_ne_true
 | str a=>
  obtain⟨t',rfl⟩:=ry;cases x with
  | non=>cases rx;exact SeqAt.EqAt.str_none a t'
  | bl b=>cases rx;exact SeqAt.EqAt.str_bool a t' b
  | int b=>obtain⟨t,rfl⟩:=rx;exact SeqAt.EqAt.str_int a t' b t
  | str b=>obtain⟨t,rfl⟩:=rx;exact SeqAt.EqAt.str_str a t' b t
  | _=>exact absurd (show false=true from fx) Bool.false_ne_true
 | _=>exact absurd (show false=true from fy) Bool.false_ne_true
def eqU (x:V)(u:Value):Bool:=match u with
 | .none=>eqV .non x
 | .bool b=>eqV (.bl b) x
 | .int i _=>eqV (.int i) x
 | .str z _=>eqV (.str z) x
 | _=>false
theorem bE6 {x y:V}{u:Value}(r:RelV y u)(f:wE y=true):eqU x u=eqV y x:=by
 cases y with
 | non=>cases r;rfl
 | bl b=>cases r;rfl
 | int i=>obtain⟨t,rfl⟩:=r;rfl
 | str z=>obtain⟨t,rfl⟩:=r;rfl
 | _=>exact absurd (show false=true from f) Bool.false_ne_true
theorem aJ5 {x:V}: ∀{xs:List V} {us:List Value},Vals xs us->xs.all wE=true->us.any (eqU x)=xs.any λy=>eqV y x
 | _,_,.nil,_=>rfl
 | y::xs,u::us,.cons r t,f=>by
  rw[all_cons,and_eq_true]at f;rw[any_cons,any_cons,bE6 r f.1,aJ5 t f.2]
theorem a33 {A:Around}{s:Shared}{x:V}{v:Value}(rx:RelV x v)(fx:wE x=true): ∀{xs:List V} {us:List Value},Vals xs us->xs.all wE=true-> ∀u∈us,SeqAt.EqAt A s u v (eqU x u)
 | _,_,.nil,_=>λu hu=>by cases hu
 | y::xs,u::us,.cons r t,f=>λu' hu=>by
  rw[all_cons,and_eq_true]at f;rcases List.mem_cons.mp hu with rfl|hu
  ·rw[bE6 r f.1];exact eqAt_V r rx f.1 fx
  ·exact a33 rx fx t f.2 u' hu
def inV (x:V)(xs:List V):Bool:=xs.any λy=>eqV y x
def rIn (K:PySem.W.Frag)(neg:Bool):R2:=λx y H Q=> ∃p xs,y= .ref p/\(SqL K H p xs\/SqT K H p xs)/\wE x=true/\xs.all wE=true/\Q (.bl (if neg then !inV x xs else inV x xs)) H
theorem aJ6:OpR X (compareOp .NotIn) (rIn X.K true):=by
 intro pins s σ H x y v u Q I rx ry h;obtain⟨p,xs,rfl,hq,fx,fs,q⟩:=h;cases ry;rcases hq with hq|hq
 ·obtain⟨its,r,pl,hz⟩:=I.list hq;refine SeqAt.notIn_listAt (eqU x) pl.isList (λw hw=>a33 rx fx r fs w (by simpa using hw)) ⟨.bl _,H,I,rfl,?_⟩
  rw[show its.toArray.any (eqU x)=its.any (eqU x)by simp,aJ5 r fs]
  exact q
 ·obtain⟨its,r,pl,hz⟩:=I.tuple hq;refine SeqAt.notIn_tupleAt (eqU x) pl (λw hw=>a33 rx fx r fs w (by simpa using hw)) ⟨.bl _,H,I,rfl,?_⟩
  rw[show its.toArray.any (eqU x)=its.any (eqU x)by simp,aJ5 r fs]
  exact q
theorem aJ7:iC X (.builtin "len") (λxs H Q=> ∃p ys,xs=[.ref p]/\(SqL X.K H p ys\/SqT X.K H p ys)/\Q (.int ys.length) H):=by
 intro pins s σ H xs us Q I r h;obtain⟨p,ys,rfl,hq,q⟩:=h;obtain⟨u,rfl,rx⟩:=vals1 r;cases rx;have hn:=xR;rcases hq with hq|hq
 ·obtain⟨its,r',pl,hz⟩:=I.list hq;have hlen:=r'.length;exact Calls.call_len_list pl.isList (by simp only[size_toArray]<;>lia) ⟨.int ys.length,H,I.tok _,⟨s.toks+1,by rw[size_toArray,hlen]⟩,q⟩
 ·obtain⟨its,r',pl,hz⟩:=I.tuple hq;have hlen:=r'.length;exact len_tuple pl (by simp only[size_toArray]<;>lia) ⟨.int ys.length,H,I.tok _,⟨s.toks+1,by rw[size_toArray,hlen]⟩,q⟩
theorem iC.or {f:Value}{r r':List V->Hp->VK->Prop}(h:iC X f r)(h':iC X f r'):iC X f (λxs H Q=>r xs H Q\/r' xs H Q):=by
 intro pins s σ H xs us Q I rs q;rcases q with q|q
 ·exact h pins s σ H xs us Q I rs q
 ·exact h' pins s σ H xs us Q I rs q
theorem aJ8:iC X (.type "list") (λxs H Q=> ∃p ys,xs=[.ref p]/\(SqL X.K H p ys\/SqT X.K H p ys)/\ ∀l,H l=none->Q (.ref l) (upd H l (.lst ys))):=by
 intro pins s σ H xs us Q I r h;obtain⟨p,ys,rfl,hq,q⟩:=h;obtain⟨u,rfl,rx⟩:=vals1 r;cases rx;have fin: ∀(its:List Value),Vals ys its->ys.length<=sizeLine-> ∀(h':Heap) (c':Nat),(∀b o',s.heap.get? b=some o'->h'.get? b=some o')->
   h'.get? s.heap.objs.size=some {cls:= .type "list",dict:=none,data:= .seq its.toArray c',slots:= #[]}->EP X pins σ Q (.ref s.heap.objs.size) {s with heap:=h'}:=λits r' hz h' c' kp e=>
  ⟨.ref s.heap.objs.size,_,I.laid (t':=s.toks) kp (le_refl _) (show jB X.prog X.w _ h' _ (.lst ys)from⟨hz,its,c',r',e⟩),rfl,q _ (I.hok.fresh (le_refl _))⟩
 rcases hq with hq|hq
 ·obtain⟨its,r',pl,hz⟩:=I.list hq;have hlen:=r'.length;obtain⟨o,ho,hc,n,hd⟩:=pl.isList;exact call_list_seq p (.inl rfl) ho hc hd (λh' c' kp e=>fin its r' hz h' c' kp e) (by simp only[size_toArray]<;>lia)
 ·obtain⟨its,r',pl,hz⟩:=I.tuple hq;have hlen:=r'.length;obtain⟨o,ho,hc,n,hd⟩:=pl;exact call_list_seq p (.inr rfl) ho hc hd (λh' c' kp e=>fin its r' hz h' c' kp e) (by simp only[size_toArray]<;>lia)
theorem nV:iC X (.type "tuple") (λxs H Q=> ∃p ys,xs=[.ref p]/\((SqL X.K H p ys/\ ∀l,H l=none->Q (.ref l) (upd H l (.tup ys)))\/(SqT X.K H p ys/\Q (.ref p) H))):=by
 intro pins s σ H xs us Q I r h;obtain⟨p,ys,rfl,h⟩:=h;obtain⟨u,rfl,rx⟩:=vals1 r;cases rx;rcases h with⟨hq,q⟩| ⟨hq,q⟩
 ·obtain⟨its,r',pl,hz⟩:=I.list hq;have hlen:=r'.length;refine call_tuple_list pl.isList (λh' kp=> ?_) (by simp only[size_toArray]<;>lia)
  have I1:Inv X pins σ H {s with heap:=h'}:=I.kept (t':=s.toks) kp;have I2:Inv X pins σ (upd H h'.objs.size (.tup ys)) {s with heap:=h'.push {cls:= .type "tuple",data:= .seq its.toArray}}:=
   I1.laid (t':=s.toks) (λb o e=>get?_push_of_some _ e) (le_refl _) (show jB X.prog X.w _ _ _ (.tup ys)from⟨hz,its,r',IsTup.new _ _⟩)
  exact⟨.ref h'.objs.size,_,I2,rfl,q _ (I1.hok.fresh (le_refl _))⟩
 ·obtain⟨its,r',pl,hz⟩:=I.tuple hq;exact call_tuple_same pl ⟨.ref p,H,I,rfl,q⟩
def tyV (K:PySem.W.Frag)(T:String)(x:V)(H:Hp):Prop:=match x with
 | .str _=>T="str"
 | .int _=>T="int"
 | .ref p=>(T="list"/\ ∃xs,SqL K H p xs)\/(T="tuple"/\ ∃o,K.lookup p=some o/\o.cls= .type "tuple"/\o.dict=none)\/
   (T="dict"/\((∃kvs,H p=some (.dK kvs))\/ ∃kvs,H p=some (.dT kvs)))\/(T="set"/\ ∃S n,H p=some (.set S n))
 | _=>False
theorem tyV_is {pins:List (Addr×Obj)}{σ:St}{H:Hp}{s:Shared}{T:String}{x:V}{v:Value}(I:Inv X pins σ H s)(r:RelV x v)(ty:tyV X.K T x H) :
  s.TypeIs v T/\ ∀a,v= .ref a-> ∃ob,s.heap.get? a=some ob/\ob.dict=none:=by
 cases x with
 | str z=>
  obtain⟨t,rfl⟩:=r;cases (show T="str" from ty)
  exact⟨typeIs_str s z t,λ_ e=>nomatch e⟩
 | int i=>
  obtain⟨t,rfl⟩:=r;cases (show T="int" from ty)
  exact⟨typeIs_int s i t,λ_ e=>nomatch e⟩
 | ref p=>
  cases r;rcases ty with⟨rfl,xs,hq⟩| ⟨rfl,o,hk,hc,hd⟩| ⟨rfl,hk⟩| ⟨rfl,S,n,hk⟩
  ·obtain⟨its,_,pl,_⟩:=I.list hq;refine⟨pl.isList.typeIs,λa e=> ?_⟩
   cases e;obtain⟨o,n,e,c,hd,_⟩:=pl;exact⟨o,e,hd⟩
  ·refine⟨⟨o,I.kIn p o hk,hc⟩,λa e=> ?_⟩
   cases e;exact⟨o,I.kIn _ o hk,hd⟩
  ·have z: ∃o,s.heap.get? p=some o/\o.ExactDict:=by
    rcases hk with⟨kvs,hk⟩| ⟨kvs,hk⟩
    ·obtain⟨_,_,_,_,o,_,_,e,ex,_⟩:=I.hok p _ hk;exact⟨o,e,ex⟩
    ·obtain⟨_,_,_,_,o,_,_,e,ex,_⟩:=I.hok p _ hk;exact⟨o,e,ex⟩
   obtain⟨o,e,ex⟩:=z;refine⟨⟨o,e,ex.1⟩,λa e2=> ?_⟩
   cases e2;exact⟨o,e,ex.2.1⟩
  ·obtain⟨o,_,_,_,e,ex,_⟩:=I.hok p _ hk;refine⟨⟨o,e,ex.1⟩,λa e2=> ?_⟩
   cases e2;exact⟨o,e,ex.2.1⟩
 | _=>exact False.elim ty
def tBM (K:PySem.W.Frag)(T:String)(r:V->List V->Hp->VK->Prop)(to:TE)(t:TA):TE:=λσ H Q=>to σ H λx H1=>tyV K T x H1/\t σ H1 λxs H2=>r x xs H2 Q
variable {o e:Expr}{es:List Expr}{to:TE}{t:TA}{name:Str}{apos cpos:Pos}{T id:String}{r:V->List V->Hp->VK->Prop}
theorem pe_bm (pa:PlainAttrs T)(slot:Slot T name id)(hty:typeOf (.builtin id)=pure (.type "method_descriptor"))(hm:MtR X id r)(ho:PE X o to)(ha:PA X (e::es) t)
  (hbase:attributeBase o name X.env (eval o X.env)=eval o X.env:=by rfl)
  (hfew:((backTo cpos (starEach (e::es) X.env)).all (λx=> !x.1)&&(backToKw cpos (keywordEach [] X.env)).all (λx=>x.1.isSome)
   &&decide ((e::es).length+([]:List Keyword).length+(if([]:List Keyword).isEmpty then 0 else 1)<30))=true:=by rfl)
  (hline:(apos.endLine==cpos.line)=true:=by rfl) (hs:starEach (e::es) X.env=(false,eval e X.env)::starEach es X.env:=by rfl) (hplain:(backTo cpos (starEach es X.env)).any (·.1)=false:=by rfl) :
  PE X (.Call (.Attribute o name apos) (e::es) [] cpos) (tBM X.K T r to t):=by
 intro pins s σ H Q I h;refine wpAny_Call_method_late hbase hfew hline rfl (thn (ho pins s σ H _ I h) λv s1 ⟨x,H1,I1,r1,ty,q1⟩=> ?_)
 obtain⟨h1,h2⟩:=tyV_is I1 r1 ty;refine⟨T,id,pa,slot,hty,h1,h2,?_⟩;have hA:=ha cpos pins s1 σ H1 _ I1 q1;rw[hs]at hA⊢;refine Calls.callWith_builtin (by show(false||(backTo cpos (starEach es X.env)).any (·.1))=false;rw[hplain]<;>rfl) (Calls.evalArgs_plain ?_)
 exact thn hA λus s2 ⟨vs,H2,I2,r2,q2⟩=>hm pins s2 σ H2 x vs v us Q I2 r1 r2 q2
end
end L2
namespace L2
open PySem PySem.Spec PyProof.Rows
def MtM (X:Cx)(id:String)(r:V->List V->Hp->VK->Prop):Prop:=
 ∀(pins:List (Addr×Obj)) (s:Shared) (σ:St) (H:Hp) (x:V) (xs:List V) (v:Value) (us:List Value) (Q:VK),Inv X pins σ H s->RelV x v->Vals xs us->r x xs H Q->
  wpAny (model X.prog X.w) X.A (call (.builtin id) (v::us)) (EP X pins σ Q) X.xe s
theorem Vals.one: ∀{x:V} {us:List Value},Vals [x] us-> ∃u,us=[u]/\RelV x u
 | _,_,.cons r .nil=>⟨_,rfl,r⟩
theorem Vals.zero: ∀{us:List Value},Vals [] us->us=[]
 | _,.nil=>rfl
theorem Vals.dropLast {xs:List V}{us:List Value}(h:Vals xs us):Vals xs.dropLast us.dropLast:=by
 induction h with
 | nil=>exact .nil
 | cons r t ih=>
  cases t with
  | nil=>exact .nil
  | cons q t'=>exact .cons r ih
theorem Vals.eraseIdx: ∀{xs:List V} {us:List Value} (i:Nat),Vals xs us->Vals (xs.eraseIdx i) (us.eraseIdx i)
 | _,_,_,.nil=> .nil
 | _,_,0,.cons _ t=>t
 | _,_,i+1,.cons r t=> .cons r (Vals.eraseIdx i t)
theorem Vals.reverse {xs:List V}{us:List Value}(h:Vals xs us):Vals xs.reverse us.reverse:=by
 induction h with
 | nil=>exact .nil
 | cons r t ih=>rw[reverse_cons,reverse_cons];exact Vals.append ih (.cons r .nil)
theorem Vals.rep {xs:List V}{us:List Value}(h:Vals xs us): ∀k:Nat,Vals (replicate k xs).flatten (replicate k us).flatten
 | 0=> .nil
 | k+1=>by
  rw[replicate_succ,replicate_succ,flatten_cons,flatten_cons];exact Vals.append h (Vals.rep h k)
theorem foldl_rep (its:List Value): ∀(k:Nat) (acc:List Value),
  foldl (λx1 x2=>x1++x2) acc.toArray (replicate k its.toArray)=(acc++(replicate k its).flatten).toArray
 | 0,acc=>by simp
 | k+1,acc=>by
  have e:acc.toArray++its.toArray=(acc++its).toArray:=by simp
  have e2:(acc++its)++(replicate k its).flatten=acc++(replicate (k+1) its).flatten:=by
   rw[replicate_succ,flatten_cons,List.append_assoc]
  rw[<-e2,<-foldl_rep its k (acc++its),<-e,replicate_succ,List.foldl_cons]
section
variable {X:Cx}{pins:List (Addr×Obj)}{σ:St}{H:Hp}{s:Shared}{l b:Addr}{xs ys zs:List V}
theorem Inv.lset {its its':List Value}{n:Nat}{f:Array Value->Array Value}{t':Nat}(I:Inv X pins σ H s)(hH:H l=some (.lst xs))
  (e:s.heap.get? l=some {cls:= .type "list",data:= .seq its.toArray n}) (hf:f its.toArray=its'.toArray) (hv:Vals ys its') (hz:ys.length<=sizeLine) :
  Inv X pins σ (upd H l (.lst ys)) {s with heap:=s.heap.update l (Obj.mapSeq f),toks:=t'}:=by
 have q:=PySem.IsL.update e f;rw[hf]at q;refine I.write (x:=l) (e:=l) (by rw[hH];exact trivial) (.inl rfl) (λb' u hb hu=>(Heap.get?_update_other s.heap (Obj.mapSeq f) (Ne.symm hb)).trans hu) ⟨_,q⟩ ?_
 exact⟨hz,its',_,hv,q⟩
theorem Inv.lnew {its:List Value}{t':Nat}(I:Inv X pins σ H s)(hv:Vals ys its)(hz:ys.length<=sizeLine) :
  Inv X pins σ (upd H s.heap.objs.size (.lst ys)) {s with heap:=s.heap.push {cls:= .type "list",data:= .seq its.toArray},toks:=t'}:=
 I.laid (λ_ _ q=>get?_push_of_some _ q) (le_refl _) ⟨hz,its,0,hv,get?_push_size _ rfl⟩
theorem Inv.fresh (I:Inv X pins σ H s):H s.heap.objs.size=none:=I.hok.fresh (le_refl _)
theorem Inv.lstM (I:Inv X pins σ H s)(hH:H l=some (.lst xs)):xs.length<=sizeLine/\ ∃(its:List Value) (n:Nat),Vals xs its/\xs.length=its.length/\s.heap.get? l=some {cls:= .type "list",data:= .seq its.toArray n}:=by
 obtain⟨z,its,n,r,e⟩:=I.hok l _ hH;exact⟨z,its,n,r,r.length,e⟩
theorem bE7 {n:Nat}(h:n<=sizeLine):Builtin.List.listTooLong n=false:=by
 unfold Builtin.List.listTooLong;exact decide_eq_false (by lia)
end
section
variable {X:Cx}
def bS0:V->List V->Hp->VK->Prop:=λx vs H Q=> ∃l xs y,x= .ref l/\vs=[y]/\H l=some (.lst xs)/\xs.length<sizeLine/\Q .non (upd H l (.lst (xs++[y])))
theorem aF4:MtM X "list.append" bS0:=by
 intro pins s σ H x vs v us Q I rx rv h;obtain⟨l,xs,y,rfl,rfl,hH,hz,q⟩:=h;cases rx;obtain⟨u,rfl,ru⟩:=rv.one;obtain⟨z,its,n,r,hl,e⟩:=I.lstM hH;refine call_meets F.slot_list_append ⟨_,e,rfl⟩ F.entry_list_append (F.args_list_append_2 _ _) (PySem.list_append l its.toArray n u (by rw[size_toArray];lia)) ⟨e,?_⟩
 refine⟨.non,_,I.lset (its':=its++[u]) hH e (by simp) (r.append (.cons ru .nil)) ?_,rfl,q⟩
 rw[length_append,List.length_singleton]
 lia
def rCat:R2:=λx y H Q=> ∃l b xs zs,x= .ref l/\y= .ref b/\H l=some (.lst xs)/\H b=some (.lst zs)/\xs.length+zs.length<=sizeLine/\ ∀p,H p=none->Q (.ref p) (upd H p (.lst (xs++zs)))
theorem op_cat:OpR X (binaryOp .Add) rCat:=by
 intro pins s σ H x y v u Q I rx ry h;obtain⟨l,b,xs,zs,rfl,rfl,hH,hB,hz,q⟩:=h;cases rx;cases ry;obtain⟨z,its,n,r,hl,e⟩:=I.lstM hH;obtain⟨z2,its2,n2,r2,hl2,e2⟩:=I.lstM hB;refine PySem.P.add_list e e2 ?_ (by rw[size_toArray,size_toArray];omega)
 have ea:its.toArray++its2.toArray=(its++its2).toArray:=by simp
 rw[ea];exact⟨.ref _,_,I.lnew (t':=s.toks) (r.append r2) (by rw[length_append];omega),rfl,q _ I.fresh⟩
def rRep:R2:=λx y H Q=> ∃l k xs,x= .ref l/\y= .int k/\H l=some (.lst xs)/\ -(2^63)<=k/\k<2^63/\xs.length*k.toNat<=sizeLine/\
 ∀p,H p=none->Q (.ref p) (upd H p (.lst (replicate k.toNat xs).flatten))
theorem aJ9 {α:Type}(xs:List α)(k:Nat):(replicate k xs).flatten.length=k*xs.length:=by
 induction k with
 | zero=>simp
 | succ k ih=>rw[replicate_succ,flatten_cons,length_append,ih,Nat.succ_mul,add_comm]
theorem op_rep:OpR X (binaryOp .Mult) rRep:=by
 intro pins s σ H x y v u Q I rx ry h;obtain⟨l,k,xs,rfl,rfl,hH,h1,h2,hz,q⟩:=h;cases rx;obtain⟨t,rfl⟩:=ry;obtain⟨z,its,n,r,hl,e⟩:=I.lstM hH;have hlen:its.toArray.size*k.toNat<=sizeLine:=by rw[size_toArray,<-hl];exact hz
 have hcap: ¬its.toArray.size*k.toNat>(2^63-1)/8:=by
  have:(sizeLine:Nat)<=(2^63-1)/8:=by decide
  lia
 have hfit: ¬(!Builtin.List.listFitsIndex k)=true:=by
  rw[fitsIndex_both h1 h2];exact Bool.false_ne_true
 have hlong: ¬Builtin.List.listTooLong (its.toArray.size*k.toNat)=true:=by
  rw[bE7 hlen];exact Bool.false_ne_true
 have hnew:foldl (λx1 x2=>x1++x2) #[] (replicate (if its.toArray.isEmpty=true then 0 else k.toNat) its.toArray)=(replicate k.toNat its).flatten.toArray:=by
  have f0: ∀m:Nat,foldl (λx1 x2=>x1++x2) #[] (replicate m its.toArray)=(replicate m its).flatten.toArray:=λm=>by
   have:=foldl_rep its m [];rw[List.nil_append]at this;exact this
  rw[f0];cases its with
  | nil=>simp
  | cons a r'=>rw[if_neg (by simp)]
 refine wpAny_binaryOp_repeat_ref (T:="list") (U:="int") (by decide) ⟨_,e,rfl⟩ (λs'=>typeIs_int s' k t) noFill_list_mul F.fills_int_mul F.slot_int_rmul repeat_list F.slot_int_index.lookup
  (call_meets F.slot_int_rmul (typeIs_int s k t) F.entry_int_rmul (F.args_int_rmul_2 _ _) (int___rmul___int_list k t l its.toArray n)
   ⟨e,rfl,⟨_,e,rfl⟩,call_meets F.slot_list_mul ⟨_,e,rfl⟩ F.entry_list_mul (F.args_list_mul_2 _ _) (AutoListH.list___mul___list_int_3 l its.toArray n k t hfit hcap hlong) ⟨e,?_⟩⟩)
 rw[hnew];exact⟨.ref _,_,I.lnew (t':=s.toks) (r.rep k.toNat) (by rw[aJ9,mul_comm];exact hz),rfl,q _ I.fresh⟩
end
section
variable {prog:Program}{w:World}{A:Around}{E:Value->Shared->Prop}{s:Shared}
set_option maxRecDepth 100000 in
end
end L2
namespace Att
open PySem PySem.W PySem.Calls PyProof.Rows
theorem zR {P:Params}{h:Heap}: ∀(ns:List Int) (vs:List Value),WellAll P h vs (ns.map WData.int)->IntsAre vs ns:=by
 intro ns
 induction ns with
 | nil=>
  intro vs w;rw[map_nil]at w;cases w;exact .nil
 | cons n ns ih=>
  intro vs w;rw[map_cons]at w;cases w with
  | cons a b=>
   cases a;exact .cons _ _ (ih _ b)
theorem b74 {l:OpenLaw}{n:Nat}(hn:l.most=some n){P:Params}{h:Heap}{args:List WData}{vals:List Value}
  (hpre:l.row.toRowW.claim.pre args=true) (hwl:WellAll P h vals args) :
  ∃a vs ns,vals=[Value.ref a]/\args=[WData.list (ns.map WData.int)]/\h.get? a=some {cls:= .type "list",data:= .seq vs.toArray}/\IntsAre vs ns/\ns.length<=n:=by
 have hsh:WShape.hasAll [] args [.list .int]=true:=(pre_splitW hpre).1;have hc:l.pre.holds [] {args:=args}=true:=(pre_splitW hpre).2;obtain⟨d,r,rfl,h1,h2⟩:=hasAllW_cons hsh;obtain rfl:=hasAllW_nil h2;obtain⟨xs,rfl,h3⟩:=hasW_list h1;obtain⟨ns,rfl⟩:=items_int h3;have hlen:ns.length<=n:=by
  unfold OpenLaw.pre at hc;have h4:(WTm.not (.lt (.lit (.int (n:Int))) (.len (.arg 0)))).holds [] {args:=[.list (ns.map .int)]}=true:=by
   have h4:=(holds_andW hc).1;rw[hn]at h4;exact h4
  have h5:=condW_of h4 (w_not (w_lt w_lit (w_len_list (w_arg rfl))));rw[length_map]at h5;refine Nat.le_of_not_lt λq=> ?_
  have q':(n:Int)< ((ns.length:Nat):Int):=by omega
  first
   | (rw[decide_eq_true q']at h5;exact absurd h5 (by decide))
   | (simp at h5;omega)
 cases hwl with
 | cons w1 w2=>
  cases w2;cases w1 with
  | list ho hall=>exact⟨_,_,ns,rfl,rfl,ho,zR ns _ hall,hlen⟩
theorem b75 (l:OpenLaw)(args:List WData):l.row.toRowW.claim.post args (.bool true) args=true:=
 postW_of (r:=l.row.toRowW) (X:=(true==true))
  (show WShape.has [] (.bool true) .bool=true by first|rfl|decide|simp[WShape.has,WShape.arms,WShape.armsAll])
  (show(WTm.eq .res (.lit (.bool true))).value [] {args:=args,res:=some (.bool true),after:=args}=some (.bool (true==true))from w_eq_bool (w_res rfl) w_lit) rfl
theorem attach_call {l:OpenLaw}{n:Nat}{q:Program}{loose:List Str}{XP:(Str->Option Value)->Heap->Prop}{YP:World->Heap->Prop}{d:DefRec}
  (hn:l.most=some n) (hdf:d.params.defaults=[])
  (call: ∀(w:World) (s₀ s₁:Shared) (mg mb:Str->Option Value) (fa:Addr) (o:Obj) (pm cd doc:Value) (a:Addr) (vs:List Value) (ns:List Int),
   Ground q loose [] XP w s₀ mg mb s₁.heap->YP w s₁.heap->
   s₁.heap.get? fa=some o->o.data= .func (docDef d.name d.params d.body d.scope pm cd doc)->s₁.heap.CodeRec cd d.name->mg d.name=some (.ref fa)->
   s₁.heap.get? a=some {cls:= .type "list",data:= .seq vs.toArray}->IntsAre vs ns->ns.length<=n->s₁.gens= #[]->
   codeAny (model l.prog w) callerA (.call (.ref fa) ⟨[.ref a],[]⟩) (λr s'=>r= .ok (.ret (.bool true))/\OldK s₁.heap s'.heap/\s'.os=s₁.os/\AllBare s'.gens) s₁) :
  WalkO q loose XP YP l.row.toRowW d [] (λf vs=>PySem.call f vs):=by
 intro w s₀ s₁ mg mb G Y fa o pm cd doc dV kV ho hd hcd hD hmg hg args vals as hpre hlay hrd hwl hlo;obtain rfl:dV= .none:=Dflts.none hD hdf;obtain rfl:kV= .none:=Dflts.noKw hD;obtain⟨a,vs,ns,rfl,rfl,hobj,hints,hlen⟩:=b74 hn hpre hwl;refine enter_call (codeAny_mono (call w s₀ s₁ mg mb fa o pm cd doc a vs ns G Y ho (fd_plain hd) hcd hmg hobj hints hlen hg) λr s' hq=> ?_)
 obtain⟨rfl,h2,h3,h4⟩:=hq;exact⟨.inl ⟨.bool true,.bool true,[],rfl,λ_=>rfl,.bool true,b75 l _,λ_=>⟨List.Pairwise.nil,λ_ hm=>(nomatch hm)⟩⟩,h2,h3,h4⟩
end Att
namespace L2
open PySem PySem.Spec PyProof.Rows
theorem aF5: ∀{vs:List Value} {ns:List Int},IntsAre vs ns->Vals (ns.map V.int) vs
 | _,_,.nil=> .nil
 | _,_,.cons n t h=> .cons ⟨t,rfl⟩ (aF5 h)
def Only (H:Hp):Prop:= ∀b,H b=none\/ ∃o xs,H b=some (.frz o (.lst xs))
theorem bE8 {P:Program}{w:World}{K:PySem.W.Frag}{mg mb:Str->Option Value}{CX:CXT}{k:Nat}{fa a:Addr}{fd:FuncData}{x:Str}{sp:Sp}{s₁:Shared}{vs:List Value}{ns:List Int}
  (KX:K.In s₁.heap) (hns:s₁.heap.Ns mainGlobals mg) (hb:s₁.heap.Ns builtinsNs mb) (hbb: ∀x:Str,x≠"__name__"->mb x=bootBuiltins x) (hlim:s₁.heap.NoLimit) (hg:s₁.gens= #[])
  (ha:s₁.heap.get? a=some {cls:= .type "list",data:= .seq vs.toArray}) (hi:IntsAre vs ns) (hl:ns.length<=sizeLine) (hr:dA k callerA)
  (F: ∀base:Heap,K.In base->base.Ns mainGlobals mg->kI P w K mg base CX k fa fd [x] sp) (hbind: ∀(s:Shared) (u:Value),BindsTo s fd ⟨[u],[]⟩ [(x,u)])
  (hsp: ∀H:Hp,Only H->SqL K H a (ns.map V.int)->sp [.ref a] H (λv _=>v= .bl true) λ_ _ _=>False)
  (hCX: ∀H e s',CX [] H s₁ (λ_ _ _=>False) e s'->False) :
  codeAny (model P w) callerA (.call (.ref fa) ⟨[.ref a],[]⟩) (λr s'=>r= .ok (.ret (.bool true))/\OldK s₁.heap s'.heap/\s'.os=s₁.os/\AllBare s'.gens) s₁:=by
 have rv:=aF5 hi;have lenV:=hi.length;have core: ∀H:Hp,Only H->SqL K H a (ns.map V.int)->HOk P w H s₁.heap->(∀b,H b≠none->b=a)->(H a≠none->K.lookup a=none)->
   codeAny (model P w) callerA (.call (.ref fa) ⟨[.ref a],[]⟩) (λr s'=>r= .ok (.ret (.bool true))/\OldK s₁.heap s'.heap/\s'.os=s₁.os/\AllBare s'.gens) s₁:=by
  intro H hO hS hok hA hK;have base_of: ∀{b:Addr} {o:Obj},s₁.heap.get? b=some o->H b=none->(aI8 s₁.heap H).get? b=some o:=λe n=>bC2 e n
  have noA: ∀{b:Addr} {o:Obj} {es:Array DictEntry} {ep:Nat},s₁.heap.get? b=some o->o.data= .dict es ep->H b=none:=λ{b o es ep} e d=>by
   cases q:H b with
   | none=>rfl
   | some u=>
    have e':b=a:=hA b (by rw[q];simp)
    subst e';rw[ha]at e;cases e;have d':Data.seq vs.toArray _=Data.dict es ep:=d;cases d'
  have nsK: ∀{b:Addr} {m:Str->Option Value},s₁.heap.Ns b m->(aI8 s₁.heap H).Ns b m:=λ{b m} ⟨o,es,ep,e,d,r⟩=>⟨o,es,ep,base_of e (noA e d),d,r⟩
  have hKb:K.In (aI8 s₁.heap H):=λb o e=>base_of (KX b o e) (by
   cases q:H b with
   | none=>rfl
   | some u=>
    have e':b=a:=hA b (by rw[q];simp)
    subst e';rw[hK (by rw[q];simp)]at e;cases e)
  have hM:Mod K mg (aI8 s₁.heap H):=⟨hKb,nsK hns,⟨mb,nsK hb,hbb⟩,let ⟨mc,h1,h2⟩:=hlim;⟨mc,nsK h1,h2⟩⟩;have e0:aB5 P w K mg (aI8 s₁.heap H) callerA [] s₁ H:=⟨rfl,hM,λb o e=>bP9 e,le_of_eq (b64 _ _),trivial,λb hb=>absurd (show b∈([]:List Addr)from hb) (by simp),hok,.of_eq hg⟩
  refine codeAny_mono ((F _ hKb (nsK hns)).run callerA [] s₁ H ⟨[.ref a],[]⟩ [.ref a] [.ref a] _ _ hr e0 (hbind s₁ (.ref a)) (.cons rfl .nil) (hsp H hO hS)) λr s' h=> ?_
  cases r with
  | error e=>exact(hCX H e s' h).elim
  | ok fl=>
   cases fl with
   | next=>exact False.elim h
   | brk=>exact False.elim h
   | cont=>exact False.elim h
   | ret u=>
    obtain⟨v,H',os,bare,un,hok',r',q⟩:=h;have q':v= .bl true:=q;subst q';obtain rfl:u=Value.bool true:=r';refine⟨rfl,OldK.of_keep λb o e=> ?_,os,bare⟩
    cases q:H b with
    | none=>exact un.keep b o e q (by intro z;exact absurd (show b∈([]:List Addr)from z) (by simp)) (by simp)
    | some u=>
     rcases hO b with z| ⟨ob,xs,z⟩
     ·rw[q]at z;cases z
     ·have z2:=un.frzs b ob _ z;obtain⟨e1,_⟩:=hok b _ z;obtain⟨e2,_⟩:=hok' b _ z2;rw[e]at e1;cases e1;exact e2
 cases hk:K.lookup a with
 | some o=>
  have e:=KX a o hk;rw[ha]at e;cases e;refine core (λ_=>none) (λ_=> .inl rfl) (.inr ⟨_,vs.toArray,_,hk,rfl,rfl,rfl,by rw[size_toArray,lenV];exact hl,by simpa using rv⟩) (λb u z=>by have z':(none:Option HO)=some u:=z;cases z') (λb z=>absurd rfl z) λz=>absurd rfl z
 | none=>
  refine core (λb=>if b=a then some (.frz {cls:= .type "list",data:= .seq vs.toArray} (.lst (ns.map V.int)))else none) (λb=> ?_) (.inl (.inr ⟨{cls:= .type "list",data:= .seq vs.toArray},if_pos rfl⟩)) (λb u z=> ?_) (λb z=> ?_) λ_=>hk
  ·by_cases hb:b=a
   ·exact .inr ⟨_,_,if_pos hb⟩
   ·exact .inl (if_neg hb)
  ·by_cases hb:b=a
   ·have z':=(if_pos hb).symm.trans z;cases z';subst hb;exact⟨ha,by rw[length_map];exact hl,vs,_,rv,ha⟩
   ·have z':=(if_neg hb).symm.trans z;cases z'
  ·by_cases hb:b=a
   ·exact hb
   ·exact absurd (if_neg hb) z
end L2
namespace L2
open PySem PySem.Spec PyProof.Rows
theorem walk_of {l:PySem.W.OpenLaw}{n k:Nat}{q:Program}{loose:List Str}{XP:(Str->Option Value)->Heap->Prop}{YP:World->Heap->Prop}{d:DefRec}{K:Params->PySem.W.Frag}{CX:World->CXT}{sp:World->Sp}{x:Str}
  (hn:l.most=some n) (hn2:n<=sizeLine) (hdf:d.params.defaults=[]) (hr:dA k callerA)
  (hY: ∀(w:World) (h:Heap),YP w h->(K w.params).In h)
  (F: ∀(w:World) (mg:Str->Option Value) (fa:Addr) (h:Heap),(K w.params).In h->h.Ns mainGlobals mg->mg d.name=some (.ref fa)->
   ∃fd:FuncData,(∀(s:Shared) (u:Value),BindsTo s fd ⟨[u],[]⟩ [(x,u)])/\
    ∀base:Heap,(K w.params).In base->base.Ns mainGlobals mg->kI l.prog w (K w.params) mg base (CX w) k fa fd [x] (sp w))
  (hsp: ∀(w:World) (H:Hp) (a:Addr) (ns:List Int),ns.length<=n->Only H->SqL (K w.params) H a (ns.map V.int)->sp w [.ref a] H (λv _=>v= .bl true) λ_ _ _=>False)
  (hCX: ∀(w:World) (H:Hp) (s:Shared) (e:Value) (s':Shared),CX w [] H s (λ_ _ _=>False) e s'->False) :
  PySem.W.WalkO q loose XP YP l.row.toRowW d [] (λf vs=>PySem.call f vs):=by
 refine Att.attach_call hn hdf λw s₀ s₁ mg mb fa o pm cd doc a vs ns G Y ho hd hcd hmg hobj hints hlen hg=> ?_
 have KX:=hY w _ Y;obtain⟨fd,hb,hF⟩:=F w mg fa _ KX G.T.g hmg;exact bE8 KX G.T.g G.T.b G.T.builtins G.T.nolimit hg hobj hints (le_trans hlen hn2) hr hF hb (λH hO hS=>hsp w H a ns hlen hO hS) λH e s'=>hCX w H s₁ e s'
end L2
namespace L2
open PySem PySem.Spec PyProof.Rows
def fL (s:Stmt):Arguments:=match s with
 | .FunctionDef _ a _ _ _ _ _ _ _ _=>a
 | _=>{posonlyargs:=[],args:=[],vararg:=none,kwonlyargs:=[],kw_defaults:=[],kwarg:=none,defaults:=[]}
def bK (s:Stmt):List Stmt:=match s with
 | .FunctionDef _ _ b _ _ _ _ _ _ _=>b
 | _=>[]
def a8 (s:Stmt):Scope:=match s with
 | .FunctionDef _ _ _ _ _ _ sc _ _ _=>sc
 | _=>{kind:= .function,names:=[],isGenerator:=false,isCoroutine:=false}
abbrev CX0:CXT:=λ_ _ _ _ _ _=>False
abbrev E0:XK:=λ_ _ _=>False
structure Fun (K:PySem.W.Frag)(x qual:Str)(st:Stmt)(f:Addr)(fd:FuncData):Prop where
 ex: ∃(oc:Value) (od:Option Addr) (kV doc pm:Value) (an:Option Addr) (cdv ct:Value) (osl:Array (Option Value)),
  fd=fnOf x qual (fL st) (bK st) (a8 st) .none kV doc pm an cdv ct/\K.lookup f=some ⟨oc,od,.func fd,osl⟩/\codeIn K cdv qual=true
 kp:keepIn K (.ref f)=true
section
variable {P:Program}{w:World}{K:PySem.W.Frag}{mg:Str->Option Value}{base:Heap}
theorem Fun.ok {x qual:Str}{st:Stmt}{f:Addr}{fd:FuncData}{N ps:List Str}{k:Nat}{sp:Sp}(F:Fun K x qual st f fd)(S:aP N ps (a8 st))(len: ∀vs H Q E,sp vs H Q E->vs.length=ps.length)
  (hbody: ∀(cdv:Value) (A:Around) (outer:List Env) (s:Shared) (H:Hp) (vs:List V) (Q:VK) (E:XK),dA k (A.deeper (envOfC qual (a8 st) s.heap.objs.size f cdv))->sp vs H Q E->
   ∃t,PSs (nU CX0 P w K mg base N qual (a8 st) f cdv A outer s H E).nox (bK st) t/\t {nx:=λ_ H'=>Q .non H',rt:=Q} (start N vs) H):kI P w K mg base CX0 (k+1) f fd ps sp:=by
 obtain⟨oc,od,kV,doc,pm,an,cdv,ct,osl,rfl,lk,hcd⟩:=F.ex;refine bE2 lk hcd S len λA outer s H vs Q E hr hsp=> ?_
 obtain⟨t,h,q⟩:=hbody cdv A outer s H vs Q E hr hsp;exact⟨t,h.nox,q⟩
theorem Fun.binds {x qual:Str}{st:Stmt}{f:Addr}{fd:FuncData}{ps:List Str}(F:Fun K x qual st f fd)
  (h: ∀(kV doc pm:Value) (an:Option Addr) (cdv ct:Value) (us:List Value),us.length=ps.length->bindArgs (fnOf x qual (fL st) (bK st) (a8 st) .none kV doc pm an cdv ct) ⟨us,[]⟩=pure (ps.zip us)):Binds K fd ps []:=by
 obtain⟨oc,od,kV,doc,pm,an,cdv,ct,osl,rfl,lk,hcd⟩:=F.ex;exact .all (h kV doc pm an cdv ct)
theorem aY {x qual:Str}{st:Stmt}{f:Addr}{oc:Value}{od an:Option Addr}{osl:Array (Option Value)}{kV doc pm cdv ct:Value}(l:K.lookup f=some ⟨oc,od,.func (fnOf x qual (fL st) (bK st) (a8 st) .none kV doc pm an cdv ct),osl⟩)
  (c:codeIn K cdv qual=true) (k:keepIn K (.ref f)=true):Fun K x qual st f (fnOf x qual (fL st) (bK st) (a8 st) .none kV doc pm an cdv ct):=⟨⟨oc,od,kV,doc,pm,an,cdv,ct,osl,rfl,l,c⟩,k⟩
end
section
variable {X:Cx}
theorem pv (i:Nat){x:Str}{pos:Pos}(hN:X.N[i]? =some x:=by rfl)(hv:Vis X.env.scope x:=by first|exact Or.inl rfl|exact Or.inr (Or.inl rfl)|exact Or.inr (Or.inr rfl))(hd:(x==("__debug__":Str))=false:=by decide)
  (hcd:(x==("__classdict__":Str))=false:=by decide):PE X (.Name x pos) (sD i):=pe_var hN hv hd hcd
end
def cZ (H H':Hp):Prop:= ∀b o,H b=some o->H' b=some o
theorem cZ.refl (H:Hp):cZ H H:=λ_ _ h=>h
theorem cZ.trans {H H1 H2:Hp}(a:cZ H H1)(b:cZ H1 H2):cZ H H2:=λc o h=>b c o (a c o h)
theorem cZ.free {H H':Hp}(e:cZ H H'){l:Addr}(h:H' l=Option.none):H l=Option.none:=by
 cases q:H l with
 | none=>rfl
 | some o=>
  rw[e l o q]at h;cases h
theorem cZ.seq {K:PySem.W.Frag}{H H':Hp}{a:Addr}{xs:List V}(e:cZ H H')(h:SqL K H a xs):SqL K H' a xs:=by
 rcases h with(h| ⟨o,h⟩)|h
 ·exact .inl (.inl (e _ _ h))
 ·exact .inl (.inr ⟨o,e _ _ h⟩)
 ·exact .inr h
end L2
section
namespace M
open PySem PySem.Spec PyProof.Rows L2
inductive D where
 | non|bl (b:Bool)|int (i:Int)|str (x:Str)|ty (n:String)
 | tup (l:List D)|lst (l:List D)|rol (l:List D)
 | obj (C:Addr) (ks:List Str) (l:List D)
 | adr (a:Addr)
 | xob (a d:Addr) (ks:List Str) (l:List D)
abbrev AS:=Addr->Prop
def KT (K:PySem.W.Frag)(a:Addr)(vs:List V):Prop:=
 ∃(o:Obj) (its:Array Value) (n:Nat),K.lookup a=some o/\o.cls= .type "tuple"/\o.data= .seq its n/\its.size<=sizeLine/\Vals vs its.toList
def KL (K:PySem.W.Frag)(a:Addr)(vs:List V):Prop:=
 ∃(o:Obj) (its:Array Value) (n:Nat),K.lookup a=some o/\o.cls= .type "list"/\o.dict=none/\o.data= .seq its n/\its.size<=sizeLine/\Vals vs its.toList
def OkC (K:PySem.W.Frag)(C:Addr)(ks:List Str):Prop:=Cls K C/\ ∀f∈ks,xT K C f
mutual
def Rep (K:PySem.W.Frag)(A:AS)(H:Hp):D->V->Prop
 | .non,v=>v= .non
 | .bl b,v=>v= .bl b
 | .int i,v=>v= .int i
 | .str x,v=>v= .str x
 | .ty n,v=>v= .ty n
 | .tup l,v=> ∃a vs,v= .ref a/\((¬A a/\Rd H a (.tup vs))\/KT K a vs)/\aQ K A H l vs
 | .lst l,v=> ∃a vs,v= .ref a/\ ¬A a/\H a=some (.lst vs)/\aQ K A H l vs
 | .rol l,v=> ∃a vs,v= .ref a/\((¬A a/\Rd H a (.lst vs))\/KL K a vs)/\aQ K A H l vs
 | .obj C ks l,v=> ∃a dx vs,v= .ref a/\ ¬A a/\H a=some (.ins C dx (ks.zip vs))/\ks.length=vs.length/\aQ K A H l vs/\OkC K C ks
 | .adr a,v=>v= .ref a
 | .xob a d ks l,v=> ∃vs,v= .ref a/\ ¬A d/\H d=some (.xd (ks.zip vs))/\ks.length=vs.length/\aQ K A H l vs
def aQ (K:PySem.W.Frag)(A:AS)(H:Hp):List D->List V->Prop
 | [],vs=>vs=[]
 | d::ds,vs=> ∃v vr,vs=v::vr/\Rep K A H d v/\aQ K A H ds vr
end
section
variable {K:PySem.W.Frag}{A A':AS}{H H':Hp}
def gE (A:AS)(H:Hp)(A':AS)(H':Hp):Prop:= ∀b o,¬A b->H b=some o-> ¬A' b/\H' b=some o
theorem Rd.pres (p:gE A H A' H'){a:Addr}{u:HO}(n: ¬A a)(r:Rd H a u): ¬A' a/\Rd H' a u:=by
 rcases r with r| ⟨o,r⟩
 ·exact⟨(p a _ n r).1,.inl (p a _ n r).2⟩
 ·exact⟨(p a _ n r).1,.inr ⟨o,(p a _ n r).2⟩⟩
mutual
theorem Rep.mono (p:gE A H A' H'): ∀{d:D} {v:V},Rep K A H d v->Rep K A' H' d v
 | .non,_,h=>h
 | .bl _,_,h=>h
 | .int _,_,h=>h
 | .str _,_,h=>h
 | .ty _,_,h=>h
 | .tup l,v,h=>by
  simp only[Rep]at h⊢;obtain⟨a,vs,e,c,r⟩:=h;refine⟨a,vs,e,?_,aQ.mono p r⟩;rcases c with⟨n,c⟩|c
  ·exact .inl (Rd.pres p n c)
  ·exact .inr c
 | .lst l,v,h=>by
  simp only[Rep]at h⊢;obtain⟨a,vs,e,n,c,r⟩:=h;exact⟨a,vs,e,(p a _ n c).1,(p a _ n c).2,aQ.mono p r⟩
 | .rol l,v,h=>by
  simp only[Rep]at h⊢;obtain⟨a,vs,e,c,r⟩:=h;refine⟨a,vs,e,?_,aQ.mono p r⟩;rcases c with⟨n,c⟩|c
  ·exact .inl (Rd.pres p n c)
  ·exact .inr c
 | .obj C ks l,v,h=>by
  simp only[Rep]at h⊢;obtain⟨a,dx,vs,e,n,c,hl,r,ok⟩:=h;exact⟨a,dx,vs,e,(p a _ n c).1,(p a _ n c).2,hl,aQ.mono p r,ok⟩
 | .adr _,_,h=>h
 | .xob a d ks l,v,h=>by
  simp only[Rep]at h⊢;obtain⟨vs,e,n,c,hl,r⟩:=h;exact⟨vs,e,(p d _ n c).1,(p d _ n c).2,hl,aQ.mono p r⟩
theorem aQ.mono (p:gE A H A' H'): ∀{l:List D} {vs:List V},aQ K A H l vs->aQ K A' H' l vs
 | [],_,h=>by simp only[aQ]at h ⊢; exact h
 | d::ds,vs,h=>by
  simp only[aQ]at h⊢;obtain⟨v,vr,e,r,rs⟩:=h;exact⟨v,vr,e,Rep.mono p r,aQ.mono p rs⟩
end
theorem aQ.length: ∀{l:List D} {vs:List V},aQ K A H l vs->l.length=vs.length
 | [],_,h=>by simp only[aQ]at h;subst h;rfl
 | d::ds,vs,h=>by
  simp only[aQ]at h;obtain⟨v,vr,rfl,_,rs⟩:=h;simp only[length_cons,aQ.length rs]
theorem aQ.nil:aQ K A H [] []:=by simp only[aQ]
theorem aQ.cons {d:D}{v:V}{l:List D}{vs:List V}(r:Rep K A H d v)(rs:aQ K A H l vs):aQ K A H (d::l) (v::vs):=by
 simp only[aQ];exact⟨v,vs,rfl,r,rs⟩
theorem aQ.uncons {d:D}{l:List D}{vs:List V}(h:aQ K A H (d::l) vs): ∃v vr,vs=v::vr/\Rep K A H d v/\aQ K A H l vr:=by
 simpa only[aQ]using h
theorem aQ.unnil {vs:List V}(h:aQ K A H [] vs):vs=[]:=by simpa only[aQ]using h
theorem aQ.append: ∀{l m:List D} {vs ws:List V},aQ K A H l vs->aQ K A H m ws->aQ K A H (l++m) (vs++ws)
 | [],_,_,_,h,g=>by rw[h.unnil];exact g
 | d::l,m,vs,ws,h,g=>by
  obtain⟨v,vr,rfl,r,rs⟩:=h.uncons;exact .cons r (aQ.append rs g)
theorem aQ.get: ∀{l:List D} {vs:List V} {i:Nat} {d:D},aQ K A H l vs->l[i]? =some d-> ∃v,vs[i]? =some v/\Rep K A H d v
 | [],_,_,_,_,e=>by simp at e
 | d::l,vs,0,d',h,e=>by
  obtain⟨v,vr,rfl,r,rs⟩:=h.uncons;simp at e;subst e;exact⟨v,by simp,r⟩
 | d::l,vs,i+1,d',h,e=>by
  obtain⟨v,vr,rfl,r,rs⟩:=h.uncons;obtain⟨w,h1,h2⟩:=aQ.get (i:=i) rs (by simpa using e)
  exact⟨w,by simpa using h1,h2⟩
theorem aQ.set: ∀{l:List D} {vs:List V} {d:D} {v:V} (i:Nat),aQ K A H l vs->Rep K A H d v->aQ K A H (l.set i d) (vs.set i v)
 | [],_,_,_,_,h,_=>by rw[h.unnil];exact .nil
 | d'::l,vs,d,v,0,h,g=>by
  obtain⟨w,vr,rfl,r,rs⟩:=h.uncons;exact .cons g rs
 | d'::l,vs,d,v,i+1,h,g=>by
  obtain⟨w,vr,rfl,r,rs⟩:=h.uncons;exact .cons r (aQ.set i rs g)
theorem aQ.drop: ∀{l:List D} {vs:List V} (n:Nat),aQ K A H l vs->aQ K A H (l.drop n) (vs.drop n)
 | _,_,0,h=>h
 | [],_,n+1,h=>by rw[h.unnil];exact .nil
 | d::l,vs,n+1,h=>by
  obtain⟨v,vr,rfl,r,rs⟩:=h.uncons;exact aQ.drop n rs
theorem aQ.take: ∀{l:List D} {vs:List V} (n:Nat),aQ K A H l vs->aQ K A H (l.take n) (vs.take n)
 | _,_,0,h=>by simp only[List.take_zero];exact .nil
 | [],_,n+1,h=>by rw[h.unnil];exact .nil
 | d::l,vs,n+1,h=>by
  obtain⟨v,vr,rfl,r,rs⟩:=h.uncons;exact .cons r (aQ.take n rs)
theorem aQ.rep {l:List D}{vs:List V}(h:aQ K A H l vs): ∀k:Nat,aQ K A H (replicate k l).flatten (replicate k vs).flatten
 | 0=> .nil
 | k+1=>by
  rw[replicate_succ,replicate_succ,flatten_cons,flatten_cons];exact .append h (h.rep k)
theorem aQ.reverse: ∀{l:List D} {vs:List V},aQ K A H l vs->aQ K A H l.reverse vs.reverse
 | [],_,h=>by rw[h.unnil];exact .nil
 | d::l,vs,h=>by
  obtain⟨v,vr,rfl,r,rs⟩:=h.uncons;rw[reverse_cons,reverse_cons];exact .append (aQ.reverse rs) (.cons r .nil)
theorem gE.same (s:cZ H H'):gE A H A H':=λb o n e=>⟨n,s b o e⟩
theorem gE.sub (s:cZ H H')(h: ∀a,A' a->A a):gE A H A' H':=λb o n e=>⟨λq=>n (h b q),s b o e⟩
theorem gE.fresh {a:Addr}(s:cZ H H')(n:H a=none):gE A H (λb=>A b\/b=a) H':=λb o nb e=>
 ⟨λq=>q.elim nb λz=>(by subst z;rw[n]at e;cases e),s b o e⟩
theorem gE.upd {a:Addr}{o:HO}(h:A a):gE A H A (upd H a o):=λb o' nb e=>⟨nb,by rw[aT (λz=>nb (by subst z;exact h))];exact e⟩
end
inductive B where
 | pu (d:D)|ow (l:List D)|bo (l:List D)
def B.d:B->D
 | .pu d=>d
 | .ow l=> .lst l
 | .bo l=> .lst l
abbrev Ev:=List (Option B)
def Own (ρ:Ev)(σ:L2.St):AS:=λa=> ∃(i:Nat) (l:List D),ρ[i]? =some (some (.ow l))/\σ[i]? =some (some (.ref a))
structure C0 where
 H0:Hp
 A0:AS
def Av (C:C0)(ρ:Ev)(σ:L2.St):AS:=λa=>C.A0 a\/Own ρ σ a
structure EOk (K:PySem.W.Frag)(C:C0)(ρ:Ev)(σ:L2.St)(H:Hp):Prop where
 len:ρ.length=σ.length
 pu: ∀(i:Nat) (d:D),ρ[i]? =some (some (.pu d))-> ∃v,σ[i]? =some (some v)/\Rep K (Av C ρ σ) H d v
 ow: ∀(i:Nat) (l:List D),ρ[i]? =some (some (.ow l))-> ∃a vs,σ[i]? =some (some (.ref a))/\H a=some (.lst vs)/\C.H0 a=none/\aQ K (Av C ρ σ) H l vs
 inj: ∀(i j:Nat) (l l':List D) (a:Addr),ρ[i]? =some (some (.ow l))->ρ[j]? =some (some (.ow l'))->σ[i]? =some (some (.ref a))->σ[j]? =some (some (.ref a))->i=j
 bo: ∀(i:Nat) (l:List D),ρ[i]? =some (some (.bo l))-> ∃a vs,σ[i]? =some (some (.ref a))/\C.A0 a/\C.H0 a=some (.lst vs)/\aQ K (Av C ρ σ) H l vs
 ext:cZ C.H0 H
 a0: ∀a,C.A0 a->C.H0 a≠none
section
variable {K:PySem.W.Frag}{C:C0}{ρ ρ':Ev}{σ σ':L2.St}{H H':Hp}
theorem EOk.avSome (I:EOk K C ρ σ H){a:Addr}(h:Av C ρ σ a):H a≠none:=by
 rcases h with h| ⟨i,l,h1,h2⟩
 ·intro z;cases e:C.H0 a with
  | none=>exact I.a0 a h e
  | some o=>rw[I.ext a o e]at z;cases z
 ·obtain⟨b,vs,h3,h4,_⟩:=I.ow i l h1;rw[h2]at h3;cases h3;rw[h4];simp
theorem EOk.same (I:EOk K C ρ σ H)(s:cZ H H'):EOk K C ρ σ H' where
 len:=I.len
 pu:=λi d h=>let ⟨v,h1,h2⟩:=I.pu i d h;⟨v,h1,h2.mono (.same s)⟩
 ow:=λi l h=>let ⟨a,vs,h1,h2,h3,h4⟩:=I.ow i l h;⟨a,vs,h1,s _ _ h2,h3,h4.mono (.same s)⟩
 inj:=I.inj
 bo:=λi l h=>let ⟨a,vs,h1,h2,h3,h4⟩:=I.bo i l h;⟨a,vs,h1,h2,h3,h4.mono (.same s)⟩
 ext:=I.ext.trans s
 a0:=I.a0
theorem get_set_ne {α:Type}{l:List α}{i j:Nat}{x:α}(h:i≠j):(l.set i x)[j]? =l[j]? :=by
 rw[getElem?_set];simp[h]
theorem dZ {α:Type}{l:List α}{i:Nat}{x:α}(h:i<l.length):(l.set i x)[i]? =some x:=by
 rw[getElem?_set];simp[h]
theorem aL {α:Type}{l:List α}{i j:Nat}{x y:α}(h:(l.set i x)[j]? =some y):(i=j/\y=x/\i<l.length)\/(i≠j/\l[j]? =some y):=by
 by_cases e:i=j
 ·subst e;rw[getElem?_set]at h
  by_cases hl:i<l.length
  ·simp[hl]at h;exact .inl ⟨rfl,h.symm,hl⟩
  ·simp[hl]at h
 ·exact .inr ⟨e,by rw[get_set_ne e]at h;exact h⟩
def jW (K:PySem.W.Frag)(A:AS)(H H':Hp):B->V->Prop
 | .pu d,v=>Rep K A H' d v
 | .ow l,v=> ∃a vs,v= .ref a/\H a=none/\H' a=some (.lst vs)/\aQ K (λb=>A b\/b=a) H' l vs
 | .bo _,_=>False
theorem jW.rep {A:AS}(hA: ∀a,A a->H a≠none): ∀{b:B} {v:V},jW K A H H' b v->Rep K A H' b.d v
 | .pu d,v,h=>h
 | .ow l,v,h=>by
  obtain⟨a,vs,e,n,h1,r⟩:=h;show Rep K A H' (.lst l) v;simp only[Rep];exact⟨a,vs,e,λz=>hA a z n,h1,r.mono (λb o nb q=>⟨λz=>nb (.inl z),q⟩)⟩
 | .bo l,v,h=>h.elim
theorem EOk.store (I:EOk K C ρ σ H){i:Nat}{b:B}{v:V}{H1:Hp}(s:cZ H H1)(r:jW K (Av C ρ σ) H H1 b v)(hi:i<σ.length):EOk K C (ρ.set i (some b)) (σ.set i (some v)) H1:=by
 have I1:=I.same s;have hir:i<ρ.length:=by rw[I.len];exact hi
 cases b with
 | pu d=>
  have sub: ∀a,Av C (ρ.set i (some (.pu d))) (σ.set i (some v)) a->Av C ρ σ a:=by
   rintro a (z| ⟨j,l,h1,h2⟩)
   ·exact .inl z
   ·rcases aL h1 with⟨rfl,h3,_⟩| ⟨ne,h3⟩
    ·cases h3
    ·rw[get_set_ne ne]at h2;exact .inr ⟨j,l,h3,h2⟩
  refine⟨by rw[length_set,length_set];exact I.len,?_,?_,?_,?_,I1.ext,I.a0⟩
  rotate_right
  ·intro j l h;rcases aL h with⟨rfl,h3,_⟩| ⟨ne,h3⟩
   ·cases h3
   ·obtain⟨a,vs,h4,h5,h6,h7⟩:=I1.bo j l h3;exact⟨a,vs,by rw[get_set_ne ne];exact h4,h5,h6,h7.mono (.sub (.refl _) sub)⟩
  ·intro j d' h;rcases aL h with⟨rfl,h3,_⟩| ⟨ne,h3⟩
   ·cases h3;exact⟨v,dZ hi,Rep.mono (.sub (.refl _) sub) r⟩
   ·obtain⟨v',h4,h5⟩:=I1.pu j d' h3;exact⟨v',by rw[get_set_ne ne];exact h4,h5.mono (.sub (.refl _) sub)⟩
  ·intro j l h;rcases aL h with⟨rfl,h3,_⟩| ⟨ne,h3⟩
   ·cases h3
   ·obtain⟨a,vs,h4,h5,h6,h7⟩:=I1.ow j l h3;exact⟨a,vs,by rw[get_set_ne ne];exact h4,h5,h6,h7.mono (.sub (.refl _) sub)⟩
  ·intro j k l l' a h1 h2 h3 h4;rcases aL h1 with⟨rfl,z,_⟩| ⟨ne,z⟩
   ·cases z
   ·rcases aL h2 with⟨rfl,z',_⟩| ⟨ne',z'⟩
    ·cases z'
    ·rw[get_set_ne ne]at h3;rw[get_set_ne ne']at h4;exact I.inj j k l l' a z z' h3 h4
 | ow l0=>
  obtain⟨a0,vs0,rfl,n0,e0,r0⟩:=r;have sub: ∀a,Av C (ρ.set i (some (.ow l0))) (σ.set i (some (.ref a0))) a->Av C ρ σ a\/a=a0:=by
   rintro a (z| ⟨j,l,h1,h2⟩)
   ·exact .inl (.inl z)
   ·rcases aL h1 with⟨rfl,h3,_⟩| ⟨ne,h3⟩
    ·rw[dZ hi]at h2;cases h2;exact .inr rfl
    ·rw[get_set_ne ne]at h2;exact .inl (.inr ⟨j,l,h3,h2⟩)
  have P:gE (Av C ρ σ) H (Av C (ρ.set i (some (.ow l0))) (σ.set i (some (.ref a0)))) H1:=λb o nb e=>
   ⟨λq=>(sub b q).elim nb λz=>(by subst z;rw[n0]at e;cases e),s b o e⟩
  refine⟨by rw[length_set,length_set];exact I.len,?_,?_,?_,?_,I1.ext,I.a0⟩
  rotate_right
  ·intro j l h;rcases aL h with⟨rfl,h3,_⟩| ⟨ne,h3⟩
   ·cases h3
   ·obtain⟨a,vs,h4,h5,h6,h7⟩:=I.bo j l h3;exact⟨a,vs,by rw[get_set_ne ne];exact h4,h5,h6,h7.mono P⟩
  ·intro j d' h;rcases aL h with⟨rfl,h3,_⟩| ⟨ne,h3⟩
   ·cases h3
   ·obtain⟨v',h4,h5⟩:=I.pu j d' h3;exact⟨v',by rw[get_set_ne ne];exact h4,h5.mono P⟩
  ·intro j l h;rcases aL h with⟨rfl,h3,_⟩| ⟨ne,h3⟩
   ·cases h3;refine⟨a0,vs0,dZ hi,e0,?_,r0.mono (λb o nb q=>⟨λz=>nb (sub b z),q⟩)⟩
    cases e:C.H0 a0 with
    | none=>rfl
    | some o=>rw[I.ext _ _ e]at n0;cases n0
   ·obtain⟨a,vs,h4,h5,h6,h7⟩:=I.ow j l h3;exact⟨a,vs,by rw[get_set_ne ne];exact h4,s _ _ h5,h6,h7.mono P⟩
  ·intro j k l l' a h1 h2 h3 h4;have old: ∀{j:Nat} {l:List D},ρ[j]? =some (some (.ow l))->σ[j]? ≠some (some (.ref a0)):=λ{j l} h z=>by
    obtain⟨b,vs,h4,h5,_⟩:=I.ow j l h;rw[z]at h4;cases h4;rw[n0]at h5;cases h5
   rcases aL h1 with⟨rfl,z,_⟩| ⟨ne,z⟩
   ·rw[dZ hi]at h3;cases h3;rcases aL h2 with⟨rfl,z',_⟩| ⟨ne',z'⟩
    ·rfl
    ·rw[get_set_ne ne']at h4;exact absurd h4 (old z')
   ·rw[get_set_ne ne]at h3;rcases aL h2 with⟨rfl,z',_⟩| ⟨ne',z'⟩
    ·rw[dZ hi]at h4;cases h4;exact absurd h3 (old z)
    ·rw[get_set_ne ne']at h4;exact I.inj j k l l' a z z' h3 h4
 | bo l0=>exact r.elim
theorem EOk.freeze (I:EOk K C ρ σ H){i:Nat}{l:List D}(h:ρ[i]? =some (some (.ow l))) :
  EOk K C (ρ.set i (some (.pu (.lst l)))) σ H/\(∀a,Own (ρ.set i (some (.pu (.lst l)))) σ a->Own ρ σ a)/\ ∃v,σ[i]? =some (some v)/\Rep K (Av C (ρ.set i (some (.pu (.lst l)))) σ) H (.lst l) v:=by
 have sub: ∀a,Own (ρ.set i (some (.pu (.lst l)))) σ a->Own ρ σ a:=by
  rintro a ⟨j,l',h1,h2⟩;rcases aL h1 with⟨rfl,h3,_⟩| ⟨ne,h3⟩
  ·cases h3
  ·exact⟨j,l',h3,h2⟩
 have subA: ∀a,Av C (ρ.set i (some (.pu (.lst l)))) σ a->Av C ρ σ a:=λa z=>z.imp id (sub a)
 obtain⟨a,vs,h1,h2,h3,h4⟩:=I.ow i l h;have na: ¬Av C (ρ.set i (some (.pu (.lst l)))) σ a:=by
  rintro(z| ⟨j,l',g1,g2⟩)
  ·exact I.a0 a z h3
  ·rcases aL g1 with⟨rfl,g3,_⟩| ⟨ne,g3⟩
   ·cases g3
   ·exact ne (I.inj i j l l' a h g3 h1 g2)
 have R:Rep K (Av C (ρ.set i (some (.pu (.lst l)))) σ) H (.lst l) (.ref a):=by
  simp only[Rep];exact⟨a,vs,rfl,na,h2,h4.mono (.sub (.refl _) subA)⟩
 refine⟨⟨by rw[length_set];exact I.len,?_,?_,?_,?_,I.ext,I.a0⟩,sub,.ref a,h1,R⟩
 rotate_right
 ·intro j l' g;rcases aL g with⟨rfl,g3,_⟩| ⟨ne,g3⟩
  ·cases g3
  ·obtain⟨a',vs',g4,g5,g6,g7⟩:=I.bo j l' g3;exact⟨a',vs',g4,g5,g6,g7.mono (.sub (.refl _) subA)⟩
 ·intro j d' g;rcases aL g with⟨rfl,g3,_⟩| ⟨ne,g3⟩
  ·cases g3;exact⟨_,h1,R⟩
  ·obtain⟨v',g4,g5⟩:=I.pu j d' g3;exact⟨v',g4,g5.mono (.sub (.refl _) subA)⟩
 ·intro j l' g;rcases aL g with⟨rfl,g3,_⟩| ⟨ne,g3⟩
  ·cases g3
  ·obtain⟨a',vs',g4,g5,g6,g7⟩:=I.ow j l' g3;exact⟨a',vs',g4,g5,g6,g7.mono (.sub (.refl _) subA)⟩
 ·intro j k l1 l2 a' g1 g2 g3 g4;rcases aL g1 with⟨rfl,z,_⟩| ⟨ne,z⟩
  ·cases z
  ·rcases aL g2 with⟨rfl,z',_⟩| ⟨ne',z'⟩
   ·cases z'
   ·exact I.inj j k l1 l2 a' z z' g3 g4
theorem EOk.write (I:EOk K C ρ σ H){i:Nat}{l l':List D}{a:Addr}{vs':List V}(h:ρ[i]? =some (some (.ow l)))(hs:σ[i]? =some (some (.ref a)))(r:aQ K (Av C ρ σ) H l' vs') :
  EOk K C (ρ.set i (some (.ow l'))) σ (upd H a (.lst vs')):=by
 have hi:i<ρ.length:=(List.getElem?_eq_some_iff.mp h).1;have sub: ∀b,Av C (ρ.set i (some (.ow l'))) σ b->Av C ρ σ b:=by
  rintro b (z| ⟨j,l2,h1,h2⟩)
  ·exact .inl z
  ·rcases aL h1 with⟨rfl,h3,_⟩| ⟨ne,h3⟩
   ·exact .inr ⟨i,l,h,h2⟩
   ·exact .inr ⟨j,l2,h3,h2⟩
 have own:Av C ρ σ a:= .inr ⟨i,l,h,hs⟩;have P:gE (Av C ρ σ) H (Av C (ρ.set i (some (.ow l'))) σ) (upd H a (.lst vs')):=λb o nb e=>⟨λz=>nb (sub b z),(gE.upd own b o nb e).2⟩
 obtain⟨a1,vs,h1,h2,h3,h4⟩:=I.ow i l h;rw[hs]at h1;cases h1;refine⟨by rw[length_set];exact I.len,?_,?_,?_,?_,?_,I.a0⟩
 rotate_left 3
 ·intro j l2 g;rcases aL g with⟨rfl,g3,_⟩| ⟨ne,g3⟩
  ·cases g3
  ·obtain⟨a',vs',g4,g5,g6,g7⟩:=I.bo j l2 g3;exact⟨a',vs',g4,g5,g6,g7.mono P⟩
 rotate_left 1
 ·intro j d' g;rcases aL g with⟨rfl,g3,_⟩| ⟨ne,g3⟩
  ·cases g3
  ·obtain⟨v',g4,g5⟩:=I.pu j d' g3;exact⟨v',g4,g5.mono P⟩
 ·intro j l2 g;rcases aL g with⟨rfl,g3,_⟩| ⟨ne,g3⟩
  ·cases g3;exact⟨a,vs',hs,dS,h3,r.mono P⟩
  ·obtain⟨a',vs2,g4,g5,g6,g7⟩:=I.ow j l2 g3;refine⟨a',vs2,g4,?_,g6,g7.mono P⟩;rw[aT (λz=> ?_)]
   ·exact g5
   ·subst z;exact ne (I.inj i j l l2 a' h g3 hs g4)
 ·intro j k l1 l2 a' g1 g2 g3 g4;have old: ∀{j:Nat} {l1:List D},(ρ.set i (some (.ow l')))[j]? =some (some (.ow l1))-> ∃l3,ρ[j]? =some (some (.ow l3)):=λ{j l1} g=>by
   rcases aL g with⟨rfl,z,_⟩| ⟨ne,z⟩
   ·exact⟨l,h⟩
   ·exact⟨l1,z⟩
  obtain⟨_,q1⟩:=old g1;obtain⟨_,q2⟩:=old g2;exact I.inj j k _ _ a' q1 q2 g3 g4
 ·intro b o e;rw[aT (λz=> ?_)]
  ·exact I.ext b o e
  ·subst z;rw[h3]at e;cases e
def C0.raise (C:C0)(ρ:Ev)(σ:L2.St)(H:Hp)(D:(a:Addr)->Decidable (Own ρ σ a)):C0:=⟨λb=> @ite _ (Own ρ σ b) (D b) none (H b),C.A0⟩
open Classical in
theorem EOk.raise (I:EOk K C ρ σ H):EOk K (C.raise ρ σ H λ_=>inferInstance) ρ σ H/\cZ C.H0 (C.raise ρ σ H λ_=>inferInstance).H0:=by
 have e1: ∀b,Own ρ σ b->(C.raise ρ σ H λ_=>inferInstance).H0 b=none:=λb h=>if_pos h
 have e2: ∀b,¬Own ρ σ b->(C.raise ρ σ H λ_=>inferInstance).H0 b=H b:=λb h=>if_neg h
 have no: ∀b o,C.H0 b=some o-> ¬Own ρ σ b:=λb o e ⟨i,l,h1,h2⟩=>by
  obtain⟨a,vs,h3,h4,h5,_⟩:=I.ow i l h1;rw[h2]at h3;cases h3;rw[h5]at e;cases e
 have s1:cZ C.H0 (C.raise ρ σ H λ_=>inferInstance).H0:=λb o e=>by rw[e2 b (no b o e)];exact I.ext b o e
 refine⟨⟨I.len,I.pu,λi l h=> ?_,I.inj,λi l h=> ?_,λb o e=> ?_,λa h z=> ?_⟩,s1⟩
 ·obtain⟨a,vs,h3,h4,h5,h6⟩:=I.ow i l h;exact⟨a,vs,h3,h4,e1 a ⟨i,l,h,h3⟩,h6⟩
 ·obtain⟨a,vs,h3,h4,h5,h6⟩:=I.bo i l h;exact⟨a,vs,h3,h4,s1 _ _ h5,h6⟩
 ·by_cases q:Own ρ σ b
  ·rw[e1 b q]at e;cases e
  ·rw[e2 b q]at e;exact e
 ·cases e:C.H0 a with
  | none=>exact I.a0 a h e
  | some o=>rw[s1 a o e]at z;cases z
theorem EOk.lower {C C':C0}(I:EOk K C' ρ σ H)(s:cZ C.H0 C'.H0)(e:C'.A0=C.A0)(ha: ∀a,C.A0 a->C.H0 a≠none):EOk K C ρ σ H:=by
 obtain⟨H0',A0'⟩:=C';obtain⟨H0,A0⟩:=C;have e':A0'=A0:=e;subst e';refine⟨I.len,I.pu,λi l h=> ?_,I.inj,λi l h=> ?_,s.trans I.ext,ha⟩
 ·obtain⟨a,vs,h3,h4,h5,h6⟩:=I.ow i l h;exact⟨a,vs,h3,h4,s.free h5,h6⟩
 ·obtain⟨a,vs,h3,h4,h5,h6⟩:=I.bo i l h;refine⟨a,vs,h3,h4,?_,h6⟩;cases e:H0 a with
  | none=>exact absurd e (ha a h4)
  | some o=>
   have:=s a o e;have h5':H0' a=some (.lst vs):=h5;have this':H0' a=some o:=this;rw[h5']at this';cases this';exact e
end
end M
end
section
namespace M
open PySem PySem.Spec PyProof.Rows L2
def Frz (ρ ρ':Ev):Prop:=ρ'.length=ρ.length/\ ∀i:Nat,ρ'[i]? =ρ[i]? \/ ∃l:List D,ρ[i]? =some (some (.ow l))/\ρ'[i]? =some (some (.pu (.lst l)))
theorem Frz.refl (ρ:Ev):Frz ρ ρ:=⟨rfl,λ_=> .inl rfl⟩
theorem Frz.trans {a b c:Ev}(h:Frz a b)(g:Frz b c):Frz a c:=by
 refine⟨g.1.trans h.1,λi=> ?_⟩
 rcases g.2 i with e| ⟨l,e1,e2⟩
 ·rcases h.2 i with e'| ⟨l,e1,e2⟩
  ·exact .inl (e.trans e')
  ·exact .inr ⟨l,e1,e.trans e2⟩
 ·rcases h.2 i with e'| ⟨l',e3,e4⟩
  ·exact .inr ⟨l,e'▸e1,e2⟩
  ·rw[e4]at e1;cases e1
theorem Frz.own {ρ ρ':Ev}{σ:L2.St}(f:Frz ρ ρ'){a:Addr}(h:Own ρ' σ a):Own ρ σ a:=by
 obtain⟨i,l,h1,h2⟩:=h;rcases f.2 i with e| ⟨l',_,e2⟩
 ·exact⟨i,l,e▸h1,h2⟩
 ·rw[e2]at h1;cases h1
theorem Frz.set {ρ:Ev}{i:Nat}{l:List D}(h:ρ[i]? =some (some (.ow l))):Frz ρ (ρ.set i (some (.pu (.lst l)))):=by
 refine⟨length_set,λj=> ?_⟩
 by_cases e:i=j
 ·subst e;exact .inr ⟨l,h,dZ (List.getElem?_eq_some_iff.mp h).1⟩
 ·exact .inl (get_set_ne e)
section
variable {K:PySem.W.Frag}{C:C0}{ρ ρ':Ev}{σ:L2.St}{H H':Hp}
theorem Frz.av (f:Frz ρ ρ'){a:Addr}(h:Av C ρ' σ a):Av C ρ σ a:=h.imp id f.own
theorem EOk.frz (I:EOk K C ρ σ H)(f:Frz ρ ρ'):EOk K C ρ' σ H:=by
 have ow': ∀{j:Nat} {l:List D},ρ'[j]? =some (some (.ow l))->ρ[j]? =some (some (.ow l)):=λ{j l} h=>by
  rcases f.2 j with e| ⟨l',_,e2⟩
  ·exact e▸h
  ·rw[e2]at h;cases h
 refine⟨by rw[f.1];exact I.len,λi d h=> ?_,λi l h=> ?_,λi j l l' a h1 h2=>I.inj i j l l' a (ow' h1) (ow' h2),λi l h=> ?_,I.ext,I.a0⟩
 ·rcases f.2 i with e| ⟨l,e1,e2⟩
  ·obtain⟨v,h1,h2⟩:=I.pu i d (e▸h);exact⟨v,h1,h2.mono (.sub (.refl _) λa=>f.av)⟩
  ·rw[e2]at h;cases h;obtain⟨a,vs,h1,h2,h3,h4⟩:=I.ow i l e1;refine⟨.ref a,h1,?_⟩;simp only[Rep];refine⟨a,vs,rfl,?_,h2,h4.mono (.sub (.refl _) λa=>f.av)⟩
   rintro(z| ⟨j,l',g1,g2⟩)
   ·exact I.a0 a z h3
   ·have:=I.inj i j l l' a e1 (ow' g1) h1 g2;subst this;rw[e2]at g1;cases g1
 ·obtain⟨a,vs,h1,h2,h3,h4⟩:=I.ow i l (ow' h);exact⟨a,vs,h1,h2,h3,h4.mono (.sub (.refl _) λa=>f.av)⟩
 ·have h':ρ[i]? =some (some (.bo l)):=by
   rcases f.2 i with e| ⟨l',_,e2⟩
   ·exact e▸h
   ·rw[e2]at h;cases h
  obtain⟨a,vs,h1,h2,h3,h4⟩:=I.bo i l h';exact⟨a,vs,h1,h2,h3,h4.mono (.sub (.refl _) λa=>f.av)⟩
end
abbrev UE:=Ev->(B->Ev->Prop)->Prop
abbrev UV:=Ev->(D->Ev->Prop)->Prop
abbrev UA:=Ev->(List D->Ev->Prop)->Prop
abbrev UT:=Ev->(Bool->Ev->Prop)->Prop
def lE (K:PySem.W.Frag)(t:UE):TE:=λσ H Q=> ∃C ρ Q0,EOk K C ρ σ H/\t ρ Q0/\
 ∀b ρ' v H',Q0 b ρ'->Frz ρ ρ'->cZ H H'->jW K (Av C ρ' σ) H H' b v->Q v H'
def lA (K:PySem.W.Frag)(t:UA):TA:=λσ H Q=> ∃C ρ Q0,EOk K C ρ σ H/\t ρ Q0/\
 ∀ds ρ' vs H',Q0 ds ρ'->Frz ρ ρ'->cZ H H'->aQ K (Av C ρ' σ) H' ds vs->Q vs H'
def lT (K:PySem.W.Frag)(t:UT):TT:=λσ H Q=> ∃C ρ Q0,EOk K C ρ σ H/\t ρ Q0/\
 ∀b ρ' H',Q0 b ρ'->Frz ρ ρ'->cZ H H'->Q b H'
def aY0 (K:PySem.W.Frag)(A:AS)(H:Hp):D->V->Prop
 | .tup l,v=> ∃a vs,v= .ref a/\SqT K H a vs/\aQ K A H l vs
 | .lst l,v=> ∃a vs,v= .ref a/\H a=some (.lst vs)/\aQ K A H l vs
 | .rol l,v=> ∃a vs,v= .ref a/\SqL K H a vs/\aQ K A H l vs
 | d,v=>Rep K A H d v
def lV (K:PySem.W.Frag)(t:UV):TE:=λσ H Q=> ∃C ρ Q0,EOk K C ρ σ H/\t ρ Q0/\
 ∀d ρ' v H',Q0 d ρ'->Frz ρ ρ'->cZ H H'->aY0 K (Av C ρ' σ) H' d v->Q v H'
def PU (X:Cx)(e:Expr)(t:UE):Prop:=PE X e (lE X.K t)
def PUV (X:Cx)(e:Expr)(t:UV):Prop:=PE X e (lV X.K t)
def PUA (X:Cx)(es:List Expr)(t:UA):Prop:=PA X es (lA X.K t)
def PUT (X:Cx)(e:Expr)(t:UT):Prop:=PT X e (lT X.K t)
def PUW (X:Cx)(e:Expr)(t:UT):Prop:=PW X e (lT X.K t)
section
variable {K:PySem.W.Frag}{A:AS}{H:Hp}
theorem Rep.one: ∀{d:D} {v:V},Rep K A H d v->aY0 K A H d v
 | .non,_,h=>h
 | .bl _,_,h=>h
 | .int _,_,h=>h
 | .str _,_,h=>h
 | .ty _,_,h=>h
 | .tup l,v,h=>by
  simp only[Rep]at h;obtain⟨a,vs,e,c,r⟩:=h;exact⟨a,vs,e,c.imp And.right id,r⟩
 | .lst l,v,h=>by
  simp only[Rep]at h;obtain⟨a,vs,e,n,c,r⟩:=h;exact⟨a,vs,e,c,r⟩
 | .rol l,v,h=>by
  simp only[Rep]at h;obtain⟨a,vs,e,c,r⟩:=h;exact⟨a,vs,e,c.imp And.right id,r⟩
 | .obj _ _ _,_,h=>h
 | .adr _,_,h=>h
 | .xob _ _ _ _,_,h=>h
end
theorem eO {X:Cx}{e:Expr}{t t':TE}(h:PE X e t)(i: ∀σ H Q,t' σ H Q->t σ H Q):PE X e t':=λpins s σ H Q I q=>h pins s σ H Q I (i σ H Q q)
theorem bZ9 {X:Cx}{es:List Expr}{t t':TA}(h:PA X es t)(i: ∀σ H Q,t' σ H Q->t σ H Q):PA X es t':=λpos pins s σ H Q I q=>h pos pins s σ H Q I (i σ H Q q)
theorem aQ6 {X:Cx}{e:Expr}{t t':TT}(h:PT X e t)(i: ∀σ H Q,t' σ H Q->t σ H Q):PT X e t':=λpins s σ H Q I q=>h pins s σ H Q I (i σ H Q q)
theorem c00 {X:Cx}{e:Expr}{t t':TT}(h:PW X e t)(i: ∀σ H Q,t' σ H Q->t σ H Q):PW X e t':=λw pins s σ H Q I q=>h w pins s σ H Q I (i σ H Q q)
section
variable {X:Cx}{a b c e o:Expr}{es kH:List Expr}{pos:Pos}{ta tb tc:UE}
def uC (d:D):UE:=λρ Q=>Q (.pu d) ρ
theorem aC {i j pos}:PU X (.Constant (.int i) j pos) (uC (.int i)):=eO pe_int λσ H Q ⟨C,ρ,Q0,I,h,k⟩=>k _ ρ _ H h (.refl _) (.refl _) (show Rep _ _ _ _ _ by simp only[Rep])
theorem yY {b j pos}:PU X (.Constant (.bool b) j pos) (uC (.bl b)):=eO pe_bl λσ H Q ⟨C,ρ,Q0,I,h,k⟩=>k _ ρ _ H h (.refl _) (.refl _) (show Rep _ _ _ _ _ by simp only[Rep])
theorem aY1 {j pos}:PU X (.Constant .none j pos) (uC .non):=eO pe_non λσ H Q ⟨C,ρ,Q0,I,h,k⟩=>k _ ρ _ H h (.refl _) (.refl _) (show Rep _ _ _ _ _ by simp only[Rep])
theorem pu_str {x j pos}:PU X (.Constant (.str x) j pos) (uC (.str x)):=eO pe_str λσ H Q ⟨C,ρ,Q0,I,h,k⟩=>k _ ρ _ H h (.refl _) (.refl _) (show Rep _ _ _ _ _ by simp only[Rep])
def yZ (ρ:Ev)(i:Nat)(Q:B->Ev->Prop):Prop:=match ρ[i]? with
 | some (some (.pu d))=>Q (.pu d) ρ
 | some (some (.ow l))=>Q (.pu (.lst l)) (ρ.set i (some (.pu (.lst l))))
 | _=>False
def a9 (i:Nat):UE:=λρ Q=>yZ ρ i Q
theorem bX (i:Nat){x:Str}{pos:Pos}(h:PE X (.Name x pos) (sD i)):PU X (.Name x pos) (a9 i):=eO h λσ H Q ⟨C,ρ,Q0,I,h,k⟩=>by
 unfold a9 yZ at h;split at h
 ·rename_i d e
  obtain⟨v,h1,h2⟩:=I.pu i d e;exact⟨v,h1,k _ ρ v H h (.refl _) (.refl _) h2⟩
 ·rename_i l e
  obtain⟨_,_,v,h1,h2⟩:=I.freeze e;exact⟨v,h1,k _ _ v H h (.set e) (.refl _) h2⟩
 ·exact h.elim
def a34 (ρ:Ev)(i:Nat)(Q:D->Ev->Prop):Prop:=match ρ[i]? with
 | some (some (.pu d))=>Q d ρ
 | some (some (.ow l))=>Q (.lst l) ρ
 | some (some (.bo l))=>Q (.lst l) ρ
 | _=>False
def aN (i:Nat):UV:=λρ Q=>a34 ρ i Q
theorem pS (i:Nat){x:Str}{pos:Pos}(h:PE X (.Name x pos) (sD i)):PUV X (.Name x pos) (aN i):=eO h λσ H Q ⟨C,ρ,Q0,I,h,k⟩=>by
 unfold aN a34 at h;split at h
 ·rename_i d e
  obtain⟨v,h1,h2⟩:=I.pu i d e;exact⟨v,h1,k _ ρ v H h (.refl _) (.refl _) h2.one⟩
 ·rename_i l e
  obtain⟨a,vs,h1,h2,h3,h4⟩:=I.ow i l e;exact⟨_,h1,k _ ρ _ H h (.refl _) (.refl _) ⟨a,vs,rfl,h2,h4⟩⟩
 ·rename_i l e
  obtain⟨a,vs,h1,h2,h3,h4⟩:=I.bo i l e;exact⟨_,h1,k _ ρ _ H h (.refl _) (.refl _) ⟨a,vs,rfl,I.ext _ _ h3,h4⟩⟩
 ·exact h.elim
def uV (t:UE):UV:=λρ Q=>t ρ λb ρ1=>Q b.d ρ1
theorem EOk.avF {K:PySem.W.Frag}{C:C0}{ρ ρ':Ev}{σ:L2.St}{H:Hp}(I:EOk K C ρ σ H)(f:Frz ρ ρ'){a:Addr}(h:Av C ρ' σ a):H a≠none:=I.avSome (f.av h)
theorem a35 (h:PU X e ta):PUV X e (uV ta):=eO h λσ H Q ⟨C,ρ,Q0,I,h,k⟩=>
 ⟨C,ρ,_,I,h,λb ρ' v H' q f s r=>k b.d ρ' v H' q f s (r.rep λa z=>I.avF f z).one⟩
theorem a13 {x:Str}{v:V}{d:D}{pos:Pos}(h:PE X (.Name x pos) (tC v))(r: ∀A H,Rep X.K A H d v):PU X (.Name x pos) (uC d):=eO h λσ H Q ⟨C,ρ,Q0,I,h,k⟩=>k _ ρ _ H h (.refl _) (.refl _) (r _ _)
def OpU (X:Cx)(f:Value->Value->Sem Value)(g:D->D->(B->Prop)->Prop):Prop:=
 ∀(A:AS) (H:Hp) (d e:D) (v w:V) (Q0:B->Prop) (Q:VK),(∀a,A a->H a≠none)->Rep X.K A H d v->Rep X.K A H e w->g d e Q0->
  (∀b v' H',Q0 b->cZ H H'->jW X.K A H H' b v'->Q v' H')-> ∃r,OpR X f r/\r v w H Q
def uOp (g:D->D->(B->Prop)->Prop)(ta tb:UE):UE:=λρ Q=>ta ρ λx ρ1=>tb ρ1 λy ρ2=>g x.d y.d λb=>Q b ρ2
theorem bE9 {f:Value->Value->Sem Value}:OpR X f (λx y H Q=> ∃r,OpR X f r/\r x y H Q):=λpins s σ H x y v u Q I rx ry ⟨r,hr,q⟩=>hr pins s σ H x y v u Q I rx ry q
theorem jW.from {K:PySem.W.Frag}{A:AS}{H0 H H':Hp}(s:cZ H0 H): ∀{b:B} {v:V},jW K A H H' b v->jW K A H0 H' b v
 | .pu _,_,h=>h
 | .ow _,_,⟨a,vs,e,n,h1,r⟩=>⟨a,vs,e,s.free n,h1,r⟩
 | .bo _,_,h=>h.elim
theorem lOp {f:Value->Value->Sem Value}{g:D->D->(B->Prop)->Prop}(ho:OpU X f g)(σ:L2.St)(H:Hp)(Q:VK)(h:lE X.K (uOp g ta tb) σ H Q) :
  tOp (λx y H Q=> ∃r,OpR X f r/\r x y H Q) (lE X.K ta) (lE X.K tb) σ H Q:=by
 obtain⟨C,ρ,Q0,I,h,k⟩:=h;refine⟨C,ρ,_,I,h,λx ρ1 v H1 q1 f1 s1 r1=> ?_⟩
 have I1:=(I.frz f1).same s1;refine⟨C,ρ1,_,I1,q1,λy ρ2 w H2 q2 f2 s2 r2=> ?_⟩
 have I2:=(I1.frz f2).same s2;have hA: ∀a,Av C ρ2 σ a->H2 a≠none:=λa z=>I2.avSome z
 refine ho (Av C ρ2 σ) H2 x.d y.d v w _ Q hA ((r1.rep λa z=>I.avF f1 z).mono (.sub s2 λa=>f2.av)) (r2.rep λa z=>I1.avF f2 z) q2 λb v' H' q s r=> ?_
 exact k b ρ2 v' H' q (f1.trans f2) (s1.trans (s2.trans s)) (r.from (s1.trans s2))
theorem aG {op:Operator}{g:D->D->(B->Prop)->Prop}(ho:OpU X (binaryOp op) g)(ha:PU X a ta)(hb:PU X b tb):PU X (.BinOp a op b pos) (uOp g ta tb):=
 eO (pe_op bE9 ha hb) (lOp ho)
theorem aK0 {op:CmpOp}{g:D->D->(B->Prop)->Prop}(ho:OpU X (compareOp op) g)(ha:PU X a ta)(hb:PU X b tb)(hm:behindInMarks op b=false):PU X (.Compare a [op] [b] pos) (uOp g ta tb):=
 eO (bR0 bE9 ha hb hm) (lOp ho)
def isB (Q:Bool->Ev->Prop):B->Ev->Prop:=λb ρ=>match b with
 | .pu (.bl k)=>Q k ρ
 | _=>False
def bY (t:UE):UT:=λρ Q=>t ρ (isB Q)
theorem bS1 {t:UE}(σ:L2.St)(H:Hp)(Q:Bool->Hp->Prop)(h:lT X.K (bY t) σ H Q):lE X.K t σ H λx H'=> ∃k,x= .bl k/\Q k H':=by
 obtain⟨C,ρ,Q0,I,h,k⟩:=h;refine⟨C,ρ,_,I,h,λb ρ' v H' q f s r=> ?_⟩
 unfold isB at q;split at q
 ·rename_i k'
  refine⟨k',?_,k k' ρ' H' q f s⟩
  have r':Rep X.K (Av C ρ' σ) H' (.bl k') v:=r
  simpa only[Rep]using r'
 ·exact q.elim
theorem zA (h:PU X e ta)(he: ∀whole,isTrue e X.env whole=(do let v<-whole;standAt e.pos;holding [v] (truthy v)):=by intro _;rfl):PUT X e (bY ta):=
 aQ6 (pt_val h he) bS1
theorem aW {op:CmpOp}{g:D->D->(B->Prop)->Prop}(ho:OpU X (compareOp op) g)(ha:PU X a ta)(hb:PU X b tb)(hm:behindInMarks op b=false):PUT X (.Compare a [op] [b] pos) (bY (uOp g ta tb)):=
 aQ6 (bR1 bE9 ha hb hm) λσ H Q h=>lOp ho σ H _ (bS1 σ H Q h)
def aY2 (t u:UT):UT:=λρ Q=>t ρ λc ρ1=>if c=true then u ρ1 Q else Q false ρ1
def uOr (t u:UT):UT:=λρ Q=>t ρ λc ρ1=>if c=true then Q true ρ1 else u ρ1 Q
def aK1 (t:UT):UT:=λρ Q=>t ρ λc ρ1=>Q (!c) ρ1
variable {tA tB:UT}
theorem sE (ha:PUT X a tA):PUW X (.BoolOp .And [a] pos) tA:=bQ3 ha
theorem wF (ha:PUT X a tA):PUW X (.BoolOp .Or [a] pos) tA:=pw_or1 ha
theorem wG (ha:PUT X a tA)(hb:PUW X (.BoolOp .And (b::kH) pos) tB):PUW X (.BoolOp .And (a::b::kH) pos) (aY2 tA tB):=
 c00 (pw_and ha hb) λσ H Q ⟨C,ρ,Q0,I,h,k⟩=>⟨C,ρ,_,I,h,λc ρ1 H1 q f s=>by
  cases c with
  | true=>
   rw[if_pos rfl]at q⊢;exact⟨C,ρ1,Q0,(I.frz f).same s,q,λb ρ2 H2 q2 f2 s2=>k b ρ2 H2 q2 (f.trans f2) (s.trans s2)⟩
  | false=>
   rw[if_neg Bool.false_ne_true]at q⊢;exact k _ _ _ q f s⟩
theorem xU (ha:PUT X a tA)(hb:PUW X (.BoolOp .Or (b::kH) pos) tB):PUW X (.BoolOp .Or (a::b::kH) pos) (uOr tA tB):=
 c00 (pw_or ha hb) λσ H Q ⟨C,ρ,Q0,I,h,k⟩=>⟨C,ρ,_,I,h,λc ρ1 H1 q f s=>by
  cases c with
  | true=>
   rw[if_pos rfl]at q⊢;exact k _ _ _ q f s
  | false=>
   rw[if_neg Bool.false_ne_true]at q⊢;exact⟨C,ρ1,Q0,(I.frz f).same s,q,λb ρ2 H2 q2 f2 s2=>k b ρ2 H2 q2 (f.trans f2) (s.trans s2)⟩⟩
theorem PUW.pt (h:PUW X e tA):PUT X e tA:=PW.pt h
theorem pT (ha:PUT X a tA):PUT X (.UnaryOp .Not a pos) (aK1 tA):=
 aQ6 (pt_not ha) λσ H Q ⟨C,ρ,Q0,I,h,k⟩=>⟨C,ρ,_,I,h,λc ρ1 H1 q f s=>k _ ρ1 H1 q f s⟩
def uP (t u:UE):UE:=λρ Q=>t ρ λx ρ1=>isB (λc ρ1=>if c=true then u ρ1 Q else Q (.pu (.bl false)) ρ1) x ρ1
def uOrV (t u:UE):UE:=λρ Q=>t ρ λx ρ1=>isB (λc ρ1=>if c=true then Q (.pu (.bl true)) ρ1 else u ρ1 Q) x ρ1
def aF6 (t:UE):UE:=λρ Q=>t ρ λx ρ1=>isB (λc ρ1=>Q (.pu (.bl (!c))) ρ1) x ρ1
theorem b31 {Q:Bool->Ev->Prop}{b:B}{ρ:Ev}{K:PySem.W.Frag}{A:AS}{H H':Hp}{v:V}(h:isB Q b ρ)(r:jW K A H H' b v): ∃k,v= .bl k/\Q k ρ:=by
 unfold isB at h;split at h
 ·rename_i k'
  have r':Rep K A H' (.bl k') v:=r;exact⟨k',by simpa only[Rep]using r',h⟩
 ·exact h.elim
theorem hG {K:PySem.W.Frag}{A:AS}{H H':Hp}{k:Bool}:jW K A H H' (.pu (.bl k)) (.bl k):=by
 show Rep K A H' (.bl k) (.bl k)
 simp only[Rep]
theorem a36 {op}(h:PU X a ta):PU X (.BoolOp op [a] pos) ta:=pe_one h
theorem vB (ha:PU X a ta)(hb:PU X (.BoolOp .And (b::kH) pos) tb):PU X (.BoolOp .And (a::b::kH) pos) (uP ta tb):=
 eO (pe_and ha hb) λσ H Q ⟨C,ρ,Q0,I,h,k⟩=>⟨C,ρ,_,I,h,λx ρ1 v H1 q f s r=>by
  obtain⟨c,rfl,q⟩:=b31 q r;refine⟨c,rfl,?_⟩;cases c with
  | true=>
   rw[if_pos rfl]at q⊢;exact⟨C,ρ1,Q0,(I.frz f).same s,q,λb ρ2 v H2 q2 f2 s2 r2=>k b ρ2 v H2 q2 (f.trans f2) (s.trans s2) (r2.from s)⟩
  | false=>
   rw[if_neg Bool.false_ne_true]at q⊢;exact k _ _ _ _ q f s hG⟩
theorem aK2 (ha:PU X a ta):PU X (.UnaryOp .Not a pos) (aF6 ta):=
 eO (pe_not ha) λσ H Q ⟨C,ρ,Q0,I,h,k⟩=>⟨C,ρ,_,I,h,λx ρ1 v H1 q f s r=>by
  obtain⟨c,rfl,q⟩:=b31 q r;exact⟨c,rfl,k _ _ _ _ q f s hG⟩⟩
def uIf (t:UT)(ta tb:UE):UE:=λρ Q=>t ρ λc ρ1=>if c=true then ta ρ1 Q else tb ρ1 Q
theorem bF0 (hc:PUT X c tA)(ha:PU X a ta)(hb:PU X b tb):PU X (.IfExp c a b pos) (uIf tA ta tb):=
 eO (bC5 hc ha hb) λσ H Q ⟨C,ρ,Q0,I,h,k⟩=>⟨C,ρ,_,I,h,λc ρ1 H1 q f s=>by
  have I1:=(I.frz f).same s;cases c with
  | true=>
   dsimp only at q⊢;rw[if_pos rfl]at q⊢;exact⟨C,ρ1,Q0,I1,q,λb ρ2 v H2 q2 f2 s2 r2=>k b ρ2 v H2 q2 (f.trans f2) (s.trans s2) (r2.from s)⟩
  | false=>
   dsimp only at q⊢;rw[if_neg Bool.false_ne_true]at q⊢;exact⟨C,ρ1,Q0,I1,q,λb ρ2 v H2 q2 f2 s2 r2=>k b ρ2 v H2 q2 (f.trans f2) (s.trans s2) (r2.from s)⟩⟩
def aE:UA:=λρ Q=>Q [] ρ
def a6 (t:UE)(u:UA):UA:=λρ Q=>t ρ λx ρ1=>u ρ1 λxs ρ2=>Q (x.d::xs) ρ2
theorem a7:PUA X [] aE:=bZ9 aX6 λσ H Q ⟨C,ρ,Q0,I,h,k⟩=>k [] ρ [] H h (.refl _) (.refl _) .nil
theorem aA {t:UA}(ha:PU X e ta)(hr:PUA X es t)(hs:starEach (e::es) X.env=(false,eval e X.env)::starEach es X.env:=by rfl):PUA X (e::es) (a6 ta t):=
 bZ9 (aJ3 ha hr hs) λσ H Q ⟨C,ρ,Q0,I,h,k⟩=>⟨C,ρ,_,I,h,λx ρ1 v H1 q1 f1 s1 r1=>by
  have I1:=(I.frz f1).same s1;refine⟨C,ρ1,_,I1,q1,λxs ρ2 vs H2 q2 f2 s2 r2=> ?_⟩
  exact k _ ρ2 _ H2 q2 (f1.trans f2) (s1.trans s2) (.cons ((r1.rep λa z=>I.avF f1 z).mono (.sub s2 λa=>f2.av)) r2)⟩
def eC (t:UA):UE:=λρ Q=>t ρ λl ρ1=>l.length<=sizeLine/\Q (.pu (.tup l)) ρ1
def iL (t:UA):UE:=λρ Q=>t ρ λl ρ1=>l.length<=sizeLine/\Q (.ow l) ρ1
theorem bN {H:Hp}{p:Addr}(h:H p=none)(o:HO):cZ H (upd H p o):=λb u q=>by rw[aT (b4 q h)];exact q
theorem eP {K:PySem.W.Frag}{A:AS}{H:Hp}{p:Addr}{l:List D}{vs:List V}(hA: ∀a,A a->H a≠none)(n:H p=none)(r:aQ K A H l vs):Rep K A (upd H p (.tup vs)) (.tup l) (.ref p):=by
 simp only[Rep];exact⟨p,vs,rfl,.inl ⟨λz=>hA p z n,.inl dS⟩,r.mono (.same (bN n _))⟩
theorem cW {K:PySem.W.Frag}{A:AS}{H H0:Hp}{p:Addr}{l:List D}{vs:List V}(s:cZ H0 H)(n:H p=none)(r:aQ K A H l vs):jW K A H0 (upd H p (.lst vs)) (.ow l) (.ref p):=
 ⟨p,vs,rfl,s.free n,dS,r.mono (.fresh (bN n _) n)⟩
theorem cQ {t:UA}{x1}(h:PUA X es t):PU X (.Tuple es x1 pos) (eC t):=
 eO (pe_tup h) λσ H Q ⟨C,ρ,Q0,I,h,k⟩=>⟨C,ρ,_,I,h,λl ρ1 vs H1 q f s r=>by
  obtain⟨hz,q⟩:=q;refine⟨by rw[<-r.length];exact hz,λp n=> ?_⟩
  have I1:=(I.frz f).same s;exact k _ ρ1 _ _ q f (s.trans (bN n _)) (eP (λa z=>I1.avSome z) n r)⟩
theorem dO {t:UA}(h:PUA X es t):PU X (.List es pos) (iL t):=
 eO (pe_lst h) λσ H Q ⟨C,ρ,Q0,I,h,k⟩=>⟨C,ρ,_,I,h,λl ρ1 vs H1 q f s r=>by
  obtain⟨hz,q⟩:=q;refine⟨by rw[<-r.length];exact hz,λp n=> ?_⟩
  exact k _ ρ1 _ _ q f (s.trans (bN n _)) (cW s n r)⟩
abbrev Φ:=List D->(B->Prop)->Prop
def spP (K:PySem.W.Frag)(φ:Φ):Sp:=λvs H Q _=> ∃A ds Q0,(∀a,A a->H a≠none)/\aQ K A H ds vs/\φ ds Q0/\ ∀b v H',Q0 b->cZ H H'->jW K A H H' b v->Q v H'
def aI (φ:Φ)(t:UA):UE:=λρ Q=>t ρ λds ρ1=>φ ds λb=>Q b ρ1
theorem lCall {φ:Φ}{t:UA}{E:XK}(σ:L2.St)(H:Hp)(Q:VK)(h:lE X.K (aI φ t) σ H Q):bD9 (spP X.K φ) [] E (lA X.K t) σ H Q:=by
 obtain⟨C,ρ,Q0,I,h,k⟩:=h;refine⟨C,ρ,_,I,h,λds ρ1 vs H1 q f s r=> ?_⟩
 have I1:=(I.frz f).same s;show spP X.K φ (vs++[]) H1 Q E;rw[append_nil];exact⟨Av C ρ1 σ,ds,_,λa z=>I1.avSome z,r,q,λb v H' q' s' r'=>k b ρ1 v H' q' f (s.trans s') (r'.from s)⟩
theorem bS2 {CX:CXT}{k:Nat}{f:Addr}{fd:FuncData}{ps:List Str}{φ:Φ}{E:XK}{x:Str}{p:Pos}{t:UA}(F:kI X.prog X.w X.K X.mg X.base CX k f fd ps (spP X.K φ))(hr:dA k X.A)(hg:Gl X x)(hm:X.mg x=some (.ref f))
  (hk:keepIn X.K (.ref f)=true) (hb:Binds X.K fd ps []) (hx:vA CX X E) (ha:PUA X (e::es) t) (hdb:(x==("__debug__":Str))=false:=by decide) (he:starEach (e::es) X.env=(false,eval e X.env)::starEach es X.env:=by rfl)
  (hpl:(backTo pos (starEach es X.env)).any (·.1)=false:=by rfl):PU X (.Call (.Name x p) (e::es) [] pos) (aI φ t):=
 eO (b27 F hr hg hm hk hb .nil hx ha hdb he hpl) lCall
theorem bF1 {CX:CXT}{k:Nat}{f:Addr}{fd:FuncData}{ps:List Str}{φ:Φ}{E:XK}{x:Str}{p:Pos}(F:kI X.prog X.w X.K X.mg X.base CX k f fd ps (spP X.K φ))(hr:dA k X.A)(hg:Gl X x)(hm:X.mg x=some (.ref f))
  (hk:keepIn X.K (.ref f)=true) (hb:Binds X.K fd ps []) (hx:vA CX X E) (hdb:(x==("__debug__":Str))=false:=by decide):PU X (.Call (.Name x p) [] [] pos) (aI φ aE):=
 eO (bE1 F hr hg hm hk hb .nil hx hdb) λσ H Q ⟨C,ρ,Q0,I,h,k⟩=>⟨Av C ρ σ,[],_,λa z=>I.avSome z,.nil,h,λb v H' q' s' r'=>k b ρ v H' q' (.refl _) s' r'⟩
def pB (X:Cx)(f:Value)(g:List D->(B->Prop)->Prop):Prop:=
 ∀(A:AS) (H:Hp) (ds:List D) (vs:List V) (Q0:B->Prop) (Q:VK),(∀a,A a->H a≠none)->aQ X.K A H ds vs->g ds Q0->
  (∀b v' H',Q0 b->cZ H H'->jW X.K A H H' b v'->Q v' H')-> ∃r,iC X f r/\r vs H Q
theorem callAny {f:Value}:iC X f (λxs H Q=> ∃r,iC X f r/\r xs H Q):=λpins s σ H xs us Q I rx ⟨r,hr,q⟩=>hr pins s σ H xs us Q I rx q
theorem lCB {f:Value}{g:List D->(B->Prop)->Prop}{t:UA}(hc:pB X f g)(σ:L2.St)(H:Hp)(Q:VK)(h:lE X.K (aI g t) σ H Q):tCB (λxs H Q=> ∃r,iC X f r/\r xs H Q) (lA X.K t) σ H Q:=by
 obtain⟨C,ρ,Q0,I,h,k⟩:=h;refine⟨C,ρ,_,I,h,λds ρ1 vs H1 q f s r=> ?_⟩
 have I1:=(I.frz f).same s;exact hc (Av C ρ1 σ) H1 ds vs _ Q (λa z=>I1.avSome z) r q λb v H' q' s' r'=>k b ρ1 v H' q' f (s.trans s') (r'.from s)
theorem dB {id:String}{g:List D->(B->Prop)->Prop}{x:Str}{p:Pos}{t:UA}(hc:pB X (.builtin id) g)(hg:Gl X x)(hm:X.mg x=none)(hv:bootBuiltins x=some (.builtin id))(ha:PUA X (e::es) t)(hn:x≠"__name__":=by decide)(hdb:(x==("__debug__":Str))=false:=by decide)
  (he:starEach (e::es) X.env=(false,eval e X.env)::starEach es X.env:=by rfl) (hpl:(backTo pos (starEach es X.env)).any (·.1)=false:=by rfl):PU X (.Call (.Name x p) (e::es) [] pos) (aI g t):=
 eO (aQ2 callAny hg hm hv ha hn hdb he hpl) (lCB hc)
theorem d6 {T:String}{g:List D->(B->Prop)->Prop}{x:Str}{p:Pos}{t:UA}(hc:pB X (.type T) g)(hg:Gl X x)(hm:X.mg x=none)(hv:bootBuiltins x=some (.type T))(ha:PUA X (e::es) t)(hn:x≠"__name__":=by decide)(hdb:(x==("__debug__":Str))=false:=by decide)
  (he:starEach (e::es) X.env=(false,eval e X.env)::starEach es X.env:=by rfl) (hpl:(backTo pos (starEach es X.env)).any (·.1)=false:=by rfl):PU X (.Call (.Name x p) (e::es) [] pos) (aI g t):=
 eO (b73 callAny hg hm hv ha hn hdb he hpl) (lCB hc)
end
structure UD where
 nx:Ev->Prop
 rt:B->Prop
 bk:Ev->Prop:=λ_=>False
 ct:Ev->Prop:=λ_=>False
abbrev US:=UD->Ev->Prop
structure DOk (K:PySem.W.Frag)(C:C0)(D0:UD)(D:xP):Prop where
 nx: ∀ρ σ H,D0.nx ρ->EOk K C ρ σ H->D.nx σ H
 rt: ∀b v H,D0.rt b->cZ C.H0 H->jW K C.A0 C.H0 H b v->D.rt v H
 bk: ∀ρ σ H,D0.bk ρ->EOk K C ρ σ H->D.bk σ H
 ct: ∀ρ σ H,D0.ct ρ->EOk K C ρ σ H->D.ct σ H
def lS (K:PySem.W.Frag)(t:US):TS:=λD σ H=> ∃C ρ D0,EOk K C ρ σ H/\t D0 ρ/\DOk K C D0 D
def PUS (X:Cx)(st:Stmt)(t:US):Prop:=PS X st (lS X.K t)
def sF (X:Cx)(sts:List Stmt)(t:US):Prop:=PSs X sts (lS X.K t)
theorem kW {X:Cx}{st:Stmt}{t t':TS}(h:PS X st t)(i: ∀D σ H,t' D σ H->t D σ H):PS X st t':=λpins s σ H D I q=>h pins s σ H D I (i D σ H q)
theorem a37 {X:Cx}{st:List Stmt}{t t':TS}(h:PSs X st t)(i: ∀D σ H,t' D σ H->t D σ H):PSs X st t':=λpins s σ H D I q=>h pins s σ H D I (i D σ H q)
section
variable {X:Cx}{st:Stmt}{sts:List Stmt}{e:Expr}{pos:Pos}{t u:US}{te:UE}{tc:UT}{K:PySem.W.Frag}
def cN:US:=λD ρ=>D.nx ρ
def aK (t u:US):US:=λD ρ=>t {D with nx:=u D} ρ
theorem bU:sF X [] cN:=a37 bQ4 λD σ H ⟨C,ρ,D0,I,h,k⟩=>k.nx ρ σ H h I
theorem aB (h1:PUS X st t)(h2:sF X sts u):sF X (st::sts) (aK t u):=
 a37 (oZ h1 h2) λD σ H ⟨C,ρ,D0,I,h,k⟩=>⟨C,ρ,{D0 with nx:=u D0},I,h,⟨λρ' σ' H' q I'=>⟨C,ρ',D0,I',q,k⟩,k.rt,k.bk,k.ct⟩⟩
theorem aF (h1:PUS X st t):sF X [st] t:=aJ0 h1
def bQ (t:UE):US:=λD ρ=>t ρ λb _=>D.rt b
theorem jW.back {A A':AS}{H0 H H':Hp}(s:cZ H0 H)(h: ∀a,A' a->A a): ∀{b:B} {v:V},jW K A H H' b v->jW K A' H0 H' b v
 | .pu _,_,r=>Rep.mono (.sub (.refl _) h) r
 | .ow _,_,⟨a,vs,e,n,h1,r⟩=>⟨a,vs,e,s.free n,h1,r.mono (λb o nb q=>⟨λz=>nb (z.imp (h b) id),q⟩)⟩
 | .bo _,_,r=>r.elim
theorem aU (he:PU X e te):PUS X (.Return (some e) pos) (bQ te):=
 kW (bC6 he) λD σ H ⟨C,ρ,D0,I,h,k⟩=>⟨C,ρ,_,I,h,λb ρ' v H' q f s r=>k.rt b v H' q (I.ext.trans s) (r.back I.ext λa z=> .inl z)⟩
def uRetN:US:=λD _=>D.rt (.pu .non)
def rK (i:Nat):US:=λD ρ=>match ρ[i]? with
 | some (some (.pu d))=>D.rt (.pu d)
 | some (some (.ow l))=>D.rt (.ow l)
 | _=>False
theorem nB (i:Nat){x:Str}{p:Pos}(h:PE X (.Name x p) (sD i)):PUS X (.Return (some (.Name x p)) pos) (rK i):=
 kW (bC6 h) λD σ H ⟨C,ρ,D0,I,h,k⟩=>by
  unfold rK at h;split at h
  ·rename_i d e
   obtain⟨v,h1,h2⟩:=I.pu i d e;exact⟨v,h1,k.rt _ v H h I.ext (Rep.mono (.sub (.refl _) λa z=> .inl z) h2)⟩
  ·rename_i l e
   obtain⟨a,vs,h1,h2,h3,h4⟩:=I.ow i l e;refine⟨_,h1,k.rt _ _ H h I.ext ⟨a,vs,rfl,h3,h2,h4.mono (λb o nb q=>⟨λz=>nb (z.elim .inl λz=> .inr ?_),q⟩)⟩⟩
   subst z;exact⟨i,l,e,h1⟩
  ·exact h.elim
def eW (c:UT)(t u:US):US:=λD ρ=>c ρ λb ρ1=>if b=true then t D ρ1 else u D ρ1
theorem e6 {c:Expr}{a b:List Stmt}(hc:PUT X c tc)(ha:sF X a t)(hb:sF X b u):PUS X (.If c a b pos) (eW tc t u):=
 kW (bZ7 hc ha hb) λD σ H ⟨C,ρ,D0,I,h,k⟩=>⟨C,ρ,_,I,h,λc ρ1 H1 q f s=>by
  have I1:=(I.frz f).same s;cases c with
  | true=>
   dsimp only at q⊢;rw[if_pos rfl]at q⊢;exact⟨C,ρ1,D0,I1,q,k⟩
  | false=>
   dsimp only at q⊢;rw[if_neg Bool.false_ne_true]at q⊢;exact⟨C,ρ1,D0,I1,q,k⟩⟩
theorem aQ7:PUS X st (λ_ _=>False):=kW bC7 λD σ H ⟨C,ρ,D0,I,h,k⟩=>h
abbrev UG:=B->Ev->(Ev->Prop)->Prop
def lG (K:PySem.W.Frag)(T:List Nat)(g:UG):TG:=λv σ H Q=> ∃C ρ b H00 Q0,EOk K C ρ σ H00/\cZ H00 H/\jW K (Av C ρ σ) H00 H b v/\g b ρ Q0/\ ∀ρ' σ' H',Q0 ρ'->EOk K C ρ' σ' H'->(∀j:Nat,j ∉ T->σ'[j]? =σ[j]?)->Q σ' H'
def PUG (X:Cx)(e:Expr)(T:List Nat)(g:UG):Prop:=PG X e (lG X.K T g)
theorem c01 {t t':TG}(h:PG X e t)(i: ∀v σ H Q,t' v σ H Q->t v σ H Q):PG X e t':=λpins s σ H v u Q I r q=>h pins s σ H v u Q I r (i v σ H Q q)
def cE (i:Nat):UG:=λb ρ Q=>i<ρ.length/\Q (ρ.set i (some b))
theorem bE (i:Nat)(h:PG X e (yU i)):PUG X e [i] (cE i):=c01 h λv σ H Q ⟨C,ρ,b,H00,Q0,I,s,r,⟨hi,q⟩,k⟩=>
 k _ _ _ q (I.store s r (by rw[<-I.len];exact hi)) λj hj=>get_set_ne λz=>hj (by simp[z])
abbrev UGs:=List D->Ev->(Ev->Prop)->Prop
def lGs (K:PySem.W.Frag)(T:List Nat)(g:UGs):TGs:=λvs σ H Q=> ∃C ρ ds Q0,EOk K C ρ σ H/\aQ K (Av C ρ σ) H ds vs/\g ds ρ Q0/\ ∀ρ' σ' H',Q0 ρ'->EOk K C ρ' σ' H'->(∀j:Nat,j ∉ T->σ'[j]? =σ[j]?)->Q σ' H'
def bS3 (X:Cx)(es:List Expr)(T:List Nat)(g:UGs):Prop:=PGs X es (lGs X.K T g)
def rL:UGs:=λds ρ Q=>ds=[]/\Q ρ
theorem Av.store_pu {C:C0}{ρ:Ev}{σ:L2.St}{i:Nat}{d:D}{v:V}{a:Addr}(h:Av C (ρ.set i (some (.pu d))) (σ.set i (some v)) a):Av C ρ σ a:=by
 rcases h with z| ⟨j,l,h1,h2⟩
 ·exact .inl z
 ·rcases aL h1 with⟨rfl,h3,_⟩| ⟨ne,h3⟩
  ·cases h3
  ·rw[get_set_ne ne]at h2;exact .inr ⟨j,l,h3,h2⟩
theorem bF2 {es:List Expr}{t t':TGs}(h:PGs X es t)(i: ∀v σ H Q,t' v σ H Q->t v σ H Q):PGs X es t':=λpins s σ H v u Q I r q=>h pins s σ H v u Q I r (i v σ H Q q)
theorem pU:bS3 X [] [] rL:=bF2 bQ5 λvs σ H Q ⟨C,ρ,ds,Q0,I,r,⟨e,q⟩,k⟩=>by
 subst e;exact⟨r.unnil,k ρ σ H q I λ_ _=>rfl⟩
def dP (i:Nat)(u:UGs):UGs:=λds ρ Q=>match ds with
 | d::r=>i<ρ.length/\u r (ρ.set i (some (.pu d))) Q
 | []=>False
theorem dC {es:List Expr}{u:UGs}{T:List Nat}(i:Nat)(h1:PG X e (yU i))(h2:bS3 X es T u)
  (hs:(assignEach (e::es) X.env).map (·.2)=assign e X.env::(assignEach es X.env).map (·.2):=by rfl):bS3 X (e::es) (i::T) (dP i u):=
 bF2 (bC9 h1 h2 hs) λvs σ H Q ⟨C,ρ,ds,Q0,I,r,g,k⟩=>by
  cases ds with
  | nil=>exact(show False from g).elim
  | cons d dr=>
   obtain⟨hi,g⟩:i<ρ.length/\u dr (ρ.set i (some (.pu d))) Q0:=g;obtain⟨v,vr,rfl,rv,rr⟩:=r.uncons;have I1:EOk X.K C (ρ.set i (some (.pu d))) (σ.set i (some v)) H:=I.store (b:= .pu d) (.refl _) rv (by rw[<-I.len];exact hi)
   exact⟨v,vr,rfl,C,_,dr,Q0,I1,rr.mono (.sub (.refl _) λa z=>Av.store_pu z),g,λρ' σ' H' q I' hT=>k ρ' σ' H' q I' λj hj=>(hT j λz=>hj (mem_cons_of_mem _ z)).trans (get_set_ne λz=>hj (by simp[z]))⟩
def rM (u:UGs):UG:=λb ρ Q=>match b.d with
 | .tup ds=>u ds ρ Q
 | _=>False
theorem vC {es:List Expr}{u:UGs}{T:List Nat}{n k:Nat}(hc:X.calm=true)(h:bS3 X es T u)(hu: ∀ds ρ Q,u ds ρ Q->ds.length=n)
  (hn:(assignEach es X.env).length=n:=by rfl) (hst:(assignEach es X.env).findIdx? (·.1)=none:=by rfl):PUG X (.Tuple es k pos) T (rM u):=
 c01 (pg_tup hc h hn hst) λv σ H Q ⟨C,ρ,b,H00,Q0,I,s,r,g,k⟩=>by
  have R:=r.rep λa z=>I.avSome z
  unfold rM at g;split at g
  ·rename_i ds e
   rw[e]at R;simp only[Rep]at R;obtain⟨a,vs,rfl,c,rs⟩:=R;exact⟨a,vs,rfl,c.imp And.right id,by rw[<-rs.length];exact hu _ _ _ g,C,ρ,ds,Q0,I.same s,rs,g,k⟩
  ·exact g.elim
def bF3 (t:UE)(g:UG):US:=λD ρ=>t ρ λb ρ1=>g b ρ1 D.nx
theorem aY3 {tg:Expr}{g:UG}{T:List Nat}(he:PU X e te)(hg:PUG X tg T g)(hs:swapsWithSole [tg] e pos.line X.env=pure false:=by rfl)(hw:swappedStores [tg] e X.env=pure none:=by rfl)
  (h1:(assignEach [tg] X.env).map (·.2)=[assign tg X.env]:=by rfl):PUS X (.Assign [tg] e pos) (bF3 te g):=
 kW (bD0 he hg hs hw h1) λD σ H ⟨C,ρ,D0,I,h,k⟩=>⟨C,ρ,_,I,h,λb ρ1 v H1 q f s r=>⟨C,ρ1,b,H,D0.nx,I.frz f,s,r,q,λρ' σ' H' q I' _=>k.nx ρ' σ' H' q I'⟩⟩
def b9 (i:Nat)(t:UE):US:=λD ρ=>t ρ λb ρ1=>D.nx (ρ1.set i (some b))
theorem pV {x:Str}{pos':Pos}(i:Nat)(hN:X.N.Nodup)(hi:X.N[i]? =some x)(hx:Loc X.env.scope x)(he:PU X e te)(hs:swapsWith e (some (.Name x pos')) pos.line X.env=pure false:=by rfl)(hf:X.fn x=true\/X.env.scope.names.lookup x=some .local:=by first|exact .inl rfl|exact .inr rfl|assumption)
  (hl: ∀pins σ H s,Inv X pins σ H s->i<σ.length:=by intro pins σ H s I;rw[I.len];decide):PUS X (.Assign [.Name x pos'] e pos) (b9 i te):=by
 intro pins s σ H D I q;refine ps_set hN hi hx he hs hf pins s σ H D I ?_;obtain⟨C,ρ,D0,J,h,k⟩:=q;exact⟨C,ρ,_,J,h,λb ρ1 v H1 q f s1 r=>k.nx _ _ _ q ((J.frz f).store s1 r (hl pins σ H s I))⟩
def uPar (i j:Nat)(ta:UA):US:=λD ρ=>ta ρ λds ρ1=>match ds with
 | [d,d']=>D.nx ((ρ1.set i (some (.pu d))).set j (some (.pu d')))
 | _=>False
def IpU (X:Cx)(op:Operator)(g:D->D->(B->Prop)->Prop):Prop:=
 ∀(A:AS) (H:Hp) (d e:D) (v w:V) (Q0:B->Prop) (Q:VK),(∀a,A a->H a≠none)->Rep X.K A H d v->Rep X.K A H e w->g d e Q0->
  (∀b v' H',Q0 b->cZ H H'->jW X.K A H H' b v'->Q v' H')-> ∃r,PIp X op r/\r v w H Q
theorem ipAny {op:Operator}:PIp X op (λx y H Q=> ∃r,PIp X op r/\r x y H Q):=λpins s σ H x y v u Q I rx ry ⟨r,hr,q⟩=>hr pins s σ H x y v u Q I rx ry q
def aQ8 (i:Nat)(g:D->D->(B->Prop)->Prop)(te:UE):US:=λD ρ=>yZ ρ i λx ρ0=>te ρ0 λy ρ1=>g x.d y.d λb=>D.nx (ρ1.set i (some b))
theorem bF4 {x:Str}{pos':Pos}{op:Operator}{g:D->D->(B->Prop)->Prop}(i:Nat)(hN:X.N.Nodup)(hi:X.N[i]? =some x)(hx:Loc X.env.scope x)(he:PU X e te)(ho:IpU X op g)(hf:X.fn x=true\/X.env.scope.names.lookup x=some .local:=by first|exact .inl rfl|exact .inr rfl|assumption)
  (hl: ∀pins σ H s,Inv X pins σ H s->i<σ.length:=by intro pins σ H s I;rw[I.len];decide):PUS X (.AugAssign (.Name x pos') op e pos) (aQ8 i g te):=by
 intro pins s σ H D I q;refine ps_aug hN hi hx he ipAny hf pins s σ H D I ?_;obtain⟨C,ρ,D0,J,h,k⟩:=q;have go: ∀(d:M.D) (ρ0:Ev) (v:V),Frz ρ ρ0->σ[i]? =some (some v)->Rep X.K (Av C ρ0 σ) H d v->(te ρ0 λy ρ1=>g d y.d λb=>D0.nx (ρ1.set i (some b)))->
   tAug i (lE X.K te) (λx y H Q=> ∃r,PIp X op r/\r x y H Q) D σ H:=λd ρ0 v f0 h1 r0 h=>by
  have J0:=J.frz f0;refine⟨v,h1,C,ρ0,_,J0,h,λy ρ1 w H1 q1 f1 s1 r1=> ?_⟩
  have J1:=(J0.frz f1).same s1;refine ho (Av C ρ1 σ) H1 d y.d v w _ _ (λa z=>J1.avSome z) (r0.mono (.sub s1 λa=>f1.av)) (r1.rep λa z=>J0.avF f1 z) q1 λb v' H' q s r=> ?_
  exact k.nx _ _ _ q (J1.store s r (hl pins σ _ _ I))
 unfold aQ8 yZ at h;split at h
 ·rename_i d e
  obtain⟨v,h1,h2⟩:=J.pu i d e;exact go d ρ v (.refl _) h1 h2 h
 ·rename_i l e
  obtain⟨_,_,v,h1,h2⟩:=J.freeze e;exact go (.lst l) _ v (.set e) h1 h2 h
 ·exact h.elim
def aK3 (c:UT)(tb:US):US:=λD ρ=> ∃W:Nat->Ev->Prop,(∃m,W m ρ)/\ ∀m ρ,W m ρ->
 c ρ λb ρ1=>if b=true then tb {D with nx:=λρ'=> ∃m',m'<m/\W m' ρ',ct:=λρ'=> ∃m',m'<m/\W m' ρ',bk:=D.nx} ρ1 else D.nx ρ1
theorem a38 {c:Expr}{body:List Stmt}{tb:US}(hp:PassesOwn (model X.prog X.w) X.A X.env X.xe)(hc:PUT X c tc)(hb:sF X body tb):PUS X (.While c body [] pos) (aK3 tc tb):=
 kW (bD2 hp hc hb) λD σ H ⟨C,ρ,D0,I,⟨W,⟨m0,w0⟩,turn⟩,k⟩=>by
  refine⟨λm σ H=> ∃ρ,EOk X.K C ρ σ H/\W m ρ,⟨m0,ρ,I,w0⟩,?_⟩
  rintro m σ H ⟨ρ,I,w⟩;refine⟨C,ρ,_,I,turn m ρ w,λb ρ1 H1 q f s=> ?_⟩
  have I1:=(I.frz f).same s;cases b with
  | true=>
   dsimp only at q⊢;rw[if_pos rfl]at q⊢;refine⟨λσ' H'=> ∃m',m'<m/\ ∃ρ',EOk X.K C ρ' σ' H'/\W m' ρ',λσ' H' z=>z,C,ρ1,_,I1,q,⟨?_,k.rt,k.nx,?_⟩⟩
   ·rintro ρ' σ' H' ⟨m',hm,w'⟩ I';exact⟨m',hm,ρ',I',w'⟩
   ·rintro ρ' σ' H' ⟨m',hm,w'⟩ I';exact⟨m',hm,ρ',I',w'⟩
  | false=>
   dsimp only at q⊢;rw[if_neg Bool.false_ne_true]at q⊢;exact k.nx _ _ _ q I1
end
abbrev UI:=Ev->(Nat->(Nat->D)->Ev->Prop)->Prop
structure aY4 (K:PySem.W.Frag)(A:AS)(H:Hp)(J:It)(n:Nat)(it:Nat->D):Prop where
 go: ∀A' H' i,gE A H A' H'->i<n->J.go i H'
 yld: ∀A' H' i x H'',gE A H A' H'->(∀a,A' a->H' a≠none)->i<n->J.yld i H' x H''->cZ H' H''/\Rep K A' H'' (it i) x
 stop: ∀A' H',gE A H A' H'->J.stop n H'
def lI (K:PySem.W.Frag)(t:UI):TI:=λσ H R=> ∃C ρ Q0,EOk K C ρ σ H/\t ρ Q0/\
 ∀n it ρ' J H',Q0 n it ρ'->Frz ρ ρ'->cZ H H'->aY4 K (Av C ρ' σ) H' J n it->R J H'
def PUI (X:Cx)(tg iter:Expr)(t:UI):Prop:=PI X tg iter (lI X.K t)
def jX (ui:UI)(g:UG)(tb:US):US:=λD ρ=>ui ρ λn it ρ1=> ∃Pv:Nat->Ev->Prop,Pv 0 ρ1/\
 (∀i ρ,i<n->Pv i ρ->g (.pu (it i)) ρ λρ2=>tb {D with nx:=Pv (i+1),ct:=Pv (i+1),bk:=D.nx} ρ2)/\ ∀ρ,Pv n ρ->D.nx ρ
noncomputable def C0.rz (C:C0) (ρ:Ev) (σ:L2.St) (H:Hp):C0:=C.raise ρ σ H λ_=>Classical.propDecidable _
section
variable {X:Cx}{e:Expr}{pos:Pos}{te:UE}{K:PySem.W.Frag}{C:C0}{ρ ρ':Ev}{σ σ':L2.St}{H H':Hp}
theorem EOk.rz (I:EOk K C ρ σ H):EOk K (C.rz ρ σ H) ρ σ H/\cZ C.H0 (C.rz ρ σ H).H0:=I.raise
theorem bS4 (I':EOk K (C.rz ρ σ H) ρ' σ' H'):gE (Av C ρ σ) H (Av (C.rz ρ σ H) ρ' σ') H':=λb o nb e=>by
 have e0:(C.rz ρ σ H).H0 b=some o:=by
  show @ite _ (Own ρ σ b) (Classical.propDecidable _) none (H b)=some o
  rw[if_neg (λz=>nb (.inr z))]
  exact e
 refine⟨?_,I'.ext b o e0⟩
 rintro(z| ⟨i,l,h1,h2⟩)
 ·exact nb (.inl z)
 ·obtain⟨a,vs,h3,h4,h5,_⟩:=I'.ow i l h1;rw[h2]at h3;cases h3;rw[e0]at h5;cases h5
theorem eR {tg iter:Expr}{body:List Stmt}{ui:UI}{g:UG}{T:List Nat}{tb:US}(hp:PassesOwn (model X.prog X.w) X.A X.env X.xe)(hc:X.calm=true)(hi:PUI X tg iter ui)(hg:PUG X tg T g)(hb:sF X body tb)
  (hs: ∀x,foldedSetIterable iter X.env x=pure x:=by intro _;rfl):PUS X (.For tg iter body [] pos) (jX ui g tb):=
 kW (ps_for hp hc hi hg hb hs) λD σ H ⟨C,ρ,D0,I,h,k⟩=>⟨C,ρ,_,I,h,λn it ρ1 J H1 q f s ok=>by
  obtain⟨Pv,p0,turn,fin⟩:=q;have I1:=(I.frz f).same s;obtain⟨Ir,sub⟩:=I1.rz;refine⟨λi m σ' H'=>m=n-i/\i<=n/\ ∃ρ',EOk X.K (C.rz ρ1 σ H1) ρ' σ' H'/\Pv i ρ',⟨n,rfl,zero_le _,ρ1,Ir,p0⟩,?_⟩
  rintro i m σ' H' ⟨rfl,hi,ρ',I',p'⟩;have P:=bS4 I';have lo: ∀ρ2 σ2 H2,EOk X.K (C.rz ρ1 σ H1) ρ2 σ2 H2->EOk X.K C ρ2 σ2 H2:=λρ2 σ2 H2 J2=>J2.lower sub rfl I.a0
  by_cases hlt:i<n
  ·refine .inr ⟨ok.go _ _ i P hlt,λσ2 H2=> ∃ρ2,EOk X.K (C.rz ρ1 σ H1) ρ2 σ2 H2/\Pv (i+1) ρ2,λσ2 H2 z=>⟨n-(i+1),by omega,rfl,hlt,z⟩,λx H2 y=> ?_⟩
   obtain⟨s2,r2⟩:=ok.yld _ _ i x H2 P (λa z=>I'.avSome z) hlt y
   refine⟨C.rz ρ1 σ H1,ρ',.pu (it i),H',_,I',s2,r2,turn i ρ' hlt p',λρ2 σ2 H3 q I3 _=>⟨C.rz ρ1 σ H1,ρ2,_,I3,q,⟨?_,?_,?_,?_⟩⟩⟩
   ·exact λρ3 σ3 H4 q I4=>⟨ρ3,I4,q⟩
   ·exact λb v H4 q s4 r4=>k.rt b v H4 q (sub.trans s4) (r4.from sub)
   ·exact λρ3 σ3 H4 q I4=>k.nx ρ3 σ3 H4 q (lo _ _ _ I4)
   ·exact λρ3 σ3 H4 q I4=>⟨ρ3,I4,q⟩
  ·have e:i=n:=by omega
   subst e;exact .inl ⟨ok.stop _ _ P,k.nx _ _ _ (fin ρ' p') (lo _ _ _ I')⟩⟩
def iD:D->Option (List D)
 | .tup l=>some l
 | .lst l=>some l
 | .rol l=>some l
 | _=>none
def fM (t:UE):UI:=λρ Q=>t ρ λb ρ1=>match iD b.d with
 | some l=>Q l.length (λi=>l.getD i .non) ρ1
 | none=>False
theorem pi_any {l:Expr}{tl:TE}{tg:Expr}(hl:PE X l tl):PI X tg l (λσ H R=>tl σ H λx H1=> ∃a,x= .ref a/\((∃xs,SqL X.K H1 a xs/\R (Itl X.K a) H1)\/ ∃xs,SqT X.K H1 a xs/\R (Itt X.K a) H1)):=by
 intro pins s σ H R I h;refine thn (hl pins s σ H _ I h) λv s1 ⟨x,H1,I1,r1,q1⟩=> ?_
 obtain⟨a,e,q⟩:=q1;subst e;cases r1;rcases q with⟨xs,hq,q⟩| ⟨xs,hq,q⟩
 ·obtain⟨its,rv,p,hz⟩:=I1.list hq;refine wpAny_pyIter_list p.isList ?_;refine⟨s1.heap.objs.size,[s1.heap.objs.size],_,_,H1,rfl,I1.kept (t':=s1.toks) λb o e=>get?_push_of_some _ e,b66 a _,⟨_,get?_push_size _ rfl,rfl,rfl⟩,λb hb=> ?_,q⟩
  have e:b=s1.heap.objs.size:=by simpa using hb
  subst e;exact I1.fpOk (le_refl _) (I1.hok.fresh (le_refl _))
 ·obtain⟨its,rv,p,hz⟩:=I1.tuple hq;refine wpAny_pyIter_tuple (show s1.heap.IsTuple a its.toArray from p) ?_
  refine⟨s1.heap.objs.size,[s1.heap.objs.size],_,_,H1,rfl,I1.kept (t':=s1.toks) λb o e=>get?_push_of_some _ e,aW9 a _,⟨_,get?_push_size _ rfl,rfl,rfl⟩,λb hb=> ?_,q⟩
  have e:b=s1.heap.objs.size:=by simpa using hb
  subst e;exact I1.fpOk (le_refl _) (I1.hok.fresh (le_refl _))
theorem aF7 {tg iter:Expr}{t t':TI}(h:PI X tg iter t)(i: ∀σ H R,t' σ H R->t σ H R):PI X tg iter t':=λpins s σ H R I q=>h pins s σ H R I (i σ H R q)
theorem aF8 {A:AS}{a:Addr}{vs:List V}{l:List D}(c:(¬A a/\Rd H a (.lst vs))\/KL K a vs)(r:aQ K A H l vs):aY4 K A H (Itl K a) l.length (λi=>l.getD i .non):=by
 have sq: ∀A' H',gE A H A' H'->SqL K H' a vs:=λA' H' P=>by
  rcases c with⟨n,c⟩|c
  ·exact .inl (Rd.pres P n c).2
  ·exact .inr c
 have get: ∀i,i<l.length-> ∃x,vs[i]? =some x/\Rep K A H (l.getD i .non) x:=λi hi=>r.get (by rw[getD_eq_getElem?_getD,getElem?_eq_getElem hi];rfl)
 refine⟨λA' H' i P hi=> ?_,λA' H' i x H'' P hA hi y=> ?_,λA' H' P=>⟨vs,sq _ _ P,by rw[r.length];exact le_refl _⟩⟩
 ·obtain⟨x,e,_⟩:=get i hi;exact⟨vs,x,sq _ _ P,e⟩
 ·obtain⟨x',e,r'⟩:=get i hi;obtain⟨rfl,y⟩:=y;have:=y vs (sq _ _ P);rw[e]at this;cases this;exact⟨.refl _,r'.mono P⟩
theorem bF5 {A:AS}{a:Addr}{vs:List V}{l:List D}(c:(¬A a/\Rd H a (.tup vs))\/KT K a vs)(r:aQ K A H l vs):aY4 K A H (Itt K a) l.length (λi=>l.getD i .non):=by
 have sq: ∀A' H',gE A H A' H'->SqT K H' a vs:=λA' H' P=>by
  rcases c with⟨n,c⟩|c
  ·exact .inl (Rd.pres P n c).2
  ·exact .inr c
 have get: ∀i,i<l.length-> ∃x,vs[i]? =some x/\Rep K A H (l.getD i .non) x:=λi hi=>r.get (by rw[getD_eq_getElem?_getD,getElem?_eq_getElem hi];rfl)
 refine⟨λA' H' i P hi=> ?_,λA' H' i x H'' P hA hi y=> ?_,λA' H' P=>⟨vs,sq _ _ P,by rw[r.length];exact le_refl _⟩⟩
 ·obtain⟨x,e,_⟩:=get i hi;exact⟨vs,x,sq _ _ P,e⟩
 ·obtain⟨x',e,r'⟩:=get i hi;obtain⟨rfl,y⟩:=y;have:=y vs (sq _ _ P);rw[e]at this;cases this;exact⟨.refl _,r'.mono P⟩
theorem gF {tg:Expr}(h:PU X e te):PUI X tg e (fM te):=aF7 (pi_any h) λσ H R ⟨C,ρ,Q0,I,h,k⟩=>⟨C,ρ,_,I,h,λb ρ1 v H1 q f s r=>by
 have rr:=r.rep λa z=>I.avF f z
 generalize b.d=d at q rr;cases d with
 | tup l=>
  simp only[Rep]at rr;obtain⟨a,vs,rfl,c,rs⟩:=rr;exact⟨a,rfl,.inr ⟨vs,c.imp And.right id,k _ _ ρ1 _ H1 q f s (bF5 c rs)⟩⟩
 | lst l=>
  simp only[Rep]at rr;obtain⟨a,vs,rfl,n,c,rs⟩:=rr;exact⟨a,rfl,.inl ⟨vs,.inl (.inl c),k _ _ ρ1 _ H1 q f s (aF8 (.inl ⟨n,.inl c⟩) rs)⟩⟩
 | rol l=>
  simp only[Rep]at rr;obtain⟨a,vs,rfl,c,rs⟩:=rr;exact⟨a,rfl,.inl ⟨vs,c.imp And.right id,k _ _ ρ1 _ H1 q f s (aF8 c rs)⟩⟩
 | _=>exact(show False from q).elim⟩
theorem a39 {A:AS}{lo:Int}{n:Nat}:aY4 K A H (Itr lo n) n (λi=> .int (lo+i)):=
 ⟨λ_ _ _ _ h=>h,λ_ _ i x H'' _ _ _ ⟨e,y⟩=>by subst e;subst y;exact⟨.refl _,by simp only[Rep]⟩,λ_ _ _=>le_refl n⟩
def jY (ta:UA):UI:=λρ Q=>ta ρ λds ρ1=>match ds with
 | [.int j]=>(-(2^62)<=j/\j<2^62)/\Q j.toNat (λi=> .int (0+i)) ρ1
 | _=>False
def a40 (ta:UA):UI:=λρ Q=>ta ρ λds ρ1=>match ds with
 | [.int i,.int j]=>(-(2^62)<=i/\i<2^62/\ -(2^62)<=j/\j<2^62)/\Q (j-i).toNat (λk=> .int (i+k)) ρ1
 | _=>False
theorem aS {A:AS}{i:Int}{v:V}(h:Rep K A H (.int i) v):v= .int i:=by simpa only[Rep]using h
theorem fB {tg a:Expr}{ta:UA}{p:Pos}(hg:Gl X "range")(hm:X.mg "range"=none)(ha:PUA X [a] ta)(hs:starEach [a] X.env=[(false,eval a X.env)]:=by rfl):PUI X tg (.Call (.Name "range" p) [a] [] pos) (jY ta):=
 aF7 (b67 hg hm ha hs) λσ H R ⟨C,ρ,Q0,I,h,k⟩=>⟨C,ρ,_,I,h,λds ρ1 vs H1 q f s r=>by
  split at q
  ·rename_i j
   obtain⟨v,vr,rfl,rv,rr⟩:=r.uncons;have:=rr.unnil;subst this;have:=aS rv;subst this;obtain⟨⟨h1,h2⟩,q⟩:=q;exact⟨j,rfl,h1,h2,k _ _ ρ1 _ H1 q f s a39⟩
  ·exact q.elim⟩
theorem xV {tg a b:Expr}{ta:UA}{p:Pos}(hg:Gl X "range")(hm:X.mg "range"=none)(ha:PUA X [a,b] ta)(hs:starEach [a,b] X.env=[(false,eval a X.env),(false,eval b X.env)]:=by rfl)(hs2:starEach [b] X.env=[(false,eval b X.env)]:=by rfl) :
  PUI X tg (.Call (.Name "range" p) [a,b] [] pos) (a40 ta):=
 aF7 (b68 hg hm ha hs hs2) λσ H R ⟨C,ρ,Q0,I,h,k⟩=>⟨C,ρ,_,I,h,λds ρ1 vs H1 q f s r=>by
  split at q
  ·rename_i i j
   obtain⟨v,vr,rfl,rv,rr⟩:=r.uncons;obtain⟨w,wr,rfl,rw',rr'⟩:=rr.uncons;have:=rr'.unnil;subst this;have:=aS rv;subst this;have:=aS rw';subst this;obtain⟨hb,q⟩:=q;exact⟨i,j,rfl,hb,k _ _ ρ1 _ H1 q f s a39⟩
  ·exact q.elim⟩
end
section
variable {X:Cx}{a b e o:Expr}{es:List Expr}{pos:Pos}{ta tb te ti:UE}{K:PySem.W.Frag}{C:C0}{ρ ρ':Ev}{σ σ':L2.St}{H H':Hp}{A:AS}
theorem Frz.ow {i:Nat}{l:List D}(f:Frz ρ ρ')(h:ρ'[i]? =some (some (.ow l))):ρ[i]? =some (some (.ow l)):=by
 rcases f.2 i with q| ⟨l',_,q⟩
 ·exact q▸h
 ·rw[q]at h;cases h
def kX (ρ:Ev)(i:Nat)(Q:List D->Prop):Prop:=match ρ[i]? with
 | some (some (.ow l))=>Q l
 | _=>False
theorem gB {i:Nat}{Q:List D->Prop}(h:kX ρ i Q): ∃l,ρ[i]? =some (some (.ow l))/\Q l:=by
 unfold kX at h;split at h
 ·rename_i l e
  exact⟨l,e,h⟩
 ·exact h.elim
def aB7 (i:Nat)(t:UE):US:=λD ρ=>kX ρ i λ_=>t ρ λb ρ1=>kX ρ1 i λl=>l.length<sizeLine/\D.nx (ρ1.set i (some (.ow (l++[b.d]))))
theorem lN {x:Str}{p apos cpos:Pos}(i:Nat)(hx:PE X (.Name x p) (sD i))(he:PU X e te)
  (hbase:attributeBase (.Name x p) "append" X.env (eval (.Name x p) X.env)=eval (.Name x p) X.env:=by rfl)
  (hfew:((backTo cpos (starEach [e] X.env)).all (λx=> !x.1)&&(backToKw cpos (keywordEach [] X.env)).all (λx=>x.1.isSome)
   &&decide ([e].length+([]:List Keyword).length+(if([]:List Keyword).isEmpty then 0 else 1)<30))=true:=by rfl)
  (hline:(apos.endLine==cpos.line)=true:=by rfl) (hs:starEach [e] X.env=(false,eval e X.env)::starEach [] X.env:=by rfl) (hplain:(backTo cpos (starEach [] X.env)).any (·.1)=false:=by rfl)
  (hw:swapsWith (.Call (.Attribute (.Name x p) "append" apos) [e] [] cpos) none pos.line X.env=pure false:=by rfl) :
  PUS X (.Expr (.Call (.Attribute (.Name x p) "append" apos) [e] [] cpos) pos) (aB7 i te):=
 kW (aJ1 (pe_bm PySem.F.plainAttrs_list PySem.F.slot_list_append PySem.F.type_list_append aF4 hx (aJ3 he aX6 hs) hbase hfew hline hs hplain) hw) λD σ H ⟨C,ρ,D0,I,h,k⟩=>by
  obtain⟨l,hl,h⟩:=gB h;obtain⟨a,vs,h1,h2,h3,h4⟩:=I.ow i l hl;refine⟨.ref a,h1,.inl ⟨rfl,vs,SqL.of h2⟩,C,ρ,_,I,h,λb ρ1 v H1 q f s r=> ?_⟩
  obtain⟨l',hl',hz,q⟩:=gB q;have e:=f.ow hl';rw[hl]at e;cases e;have I1:=(I.frz f).same s;obtain⟨a',vs',g1,g2,g3,g4⟩:=I1.ow i l hl';rw[h1]at g1;cases g1;refine⟨a,vs',v,rfl,rfl,g2,by rw[<-g4.length];exact hz,k.nx _ _ _ q ?_⟩
  exact I1.write hl' h1 (g4.append (.cons (r.rep λa z=>I.avF f z) .nil))
def b32 (i:Nat)(t ti:UE):US:=λD ρ=>t ρ λb ρ1=>kX ρ1 i λ_=>ti ρ1 λj ρ2=>kX ρ2 i λl=>match j.d with
 | .int k=>(match ixN l.length k with
  | some n=>D.nx (ρ2.set i (some (.ow (l.set n b.d))))
  | none=>False)
 | _=>False
theorem a41 {x:Str}{p tpos:Pos}{ix:Expr}(i:Nat)(hx:PE X (.Name x p) (sD i))(he:PU X e te)(hi:PU X ix ti)
  (ha: ∀v,assign (.Subscript (.Name x p) ix tpos) X.env v=(do
   let ov<-holding [v] (eval (.Name x p) X.env)
   let iv<-holding [v,ov] (eval ix X.env)
   standAt tpos
   holding [v,ov,iv] (setItem ov iv v)
   release [v,ov,iv] []):=by intro _;rfl)
  (hs:swapsWithSole [.Subscript (.Name x p) ix tpos] e pos.line X.env=pure false:=by rfl) (hw:swappedStores [.Subscript (.Name x p) ix tpos] e X.env=pure none:=by rfl)
  (h1:(assignEach [.Subscript (.Name x p) ix tpos] X.env).map (·.2)=[assign (.Subscript (.Name x p) ix tpos) X.env]:=by rfl):PUS X (.Assign [.Subscript (.Name x p) ix tpos] e pos) (b32 i te ti):=
 kW (bD0 he (pg_sub hx hi aQ5 ha) hs hw h1) λD σ H ⟨C,ρ,D0,I,h,k⟩=>⟨C,ρ,_,I,h,λb ρ1 v H1 q f s r=>by
  obtain⟨l,hl,q⟩:=gB q;have I1:=(I.frz f).same s;obtain⟨a,vs,h1,h2,h3,h4⟩:=I1.ow i l hl;refine⟨.ref a,h1,C,ρ1,_,I1,q,λj ρ2 w H2 q2 f2 s2 r2=> ?_⟩
  obtain⟨l',hl',q2⟩:=gB q2;have e:=f2.ow hl';rw[hl]at e;cases e;have I2:=(I1.frz f2).same s2;obtain⟨a',vs',g1,g2,g3,g4⟩:=I2.ow i l hl';rw[h1]at g1;cases g1;have rj:=r2.rep λa z=>I1.avF f2 z
  generalize j.d=dj at q2 rj;split at q2
  ·rename_i kk
   have:=aS rj;subst this;split at q2
   ·rename_i n hn
    refine⟨a,vs',kk,n,rfl,rfl,g2,by rw[<-g4.length];exact hn,k.nx _ _ _ q2 ?_⟩
    exact I2.write hl' h1 (g4.set n ((r.rep λa z=>I.avF f z).mono (.sub s2 λa=>f2.av)))
   ·exact q2.elim
  ·exact q2.elim⟩
def gIx (d i:D)(Q:D->Prop):Prop:=match iD d,i with
 | some l,.int k=>(match atI l k with
  | some x=>Q x
  | none=>False)
 | _,_=>False
def uIx (t:UV)(ti:UE):UE:=λρ Q=>t ρ λd ρ1=>ti ρ1 λi ρ2=>gIx d i.d λx=>Q (.pu x) ρ2
theorem aQ.atI {l:List D}{vs:List V}{k:Int}{x:D}(r:aQ K A H l vs)(h:atI l k=some x): ∃v,L2.atI vs k=some v/\Rep K A H x v:=by
 unfold L2.atI at h⊢;cases e:ixN l.length k with
 | none=>rw[e]at h;cases h
 | some j=>
  rw[e]at h;rw[<-r.length,e];exact r.get h
theorem aY0.mono {A':AS}(s:cZ H H')(h: ∀a,A' a->A a): ∀{d:D} {v:V},aY0 K A H d v->aY0 K A' H' d v
 | .non,_,r=>Rep.mono (.sub s h) r
 | .bl _,_,r=>Rep.mono (.sub s h) r
 | .int _,_,r=>Rep.mono (.sub s h) r
 | .str _,_,r=>Rep.mono (.sub s h) r
 | .ty _,_,r=>Rep.mono (.sub s h) r
 | .tup _,_,⟨a,vs,e,c,r⟩=>⟨a,vs,e,c.imp (λc=>c.imp (s _ _) λ⟨o,z⟩=>⟨o,s _ _ z⟩) id,r.mono (.sub s h)⟩
 | .lst _,_,⟨a,vs,e,c,r⟩=>⟨a,vs,e,s _ _ c,r.mono (.sub s h)⟩
 | .rol _,_,⟨a,vs,e,c,r⟩=>⟨a,vs,e,s.seq c,r.mono (.sub s h)⟩
 | .obj _ _ _,_,r=>Rep.mono (.sub s h) r
 | .adr _,_,r=>Rep.mono (.sub s h) r
 | .xob _ _ _ _,_,r=>Rep.mono (.sub s h) r
theorem aY0.seq {d:D}{v:V}{l:List D}(r:aY0 K A H d v)(h:iD d=some l): ∃a vs,v= .ref a/\(SqL K H a vs\/SqT K H a vs)/\aQ K A H l vs:=by
 cases d with
 | tup l'=>cases h;obtain⟨a,vs,e,c,r⟩:=r;exact⟨a,vs,e,.inr c,r⟩
 | lst l'=>cases h;obtain⟨a,vs,e,c,r⟩:=r;exact⟨a,vs,e,.inl (SqL.of c),r⟩
 | rol l'=>cases h;obtain⟨a,vs,e,c,r⟩:=r;exact⟨a,vs,e,.inl c,r⟩
 | _=>cases h
theorem bS5 {d i:D}{Q:D->Prop}(h:gIx d i Q): ∃l k x,iD d=some l/\i= .int k/\atI l k=some x/\Q x:=by
 unfold gIx at h;split at h
 ·rename_i l k e
  split at h
  ·rename_i x ex
   exact⟨l,k,x,e,rfl,ex,h⟩
  ·exact h.elim
 ·exact h.elim
theorem zB {t:UV}(ha:PUV X a t)(hb:PU X b ti)(hs:a12 b):PU X (.Subscript a b pos) (uIx t ti):=
 eO (pe_ix ix_seq ha hb hs) λσ H Q ⟨C,ρ,Q0,I,h,k⟩=>⟨C,ρ,_,I,h,λd ρ1 v H1 q f s r=>by
  have I1:=(I.frz f).same s;refine⟨C,ρ1,_,I1,q,λi ρ2 w H2 q2 f2 s2 r2=> ?_⟩
  obtain⟨l,kk,x,e1,e2,e3,q2⟩:=bS5 q2;have ri:=r2.rep λa z=>I1.avF f2 z
  rw[e2]at ri;have:=aS ri;subst this;obtain⟨a,vs,rfl,c,rs⟩:=(r.mono (A':=Av C ρ2 σ) s2 λa=>f2.av).seq e1
  obtain⟨u,e4,r4⟩:=rs.atI e3;have fin:=k (.pu x) ρ2 u H2 q2 (f.trans f2) (s.trans s2) r4;rcases c with c|c
  ·exact .inl ⟨a,vs,kk,u,rfl,rfl,c,e4,fin⟩
  ·exact .inr (.inl ⟨a,vs,kk,u,rfl,rfl,c,e4,fin⟩)⟩
abbrev UO:=Ev->(Option Int->Ev->Prop)->Prop
def lO (K:PySem.W.Frag)(t:UO):TO:=λσ H Q=> ∃C ρ Q0,EOk K C ρ σ H/\t ρ Q0/\ ∀i ρ' H',Q0 i ρ'->Frz ρ ρ'->cZ H H'->Q i H'
def PUO (X:Cx)(e:Option Expr)(t:UO):Prop:=PO X e (lO X.K t)
theorem c02 {e:Option Expr}{t t':TO}(h:PO X e t)(i: ∀σ H Q,t' σ H Q->t σ H Q):PO X e t':=λpins s σ H Q I q=>h pins s σ H Q I (i σ H Q q)
def nE:UO:=λρ Q=>Q none ρ
def nF (t:UE):UO:=λρ Q=>t ρ λb ρ1=>match b.d with
 | .int i=>Q (some i) ρ1
 | _=>False
theorem pC:PUO X none nE:=c02 bR6 λσ H Q ⟨C,ρ,Q0,I,h,k⟩=>k _ _ _ h (.refl _) (.refl _)
theorem gL (h:PU X e te):PUO X (some e) (nF te):=c02 (bR7 h) λσ H Q ⟨C,ρ,Q0,I,h,k⟩=>⟨C,ρ,_,I,h,λb ρ1 v H1 q f s r=>by
 have r':=r.rep λa z=>I.avF f z
 generalize b.d=d at q r';split at q
 ·exact⟨_,aS r',k _ _ _ q f s⟩
 ·exact q.elim⟩
def cutD (l:List D)(lo hi:Option Int):List D:=(l.drop (HT.sIx l.length 0 lo)).take (HT.sIx l.length l.length hi-HT.sIx l.length 0 lo)
theorem aQ.cut {l:List D}{vs:List V}(r:aQ K A H l vs)(lo hi:Option Int):aQ K A H (cutD l lo hi) (aQ4 vs lo hi):=by
 unfold cutD aQ4;rw[r.length];exact(r.drop _).take _
def gSl (d:D)(lo hi:Option Int)(Q:B->Prop):Prop:=match d with
 | .tup l=> ¬(HT.sIx l.length 0 lo=0/\HT.sIx l.length l.length hi=l.length)/\Q (.pu (.tup (cutD l lo hi)))
 | .lst l=>Q (.ow (cutD l lo hi))
 | .rol l=>Q (.ow (cutD l lo hi))
 | _=>False
def uSl (t:UV)(tl th:UO):UE:=λρ Q=>t ρ λd ρ1=>tl ρ1 λlo ρ2=>th ρ2 λhi ρ3=>gSl d lo hi λb=>Q b ρ3
theorem lW {t:UV}{tl th:UO}{lo hi:Option Expr}{p2:Pos}(he:PUV X e t)(hl:PUO X lo tl)(hu:PUO X hi th):PU X (.Subscript e (.Slice lo hi none p2) pos) (uSl t tl th):=
 eO (aQ3 (b30.or bE4) he hl hu) λσ H Q ⟨C,ρ,Q0,I,h,k⟩=>⟨C,ρ,_,I,h,λd ρ1 v H1 q f s r=>by
  have I1:=(I.frz f).same s;refine⟨C,ρ1,_,I1,q,λl2 ρ2 H2 q2 f2 s2=> ?_⟩
  have I2:=(I1.frz f2).same s2;refine⟨C,ρ2,_,I2,q2,λh3 ρ3 H3 q3 f3 s3=> ?_⟩
  have I3:=(I2.frz f3).same s3;have s13:=s2.trans s3;have sAll:=s.trans s13;have fAll:=f.trans (f2.trans f3);have r':=r.mono (A':=Av C ρ3 σ) s13 λa z=>f2.av (f3.av z)
  cases d with
  | tup l=>
   obtain⟨hw,q3⟩:=q3;obtain⟨a,vs,rfl,c,rs⟩:=r';exact .inr ⟨a,vs,rfl,c,by rw[<-rs.length];exact hw,λp n=>k _ ρ3 _ _ q3 fAll (sAll.trans (bN n _)) (eP (λa z=>I3.avSome z) n (rs.cut l2 h3))⟩
  | lst l=>
   obtain⟨a,vs,rfl,c,rs⟩:=r';exact .inl ⟨a,vs,rfl,SqL.of c,λp n=>k _ ρ3 _ _ q3 fAll (sAll.trans (bN n _)) (cW sAll n (rs.cut l2 h3))⟩
  | rol l=>
   obtain⟨a,vs,rfl,c,rs⟩:=r';exact .inl ⟨a,vs,rfl,c,λp n=>k _ ρ3 _ _ q3 fAll (sAll.trans (bN n _)) (cW sAll n (rs.cut l2 h3))⟩
  | _=>exact(show False from q3).elim⟩
def Sm (i:Int):Prop:=i.natAbs<2^9000
theorem Sm.log {i:Int}(h:Sm i):i.natAbs.log2<9000:=by
 by_cases z:i.natAbs=0
 ·rw[z];decide
 ·exact(Nat.log2_lt z).mpr h
def hJ (d e:D)(Q:B->Prop):Prop:=match d,e with
 | .int i,.int j=>Q (.pu (.int (i+j)))
 | .lst l,.lst m=>l.length+m.length<=sizeLine/\Q (.ow (l++m))
 | .tup l,.tup m=>l.length+m.length<=sizeLine/\Q (.pu (.tup (l++m)))
 | _,_=>False
theorem bF6:OpR X (binaryOp .Add) (λx y H Q=> ∃a b ys,x= .ref a/\y= .ref b/\SqT X.K H a []/\SqT X.K H b ys/\Q (.ref b) H):=by
 intro pins s σ H x y v u Q I rx ry h;obtain⟨a,b,ys,rfl,rfl,ha,hb,q⟩:=h;cases rx;cases ry;obtain⟨its,r1,p1,_⟩:=I.tuple ha;obtain⟨its2,r2,p2,_⟩:=I.tuple hb;have e:its=[]:=by
  have:=r1.length;exact List.length_eq_zero_iff.mp this.symm
 subst e;obtain⟨⟨cls,dd,data,sl⟩,ho,hc,n,hd⟩:=id p1;obtain⟨⟨cls2,dd2,data2,sl2⟩,ho2,hc2,n2,hd2⟩:=id p2;simp only at hc hd hc2 hd2;subst hc hd hc2 hd2;exact concat_meets ⟨_,ho,rfl⟩ ⟨_,ho2,rfl⟩ noFill_tuple_add seq_tuple_add PySem.F.slot_tuple_add PySem.F.entry_tuple_add (PySem.F.args_tuple_add_2 _ _) (tuple_addW0 a b _ its2.toArray n n2 dd dd2 sl sl2 rfl) ⟨ho,ho2,⟨.ref b,H,I,rfl,q⟩⟩
theorem wH {i:Int}:jW K A H H' (.pu (.int i)) (.int i):=by
 show Rep K A H' (.int i) (.int i)
 simp only[Rep]
theorem bZ:OpU X (binaryOp .Add) hJ:=by
 intro A H d e v w Q0 Q hA r1 r2 g k;unfold hJ at g;split at g
 ·rename_i i j
  exact⟨_,op_add,i,j,aS r1,aS r2,k _ _ H g (.refl _) wH⟩
 ·rename_i l m
  simp only[Rep]at r1 r2;obtain⟨a,vs,rfl,n1,c1,rs1⟩:=r1;obtain⟨b,ws,rfl,n2,c2,rs2⟩:=r2;exact⟨_,op_cat,a,b,vs,ws,rfl,rfl,c1,c2,by rw[<-rs1.length,<-rs2.length];exact g.1,λp n=>k _ _ _ g.2 (bN n _) (cW (.refl _) n (rs1.append rs2))⟩
 ·rename_i l m
  simp only[Rep]at r1 r2;obtain⟨a,vs,rfl,c1,rs1⟩:=r1;obtain⟨b,ws,rfl,c2,rs2⟩:=r2;obtain⟨hz,g⟩:=g
  by_cases hn:l=[]
  ·subst hn;have e1:vs=[]:=rs1.unnil;subst e1;refine⟨_,bF6,a,b,ws,rfl,rfl,c1.imp And.right id,c2.imp And.right id,k _ _ H g (.refl _) ?_⟩;show Rep X.K A H (.tup m) (.ref b);simp only[Rep];exact⟨b,ws,rfl,c2,rs2⟩
  refine⟨_,bR8,a,b,vs,ws,rfl,rfl,c1.imp And.right id,c2.imp And.right id,λz=>hn ?_,by rw[<-rs1.length,<-rs2.length];exact hz,λz=> ?_,λz p n=> ?_⟩
  ·have:=rs1.length;rw[z]at this;exact List.length_eq_zero_iff.mp this
  ·have e2:=rs2.length;rw[z]at e2;have e3:m=[]:=List.length_eq_zero_iff.mp e2;subst e3;rw[append_nil]at g;refine k _ _ H g (.refl _) ?_;show Rep X.K A H (.tup l) (.ref a);simp only[Rep];exact⟨a,vs,rfl,c1,rs1⟩
  ·exact k _ _ _ g (bN n _) (eP hA n (rs1.append rs2))
 ·exact g.elim
def gI2 (f:Int->Int->(B->Prop)->Prop)(d e:D)(Q:B->Prop):Prop:=match d,e with
 | .int i,.int j=>f i j Q
 | _,_=>False
theorem l7 {f:Int->Int->(B->Prop)->Prop}{d e:D}{Q:B->Prop}(h:gI2 f d e Q): ∃i j,d= .int i/\e= .int j/\f i j Q:=by
 unfold gI2 at h;split at h
 ·exact⟨_,_,rfl,rfl,h⟩
 ·exact h.elim
def gSub:D->D->(B->Prop)->Prop:=gI2 λi j Q=>Q (.pu (.int (i-j)))
theorem cR:OpU X (binaryOp .Sub) gSub:=by
 intro A H d e v w Q0 Q hA r1 r2 g k;obtain⟨i,j,rfl,rfl,g⟩:=l7 g;exact⟨_,op_sub,i,j,aS r1,aS r2,k _ _ H g (.refl _) wH⟩
theorem b33 {i:Int}(h:Sm i):Builtin.Int.intBits i<=2^20:=le_trans (PyProof.Rows.intBits_le h) (by decide)
def fQ (d e:D)(Q:B->Prop):Prop:=match d,e with
 | .int i,.int j=>(aX1 i j\/(Sm i/\Sm j))/\Q (.pu (.int (i*j)))
 | .lst l,.int k=>(-(2^63)<=k/\k<2^63/\l.length*k.toNat<=sizeLine)/\Q (.ow (replicate k.toNat l).flatten)
 | _,_=>False
theorem bS6:OpR X (binaryOp .Mult) (rI (λi j=>aX1 i j\/(Sm i/\Sm j)) λi j=> .int (i*j)):=opI λ_ _ _ _ _ _ _ hc q=>mul_int q (hc.elim aX1.ok λh=> .of_bits (b33 h.1) (b33 h.2))
theorem bL:OpU X (binaryOp .Mult) fQ:=by
 intro A H d e v w Q0 Q hA r1 r2 g k;unfold fQ at g;split at g
 ·rename_i i j
  exact⟨_,bS6,i,j,aS r1,aS r2,g.1,k _ _ H g.2 (.refl _) wH⟩
 ·rename_i l kk
  have:=aS r2;subst this;simp only[Rep]at r1;obtain⟨a,vs,rfl,n1,c1,rs1⟩:=r1;obtain⟨⟨h1,h2,h3⟩,g⟩:=g;exact⟨_,op_rep,a,kk,vs,rfl,rfl,c1,h1,h2,by rw[<-rs1.length];exact h3,λp n=>k _ _ _ g (bN n _) (cW (.refl _) n (rs1.rep _))⟩
 ·exact g.elim
def aB8:D->D->(B->Prop)->Prop:=gI2 λi j Q=>(j≠0/\Sm j)/\Q (.pu (.int (i.fdiv j)))
def n5:D->D->(B->Prop)->Prop:=gI2 λi j Q=>j≠0/\Q (.pu (.int (i.fmod j)))
theorem bS7:OpR X (binaryOp .FloorDiv) (rI (λ_ j=>j≠0/\Sm j) λi j=> .int (i.fdiv j)):=opI λ_ _ _ _ _ _ _ hc q=>floordiv_int hc.1 q (.inl (PyProof.noPylong_of_log2 hc.2.log))
theorem vD:OpU X (binaryOp .FloorDiv) aB8:=by
 intro A H d e v w Q0 Q hA r1 r2 g k;obtain⟨i,j,rfl,rfl,g⟩:=l7 g;exact⟨_,bS7,i,j,aS r1,aS r2,g.1,k _ _ H g.2 (.refl _) wH⟩
theorem fS:OpU X (binaryOp .Mod) n5:=by
 intro A H d e v w Q0 Q hA r1 r2 g k;obtain⟨i,j,rfl,rfl,g⟩:=l7 g;exact⟨_,bQ9,i,j,aS r1,aS r2,g.1,k _ _ H g.2 (.refl _) wH⟩
def bS8:D->D->(B->Prop)->Prop:=gI2 λi j Q=>bQ8 i j/\Q (.pu (.int (i^j.toNat)))
theorem bF7:OpU X (binaryOp .Pow) bS8:=by
 intro A H d e v w Q0 Q hA r1 r2 g k;obtain⟨i,j,rfl,rfl,g⟩:=l7 g;exact⟨_,op_pow,i,j,aS r1,aS r2,g.1,k _ _ H g.2 (.refl _) wH⟩
def nW (p:Int->Int->Bool):D->D->(B->Prop)->Prop:=gI2 λi j Q=>Q (.pu (.bl (p i j)))
theorem aK4 {op:CmpOp}{p:Int->Int->Bool}(ho:OpR X (compareOp op) (rI0 λi j=> .bl (p i j))):OpU X (compareOp op) (nW p):=by
 intro A H d e v w Q0 Q hA r1 r2 g k;obtain⟨i,j,rfl,rfl,g⟩:=l7 g;exact⟨_,ho,i,j,aS r1,aS r2,k _ _ H g (.refl _) hG⟩
theorem aQ9:OpU X (compareOp .Lt) (nW λi j=>decide (i<j)):=aK4 op_lt
theorem c03:OpU X (compareOp .LtE) (nW λi j=>decide (i<=j)):=aK4 op_le
theorem aR0:OpU X (compareOp .Gt) (nW λi j=>decide (j<i)):=aK4 op_gt
theorem c04:OpU X (compareOp .GtE) (nW λi j=>decide (j<=i)):=aK4 op_ge
def iK (neg:Bool)(d e:D)(Q:B->Prop):Prop:=match d,e with
 | .int i,.int j=>Q (.pu (.bl (neg ^^ decide (i=j))))
 | .bl i,.bl j=>Q (.pu (.bl (neg ^^ decide (i=j))))
 | .str i,.str j=>Q (.pu (.bl (neg ^^ decide (i=j))))
 | _,_=>False
theorem pW {b:Bool}{v:V}(h:Rep K A H (.bl b) v):v= .bl b:=by simpa only[Rep]using h
theorem wI {b:Str}{v:V}(h:Rep K A H (.str b) v):v= .str b:=by simpa only[Rep]using h
theorem iE:OpU X (compareOp .Eq) (iK false):=by
 intro A H d e v w Q0 Q hA r1 r2 g k;unfold iK at g;split at g
 ·rw[aS r1,aS r2];exact⟨_,bD3,rfl,k _ _ H g (.refl _) (by rw[a09,false_xor,beq_eq_decide_eq];exact hG)⟩
 ·rw[pW r1,pW r2];exact⟨_,bD3,rfl,k _ _ H g (.refl _) (by rw[aJ2,false_xor,beq_eq_decide_eq];exact hG)⟩
 ·rw[wI r1,wI r2];exact⟨_,bD3,rfl,k _ _ H g (.refl _) (by rw[a10,false_xor,beq_eq_decide_eq];exact hG)⟩
 ·exact g.elim
theorem bF8:OpU X (compareOp .NotEq) (iK true):=by
 intro A H d e v w Q0 Q hA r1 r2 g k;unfold iK at g;split at g
 ·rw[aS r1,aS r2];exact⟨_,bD4,rfl,k _ _ H g (.refl _) (by rw[a09,true_xor,beq_eq_decide_eq];exact hG)⟩
 ·rw[pW r1,pW r2];exact⟨_,bD4,rfl,k _ _ H g (.refl _) (by rw[aJ2,true_xor,beq_eq_decide_eq];exact hG)⟩
 ·rw[wI r1,wI r2];exact⟨_,bD4,rfl,k _ _ H g (.refl _) (by rw[a10,true_xor,beq_eq_decide_eq];exact hG)⟩
 ·exact g.elim
end
section
variable {X:Cx}{a b e o:Expr}{es:List Expr}{pos:Pos}{ta tb te ti:UE}{K:PySem.W.Frag}{C:C0}{ρ ρ':Ev}{σ σ':L2.St}{H H':Hp}{A:AS}
def vE (t:UE):UE:=λρ Q=>t ρ λb ρ1=>match b.d with
 | .int i=>Q (.pu (.int (-i))) ρ1
 | _=>False
theorem pX (h:PU X a ta):PU X (.UnaryOp .USub a pos) (vE ta):=
 eO (pe_un un_neg h) λσ H Q ⟨C,ρ,Q0,I,h,k⟩=>⟨C,ρ,_,I,h,λb ρ1 v H1 q f s r=>by
  have r':=r.rep λa z=>I.avF f z
  generalize b.d=d at q r';split at q
  ·exact⟨_,aS r',k _ _ _ _ q f s wH⟩
  ·exact q.elim⟩
theorem aY5:IpU X .Add (gI2 λi j Q=>Q (.pu (.int (i+j)))):=by
 intro A H d e v w Q0 Q hA r1 r2 g k;obtain⟨i,j,rfl,rfl,g⟩:=l7 g;exact⟨_,ip_add,i,j,aS r1,aS r2,k _ _ H g (.refl _) wH⟩
theorem iu_sub:IpU X .Sub (gI2 λi j Q=>Q (.pu (.int (i-j)))):=by
 intro A H d e v w Q0 Q hA r1 r2 g k;obtain⟨i,j,rfl,rfl,g⟩:=l7 g;exact⟨_,bD1,i,j,aS r1,aS r2,k _ _ H g (.refl _) wH⟩
def g1 (f:D->(B->Prop)->Prop)(ds:List D)(Q:B->Prop):Prop:=match ds with
 | [d]=>f d Q
 | _=>False
def g2 (f:D->D->(B->Prop)->Prop)(ds:List D)(Q:B->Prop):Prop:=match ds with
 | [d,e]=>f d e Q
 | _=>False
theorem xW {f:D->(B->Prop)->Prop}{ds:List D}{Q:B->Prop}{vs:List V}(h:g1 f ds Q)(r:aQ K A H ds vs): ∃d v,ds=[d]/\vs=[v]/\Rep K A H d v/\f d Q:=by
 unfold g1 at h;split at h
 ·obtain⟨v,vr,rfl,rv,rr⟩:=r.uncons;have:=rr.unnil;subst this;exact⟨_,v,rfl,rfl,rv,h⟩
 ·exact h.elim
theorem aY6 {f:D->D->(B->Prop)->Prop}{ds:List D}{Q:B->Prop}{vs:List V}(h:g2 f ds Q)(r:aQ K A H ds vs): ∃d e v w,ds=[d,e]/\vs=[v,w]/\Rep K A H d v/\Rep K A H e w/\f d e Q:=by
 unfold g2 at h;split at h
 ·obtain⟨v,vr,rfl,rv,rr⟩:=r.uncons;obtain⟨w,wr,rfl,rw',rr'⟩:=rr.uncons;have:=rr'.unnil;subst this;exact⟨_,_,v,w,rfl,rfl,rv,rw',h⟩
 ·exact h.elim
def bS9 (f:Int->(B->Prop)->Prop)(d:D)(Q:B->Prop):Prop:=match d with
 | .int i=>f i Q
 | _=>False
theorem bF9 {f:Int->(B->Prop)->Prop}{d:D}{Q:B->Prop}(h:bS9 f d Q): ∃i,d= .int i/\f i Q:=by
 unfold bS9 at h;split at h
 ·exact⟨_,rfl,h⟩
 ·exact h.elim
def bG0:List D->(B->Prop)->Prop:=g1 (bS9 λi Q=>Q (.pu (.int (if i<0 then -i else i))))
theorem aY7:pB X (.builtin "abs") bG0:=by
 intro A H ds vs Q0 Q hA r g k;obtain⟨d,v,rfl,rfl,rv,g⟩:=xW g r;obtain⟨i,rfl,g⟩:=bF9 g;exact⟨_,bD5,i,by rw[aS rv],k _ _ H g (.refl _) wH⟩
def gMax:List D->(B->Prop)->Prop:=g2 (gI2 λi j Q=>Q (.pu (.int (if j>i then j else i))))
theorem cu_max (hc:X.calm=true):pB X (.builtin "max") gMax:=by
 intro A H ds vs Q0 Q hA r g k;obtain⟨d,e,v,w,rfl,rfl,rv,rw',g⟩:=aY6 g r;obtain⟨i,j,rfl,rfl,g⟩:=l7 g;exact⟨_,b70 hc,i,j,by rw[aS rv,aS rw'],k _ _ H g (.refl _) wH⟩
def gMin:List D->(B->Prop)->Prop:=g2 (gI2 λi j Q=>Q (.pu (.int (if j<i then j else i))))
theorem cu_min (hc:X.calm=true):pB X (.builtin "min") gMin:=by
 intro A H ds vs Q0 Q hA r g k;obtain⟨d,e,v,w,rfl,rfl,rv,rw',g⟩:=aY6 g r;obtain⟨i,j,rfl,rfl,g⟩:=l7 g;exact⟨_,b71 hc,i,j,by rw[aS rv,aS rw'],k _ _ H g (.refl _) wH⟩
def gToInt:List D->(B->Prop)->Prop:=g1 λd Q=>match d with
 | .int i=>Q (.pu (.int i))
 | .bl k=>Q (.pu (.int (if k then 1 else 0)))
 | _=>False
def cS:List D->(B->Prop)->Prop:=g1 λd Q=>match iD d with
 | some l=>Q (.pu (.tup l))
 | none=>False
theorem fT:pB X (.type "tuple") cS:=by
 intro A H ds vs Q0 Q hA r g k;obtain⟨d,v,rfl,rfl,rv,g⟩:=xW g r;cases d with
 | tup l=>
  have rv':=rv;simp only[Rep]at rv;obtain⟨a,vs,rfl,c,rs⟩:=rv;exact⟨_,nV,a,vs,rfl,.inr ⟨c.imp And.right id,k _ _ H g (.refl _) rv'⟩⟩
 | lst l=>
  simp only[Rep]at rv;obtain⟨a,vs,rfl,n,c,rs⟩:=rv;exact⟨_,nV,a,vs,rfl,.inl ⟨SqL.of c,λp n=>k _ _ _ g (bN n _) (eP hA n rs)⟩⟩
 | rol l=>
  simp only[Rep]at rv;obtain⟨a,vs,rfl,c,rs⟩:=rv;exact⟨_,nV,a,vs,rfl,.inl ⟨c.imp And.right id,λp n=>k _ _ _ g (bN n _) (eP hA n rs)⟩⟩
 | _=>exact(show False from g).elim
def a14:List D->(B->Prop)->Prop:=g1 λd Q=>match iD d with
 | some l=>Q (.ow l)
 | none=>False
theorem b34:pB X (.type "list") a14:=by
 intro A H ds vs Q0 Q hA r g k;obtain⟨d,v,rfl,rfl,rv,g⟩:=xW g r;cases e:iD d with
 | none=>simp only[e]at g
 | some l=>
  simp only[e]at g;obtain⟨a,vs,rfl,c,rs⟩:=rv.one.seq e;exact⟨_,aJ8,a,vs,rfl,c,λp n=>k _ _ _ g (bN n _) (cW (.refl _) n rs)⟩
def hV (t:UV):UE:=λρ Q=>t ρ λd ρ1=>match iD d with
 | some l=>Q (.pu (.int l.length)) ρ1
 | none=>False
theorem cH {t:UV}{p:Pos}(ha:PUV X e t)(hg:Gl X "len")(hm:X.mg "len"=none)(hs:starEach [e] X.env=(false,eval e X.env)::starEach [] X.env:=by rfl)
  (hpl:(backTo pos (starEach [] X.env)).any (·.1)=false:=by rfl):PU X (.Call (.Name "len" p) [e] [] pos) (hV t):=
 eO (aQ2 aJ7 hg hm PySem.boot_len (aJ3 ha aX6 hs) (by decide) (by decide) hs hpl) λσ H Q ⟨C,ρ,Q0,I,h,k⟩=>⟨C,ρ,_,I,h,λd ρ1 v H1 q f s r=>by
  cases e:iD d with
  | none=>simp only[e]at q
  | some l=>
   simp only[e]at q;obtain⟨a,vs,rfl,c,rs⟩:=r.seq e;exact⟨a,vs,rfl,c,k _ _ _ _ q f s (by rw[rs.length];exact wH)⟩⟩
theorem vF {x:Value}{T:String}{prog:Program}{w:World}{A:Around}{E:Value->Shared->Prop}{s:Shared}{Q:Value->Shared->Prop}
  {P:(Result->Shared->Prop)->Shared->Prop} (hm:Meets (Builtin.«isinstance» ⟨[x,.type T],[]⟩) (λ_ R s=>P R s)) (h:P (λr s'=>match r with| .ok (.ret v)=>Q v s'| .ok _=>False| .error e=>E e s') s) :
  wpAny (model prog w) A (call (.builtin "isinstance") [x,.type T]) Q E s:=
 call_function_any kind_isinstance plain_isinstance entry_isinstance (args_isinstance _ _) (hm _ _ _ _ _ h)
theorem rep_ty {T:String}{v:V}(h:Rep K A H (.ty T) v):v= .ty T:=by simpa only[Rep]using h
def rIsi (K:PySem.W.Frag):List V->Hp->VK->Prop:=λxs H Q=> ∃x T k,xs=[x,.ty T]/\Q (.bl k) H/\
 ((∃i,x= .int i/\((T="int"/\k=true)\/((T="bool"\/T="tuple"\/T="list")/\k=false)))\/(∃c,x= .bl c/\(T="int"\/T="bool")/\k=true)\/
  (∃a ys,x= .ref a/\SqT K H a ys/\((T="tuple"/\k=true)\/((T="int"\/T="list")/\k=false)))\/(∃a ys,x= .ref a/\SqL K H a ys/\((T="list"/\k=true)\/((T="int"\/T="tuple")/\k=false))))
theorem tyT (T:String)(h:T="int"\/T="bool"\/T="tuple"\/T="list"):typeOf (.type T)=pure (.type "type"):=by
 rcases h with rfl|rfl|rfl|rfl<;>first|rfl|decide
theorem lX:iC X (.builtin "isinstance") (rIsi X.K):=by
 intro pins s σ H xs us Q I r h;obtain⟨x,T,k,rfl,q,h⟩:=h;obtain⟨u,w',rfl,rx,ry⟩:=vals2 r;have e:w'=Value.type T:=ry;subst e;rcases h with⟨i,rfl,h⟩| ⟨c,rfl,h,rfl⟩| ⟨a,ys,rfl,hs,h⟩| ⟨a,ys,rfl,hs,h⟩
 ·obtain⟨t,rfl⟩:=rx;rcases h with⟨rfl,rfl⟩| ⟨h,rfl⟩
  ·exact call_isinstance_yes (typeIs_int s i t) (tyT _ (by simp)) PyProof.Rows.sub_int_int ⟨.bl true,H,I,rfl,q⟩
  ·rcases h with rfl|rfl|rfl
   ·exact vF (isinstance_false_int (by decide) (tyT _ (by simp)) PyProof.Rows.sub_int_bool) ⟨.bl false,H,I.tok _,rfl,q⟩
   ·exact vF (isinstance_false_int (by decide) (tyT _ (by simp)) PyProof.Rows.sub_int_tuple) ⟨.bl false,H,I.tok _,rfl,q⟩
   ·exact vF (isinstance_false_int (by decide) (tyT _ (by simp)) PyProof.Rows.sub_int_list) ⟨.bl false,H,I.tok _,rfl,q⟩
 ·cases rx;rcases h with rfl|rfl
  ·exact call_isinstance_yes (PySem.typeIs_bool s c) (tyT _ (by simp)) PyProof.Rows.sub_bool_int ⟨.bl true,H,I,rfl,q⟩
  ·exact call_isinstance_yes (PySem.typeIs_bool s c) (tyT _ (by simp)) PyProof.Rows.sub_bool_bool ⟨.bl true,H,I,rfl,q⟩
 ·cases rx;obtain⟨its,rv,p,hz⟩:=I.tuple hs;obtain⟨o,ho,hc,_⟩:=id p;rcases h with⟨rfl,rfl⟩| ⟨h,rfl⟩
  ·exact call_isinstance_yes p.typeIs (tyT _ (by simp)) PyProof.Rows.sub_tuple_tuple ⟨.bl true,H,I,rfl,q⟩
  ·rcases h with rfl|rfl
   ·exact vF (isinstance_false_tuple (by decide) (tyT _ (by simp)) PyProof.Rows.sub_tuple_int) ⟨⟨o,ho,hc⟩,.bl false,H,I.tok _,rfl,q⟩
   ·exact vF (isinstance_false_tuple (by decide) (tyT _ (by simp)) PyProof.Rows.sub_tuple_list) ⟨⟨o,ho,hc⟩,.bl false,H,I.tok _,rfl,q⟩
 ·cases rx;obtain⟨its,rv,p,hz⟩:=I.list hs;obtain⟨o,n,ho,hc,_⟩:=id p;rcases h with⟨rfl,rfl⟩| ⟨h,rfl⟩
  ·exact call_isinstance_yes p.isList.typeIs (tyT _ (by simp)) PyProof.Rows.sub_list_list ⟨.bl true,H,I,rfl,q⟩
  ·rcases h with rfl|rfl
   ·exact vF (isinstance_false_list (by decide) (tyT _ (by simp)) PyProof.Rows.sub_list_int) ⟨⟨o,ho,hc⟩,.bl false,H,I.tok _,rfl,q⟩
   ·exact vF (isinstance_false_list (by decide) (tyT _ (by simp)) PyProof.Rows.sub_list_tuple) ⟨⟨o,ho,hc⟩,.bl false,H,I.tok _,rfl,q⟩
def b76:List D->(B->Prop)->Prop:=g2 λd e Q=>match e with
 | .ty T=>(match d with
  | .int _=>if T="int" then Q (.pu (.bl true))else if T="bool"\/T="tuple"\/T="list" then Q (.pu (.bl false))else False
  | .bl _=>if T="int"\/T="bool" then Q (.pu (.bl true))else False
  | .tup _=>if T="tuple" then Q (.pu (.bl true))else if T="int"\/T="list" then Q (.pu (.bl false))else False
  | .lst _=>if T="list" then Q (.pu (.bl true))else if T="int"\/T="tuple" then Q (.pu (.bl false))else False
  | _=>False)
 | _=>False
theorem aK5:pB X (.builtin "isinstance") b76:=by
 intro A H ds vs Q0 Q hA r g k;obtain⟨d,e,v,w,rfl,rfl,rv,rw',g⟩:=aY6 g r;have no: ∀{c:Bool},Q0 (.pu (.bl c))->Q (.bl c) H:=λz=>k _ _ H z (.refl _) hG
 cases e with
 | ty T=>
  rw[rep_ty rw'];cases d with
  | int i=>
   rw[aS rv]
   by_cases h1:T="int"
   ·simp only[h1,if_true]at g;exact⟨_,lX,_,T,true,rfl,no g,.inl ⟨i,rfl,.inl ⟨h1,rfl⟩⟩⟩
   ·by_cases h2:T="bool"\/T="tuple"\/T="list"
    ·simp only[h1,h2,if_true,if_false]at g;exact⟨_,lX,_,T,false,rfl,no g,.inl ⟨i,rfl,.inr ⟨h2,rfl⟩⟩⟩
    ·simp only[h1,h2,if_false]at g
  | bl c=>
   rw[pW rv]
   by_cases h1:T="int"\/T="bool"
   ·simp only[h1,if_true]at g;exact⟨_,lX,_,T,true,rfl,no g,.inr (.inl ⟨c,rfl,h1,rfl⟩)⟩
   ·simp only[h1,if_false]at g
  | tup l=>
   obtain⟨a,vs,rfl,c,rs⟩:=rv.one
   by_cases h1:T="tuple"
   ·simp only[h1,if_true]at g;exact⟨_,lX,_,T,true,rfl,no g,.inr (.inr (.inl ⟨a,vs,rfl,c,.inl ⟨h1,rfl⟩⟩))⟩
   ·by_cases h2:T="int"\/T="list"
    ·simp only[h1,h2,if_true,if_false]at g;exact⟨_,lX,_,T,false,rfl,no g,.inr (.inr (.inl ⟨a,vs,rfl,c,.inr ⟨h2,rfl⟩⟩))⟩
    ·simp only[h1,h2,if_false]at g
  | lst l=>
   obtain⟨a,vs,rfl,c,rs⟩:=rv.one
   by_cases h1:T="list"
   ·simp only[h1,if_true]at g;exact⟨_,lX,_,T,true,rfl,no g,.inr (.inr (.inr ⟨a,vs,rfl,SqL.of c,.inl ⟨h1,rfl⟩⟩))⟩
   ·by_cases h2:T="int"\/T="tuple"
    ·simp only[h1,h2,if_true,if_false]at g;exact⟨_,lX,_,T,false,rfl,no g,.inr (.inr (.inr ⟨a,vs,rfl,SqL.of c,.inr ⟨h2,rfl⟩⟩))⟩
    ·simp only[h1,h2,if_false]at g
  | _=>exact(show False from g).elim
 | _=>exact(show False from g).elim
theorem aR1 {x:Str}{T:String}{p:Pos}(hg:Gl X x)(hm:X.mg x=none)(hv:bootBuiltins x=some (.type T))(hn:x≠"__name__":=by decide)(hd:(x==("__debug__":Str))=false:=by decide):PU X (.Name x p) (uC (.ty T)):=
 a13 (bQ1 (v:= .ty T) hg hm hv rfl hn hd) λA H=>by simp only[Rep]
def init (N:List Str)(ds:List D):Ev:=ds.map (λd=>some (.pu d))++replicate (N.length-ds.length) none
theorem sG {N:List Str}{ds:List D}{i:Nat}{z:B}(h:(init N ds)[i]? =some (some z)): ∃d,z= .pu d/\ds[i]? =some d:=by
 unfold init at h
 by_cases hi:i<ds.length
 ·rw[List.getElem?_append_left (by simpa using hi),getElem?_map]at h
  cases e:ds[i]? with
  | none=>rw[e]at h;cases h
  | some d=>rw[e]at h;cases h;exact⟨d,rfl,rfl⟩
 ·rw[getElem?_append_right (by simpa using hi),List.getElem?_replicate]at h
  split at h<;>cases h
theorem aK6 {N:List Str}{ds:List D}{vs:List V}(hA: ∀a,A a->H a≠none)(r:aQ K A H ds vs):EOk K ⟨H,A⟩ (init N ds) (L2.start N vs) H:=by
 have own: ∀a,¬Own (init N ds) (L2.start N vs) a:=λa ⟨i,l,h1,_⟩=>by
  obtain⟨d,e,_⟩:=sG h1;cases e
 refine⟨?_,λi d h=> ?_,λi l h=> ?_,λi j l l' a h=> ?_,λi l h=> ?_,.refl _,hA⟩
 ·unfold init L2.start;simp[r.length]
 ·obtain⟨d',e,e2⟩:=sG h;cases e;obtain⟨v,h1,h2⟩:=r.get e2;refine⟨v,?_,h2.mono (.sub (.refl _) λa z=>z.elim id λz=>absurd z (own a))⟩
  unfold L2.start;have hv:i<vs.length:=(List.getElem?_eq_some_iff.mp h1).1;rw[List.getElem?_append_left (by simpa using hv),getElem?_map,h1]
  rfl
 ·obtain⟨d',e,_⟩:=sG h;cases e
 ·obtain⟨d',e,_⟩:=sG h;cases e
 ·obtain⟨d',e,_⟩:=sG h;cases e
theorem aK7 {P:Program}{w:World}{K:PySem.W.Frag}{mg:Str->Option Value}{base:Heap}{x qual:Str}{st:Stmt}{f:Addr}{fd:FuncData}{N ps:List Str}{k:Nat}{φ:Φ}(F:Fun K x qual st f fd)(S:aP N ps (a8 st))
  (len: ∀ds Q,φ ds Q->ds.length=ps.length)
  (body: ∀(cdv:Value) (A:Around) (outer:List Env) (s:Shared) (H:Hp) (E:XK),dA k (A.deeper (envOfC qual (a8 st) s.heap.objs.size f cdv))->
   ∃t,sF (nU CX0 P w K mg base N qual (a8 st) f cdv A outer s H E).nox (bK st) t/\ ∀ds Q,φ ds Q->t {nx:=λ_=>Q (.pu .non),rt:=Q} (init N ds)) :
  kI P w K mg base CX0 (k+1) f fd ps (spP K φ):=by
 refine F.ok S (λvs H Q E h=> ?_) (λcdv A outer s H vs Q E hr h=> ?_)
 ·obtain⟨A,ds,Q0,_,r,h,_⟩:=h;rw[<-r.length];exact len ds Q0 h
 ·obtain⟨A',ds,Q0,hA,r,h,q⟩:=h;obtain⟨t,ht,hq⟩:=body cdv A outer s H E hr;refine⟨_,ht,⟨H,A'⟩,init N ds,_,aK6 hA r,hq ds Q0 h,⟨λρ σ H' z I=> ?_,λb v H' z s r=>q b v H' z s r,λ_ _ _ z=>z.elim,λ_ _ _ z=>z.elim⟩⟩
  exact q _ _ H' z I.ext (show Rep _ _ _ _ _ by simp only[Rep])
end
structure Fn (P:Program)(w:World)(K:PySem.W.Frag)(mg:Str->Option Value)(base:Heap)(x:Str)(ps:List Str)(k:Nat)(φ:Φ):Prop where
 ex: ∃f fd,kI P w K mg base CX0 k f fd ps (spP K φ)/\Binds K fd ps []/\keepIn K (.ref f)=true/\mg x=some (.ref f)
section
variable {X:Cx}{e:Expr}{es:List Expr}{pos:Pos}
theorem wJ {k k':Nat}{ps:List Str}{φ:Φ}{x:Str}{p:Pos}{t:UA}(F:Fn X.prog X.w X.K X.mg X.base x ps k φ)(hr:dA k' X.A)(hk:k<=k')(hg:Gl X x)(ha:PUA X (e::es) t)(hdb:(x==("__debug__":Str))=false:=by decide)
  (he:starEach (e::es) X.env=(false,eval e X.env)::starEach es X.env:=by rfl) (hpl:(backTo pos (starEach es X.env)).any (·.1)=false:=by rfl):PU X (.Call (.Name x p) (e::es) [] pos) (aI φ t):=by
 obtain⟨f,fd,G,b,kp,m⟩:=F.ex;exact bS2 (E:=E0) G (hr.mono hk) hg m kp b (λ_ _ _ _ _ _ _ h=>h.elim) ha hdb he hpl
theorem bG1 {k k':Nat}{ps:List Str}{φ:Φ}{x:Str}{p:Pos}(F:Fn X.prog X.w X.K X.mg X.base x ps k φ)(hr:dA k' X.A)(hk:k<=k')(hg:Gl X x)(hdb:(x==("__debug__":Str))=false:=by decide):PU X (.Call (.Name x p) [] [] pos) (aI φ aE):=by
 obtain⟨f,fd,G,b,kp,m⟩:=F.ex;exact bF1 (E:=E0) G (hr.mono hk) hg m kp b (λ_ _ _ _ _ _ _ h=>h.elim) hdb
theorem il {n i:Nat}(hn:X.N.length=n)(h:i<n): ∀pins σ H s,Inv X pins σ H s->i<σ.length:=λ_ _ _ _ I=>by rw[I.len,hn];exact h
end
theorem Fn.mk' {P:Program}{w:World}{K:PySem.W.Frag}{mg:Str->Option Value}{base:Heap}{x qual:Str}{st:Stmt}{f:Addr}{fd:FuncData}{N ps:List Str}{k:Nat}{φ:Φ}(F:Fun K x qual st f fd)(m:mg x=some (.ref f))(b:Binds K fd ps [])(S:aP N ps (a8 st))
  (len: ∀ds Q,φ ds Q->ds.length=ps.length) {t:US}
  (der: ∀(cdv:Value) (A:Around) (outer:List Env) (s:Shared) (H:Hp) (E:XK),dA k (A.deeper (envOfC qual (a8 st) s.heap.objs.size f cdv))->sF (nU CX0 P w K mg base N qual (a8 st) f cdv A outer s H E).nox (bK st) t)
  (rd: ∀ds Q,φ ds Q->t {nx:=λ_=>Q (.pu .non),rt:=Q} (init N ds)):Fn P w K mg base x ps (k+1) φ:=
 ⟨f,fd,aK7 F S len λcdv A outer s H E hr=>⟨t,der cdv A outer s H E hr,rd⟩,b,F.kp,m⟩
def aF9:Φ:=λds Q=> ∃ns:List Int,ds=[.rol (ns.map .int)]/\ns.length<=63/\Q (.pu (.bl true))
theorem aG0 {K:PySem.W.Frag}{A:AS}{H:Hp}: ∀ns:List Int,aQ K A H (ns.map .int) (ns.map V.int)
 | []=> .nil
 | n::ns=> .cons (by simp only[Rep]) (aG0 ns)
theorem law_sp {K:PySem.W.Frag}{H:Hp}{a:Addr}{ns:List Int}(hl:ns.length<=63)(hS:SqL K H a (ns.map V.int)):spP K aF9 [.ref a] H (λv _=>v= .bl true) (λ_ _ _=>False):=by
 refine⟨λ_=>False,[.rol (ns.map .int)],λb=>b= .pu (.bl true),λ_ z=>z.elim,.cons ?_ .nil,⟨ns,rfl,hl,rfl⟩,λb v H' q s r=> ?_⟩
 ·simp only[Rep];exact⟨a,_,rfl,hS.imp (λz=>⟨λz=>z,z⟩) id,aG0 ns⟩
 ·subst q;have r':Rep K (λ_=>False) H' (.bl true) v:=r
  exact pW r'
theorem walkM {l:PySem.W.OpenLaw}{k:Nat}{x:Str}{q:Program}{loose:List Str}{XP:(Str->Option Value)->Heap->Prop}{YP:World->Heap->Prop}{d:DefRec}{K:Params->PySem.W.Frag}(hn:l.most=some 63)(hdf:d.params.defaults=[])(hr:dA k callerA)
  (hY: ∀(w:World) (h:Heap),YP w h->(K w.params).In h)
  (F: ∀(w:World) (mg:Str->Option Value) (fa:Addr) (h:Heap),(K w.params).In h->h.Ns mainGlobals mg->mg d.name=some (.ref fa)->
   ∃fd:FuncData,(∀(s:Shared) (u:Value),BindsTo s fd ⟨[u],[]⟩ [(x,u)])/\ ∀base:Heap,(K w.params).In base->base.Ns mainGlobals mg->kI l.prog w (K w.params) mg base CX0 k fa fd [x] (spP (K w.params) aF9)) :
  PySem.W.WalkO q loose XP YP l.row.toRowW d [] (λf vs=>PySem.call f vs):=
 L2.walk_of (n:=63) (k:=k) (x:=x) (CX:=λ_=>CX0) (sp:=λw=>spP (K w.params) aF9) hn (by decide) hdf hr hY F (λ_ _ a ns hl _ hS=>law_sp hl hS) λ_ _ _ _ _ z=>z
end M
end
section
namespace L2
open PySem PySem.Spec PyProof.Rows
def aX (X:Cx)(N:List Str)(scope:Scope)(cl:List (Str×Addr))(C:Addr)(s:Shared)(H:Hp)(fp:List Addr)(pins:List (Addr×Obj)):Cx where
 prog:=X.prog
 w:=X.w
 K:=X.K
 mg:=X.mg
 base:=X.base
 A:=X.A
 N:=N
 s₀:=s
 H₀:=H
 env:=compEnvC scope cl C X.env
 outer:=X.stack
 stack:=X.stack
 ex:=fp
 fn:=λx=>scope.names.lookup x==some .cell
 calm:=X.calm
 pn:=X.pn++pins
 xe:=λ_ _=>False
theorem pY {env:Env}: ∀(names:List (Str×NameKind)),(∀y∈names,y.2= .free-> ∃c,env.cells.lookup y.1=some c)-> ∀cs:List (Str×Addr),(∀x c,cs.lookup x=some c->env.cells.lookup x=some c)->
  ∃cl,(forIn names cs fun(x:Str×NameKind) r=>(do if(x.2==NameKind.free)=true then do let c<-cellOf env x.1;pure (ForInStep.yield ((x.1,c)::r))else pure (ForInStep.yield r)):Sem (List (Str×Addr)))=pure cl/\
   (∀x c,cl.lookup x=some c->env.cells.lookup x=some c)/\(∀x c,cs.lookup x=some c-> ∃c',cl.lookup x=some c')/\ ∀y∈names,y.2= .free-> ∃c,cl.lookup y.1=some c
 | [],_,cs,hcs=>⟨cs,rfl,hcs,λx c h=>⟨c,h⟩,λy hy=>by simp at hy⟩
 | (n,k)::r,h,cs,hcs=>by
  have hr: ∀y∈r,y.2= .free-> ∃c,env.cells.lookup y.1=some c:=λy hy=>h y (mem_cons_of_mem _ hy)
  by_cases hk:k= .free
  ·subst hk;obtain⟨c,hc⟩:=h (n,.free) mem_cons_self rfl;have e1:cellOf env n=pure c:=by unfold cellOf;rw[hc]
   have hcs': ∀x c',List.lookup x ((n,c)::cs)=some c'->env.cells.lookup x=some c':=λx c' q=>by
    rw[lookup_cons]at q;split at q
    ·rename_i e
     have:x=n:=by simpa using e
     subst this;cases q;exact hc
    ·exact hcs x c' q
   obtain⟨cl,h1,h2,h3,h4⟩:=pY r hr ((n,c)::cs) hcs';have hn: ∃c',cl.lookup n=some c':=h3 n c (by rw[lookup_cons];simp)
   refine⟨cl,?_,h2,λx c' q=> ?_,λy hy hf=> ?_⟩
   ·rw[List.forIn_cons];show(do let c<-cellOf env n;pure (ForInStep.yield ((n,c)::cs))) >>= _=_;rw[e1];exact h1
   ·by_cases z:x=n
    ·subst z;exact hn
    ·refine h3 x c' ?_
     rw[lookup_cons];have:(x==n)=false:=by simpa using z
     rw[this];exact q
   ·rcases List.mem_cons.mp hy with rfl|hy
    ·exact hn
    ·exact h4 y hy hf
  ·obtain⟨cl,h1,h2,h3,h4⟩:=pY r hr cs hcs;refine⟨cl,?_,h2,h3,λy hy hf=> ?_⟩
   ·rw[List.forIn_cons];have:(k==NameKind.free)=false:=by simpa using hk
    show(if(k==NameKind.free)=true then _ else _) >>= _=_
    rw[this];exact h1
   ·rcases List.mem_cons.mp hy with rfl|hy
    ·exact absurd hf hk
    ·exact h4 y hy hf
structure cA (env:Env)(XN N:List Str)(cap:List (Option Nat))(scope:Scope):Prop where
 kind:scope.kind= .function
 owns: ∀y∈scope.names,y.2= .cell->scope.names.lookup y.1=some .cell
 freeK: ∀y∈scope.names,y.2= .free->scope.names.lookup y.1=some .free
 names: ∀y∈scope.names,y.2= .local->scope.names.lookup y.1=some .local
 frees: ∀y∈scope.names,y.2= .free->env.kindOf y.1=some .cell\/env.kindOf y.1=some .free
 caps: ∀(i j:Nat) (x:Str),N[i]? =some x->cap[i]? =some (some j)->XN[j]? =some x/\(x,NameKind.free)∈scope.names/\scope.names.lookup x=some .free
 len:cap.length=N.length
def nG (σ:L2.St)(cap:List (Option Nat))(last:Nat)(D:Addr):L2.St:=(cap.map λc=>c.bind λj=>(σ[j]?).join).set last (some (.ref D))
theorem sH {env:Env}{x:Str}{k:NameKind}: ∀{names:List (Str×NameKind)},names.lookup x=some k->
  (names.map fun(n,k)=>if(k==NameKind.free&&env.scope.kind== .function&&env.kindOf n==some .cell)then(n,NameKind.cell)else(n,k)).lookup x=
   some (if(k==NameKind.free&&env.scope.kind== .function&&env.kindOf x==some .cell)then NameKind.cell else k)
 | [],h=>by simp at h
 | (n,k')::r,h=>by
  rw[map_cons];rw[lookup_cons]at h;dsimp only
  by_cases e:(x==n)=true
  ·have e':x=n:=by simpa using e
   subst e';rw[e]at h;cases h;split<;>simp
  ·have e2:(x==n)=false:=by simpa using e
   rw[e2]at h;have ih:=sH (env:=env) h;split
   ·rw[lookup_cons,e2];exact ih
   ·rw[lookup_cons,e2];exact ih
theorem iM {env:Env}{x:Str}{k:NameKind}: ∀{names:List (Str×NameKind)},(names.map fun(n,k)=>if(k==NameKind.free&&env.scope.kind== .function&&env.kindOf n==some .cell)then(n,NameKind.cell)else(n,k)).lookup x=some k->
  ∃k',names.lookup x=some k'/\(x,k')∈names/\(k=k'\/k'= .free)
 | [],h=>by simp at h
 | (n,k')::r,h=>by
  rw[map_cons]at h;dsimp only at h
  by_cases e:(x==n)=true
  ·have e':x=n:=by simpa using e
   subst e';refine⟨k',by rw[lookup_cons,e],mem_cons_self,?_⟩
   split at h
   ·rename_i c
    right
    simp only[and_eq_true,beq_iff_eq]at c;exact c.1.1
   ·rw[lookup_cons,e]at h;cases h;exact .inl rfl
  ·have e2:(x==n)=false:=by simpa using e
   have h':(r.map fun(n,k)=>if(k==NameKind.free&&env.scope.kind== .function&&env.kindOf n==some .cell)then(n,NameKind.cell)else(n,k)).lookup x=some k:=by
    split at h
    ·rw[lookup_cons,e2]at h;exact h
    ·rw[lookup_cons,e2]at h;exact h
   obtain⟨k2,h1,h2,h3⟩:=iM h';exact⟨k2,by rw[lookup_cons,e2];exact h1,mem_cons_of_mem _ h2,h3⟩
theorem xX {x:Str}{c:Addr}: ∀(names:List (Str×NameKind)) (h:Heap) (acc:List (Str×Addr)),(cellsFrom h.objs.size names acc).lookup x=some c->
  acc.lookup x=some c\/(h.objs.size<=c/\(x,NameKind.cell)∈names/\(pushCells h names).IsCell c none)
 | [],_,_,e=> .inl e
 | (y,k)::r,h,acc,e=>by
  unfold cellsFrom at e;unfold pushCells
  by_cases hk:(k==NameKind.cell)=true
  ·rw[if_pos hk]at e⊢;have hk':k= .cell:=by simpa using hk
   have sz:(h.push {cls:= .type "cell",data:= .cell none}).objs.size=h.objs.size+1:=size_push ..;rw[<-sz]at e;rcases xX r _ _ e with q| ⟨q1,q2,q3⟩
   ·rw[lookup_cons]at q;split at q
    ·rename_i e1
     have:x=y:=by simpa using e1
     subst this;cases q;exact .inr ⟨le_refl _,by rw[hk'];exact mem_cons_self,⟨_,pushCells_keeps _ _ _ _ (get?_push_size _ rfl),rfl⟩⟩
    ·exact .inl q
   ·exact .inr ⟨by lia,mem_cons_of_mem _ q2,q3⟩
  ·rw[if_neg hk]at e⊢;rcases xX r h acc e with q| ⟨q1,q2,q3⟩
   ·exact .inl q
   ·exact .inr ⟨q1,mem_cons_of_mem _ q2,q3⟩
theorem xY: ∀(names:List (Str×NameKind)) (n:Nat) (acc:List (Str×Addr)),(∀x c,acc.lookup x=some c->c<n)->(∀x y c,acc.lookup x=some c->acc.lookup y=some c->x=y)->
  ∀x y c,(cellsFrom n names acc).lookup x=some c->(cellsFrom n names acc).lookup y=some c->x=y
 | [],_,_,_,hi=>hi
 | (z,k)::r,n,acc,hl,hi=>by
  unfold cellsFrom
  by_cases hk:(k==NameKind.cell)=true
  ·rw[if_pos hk];refine xY r (n+1) _ (λx c e=> ?_) (λx y c e1 e2=> ?_)
   ·rw[lookup_cons]at e;split at e
    ·cases e;exact lt_succ_self n
    ·exact lt_succ_of_lt (hl x c e)
   ·rw[lookup_cons]at e1 e2;split at e1
    ·rename_i q1
     cases e1;split at e2
     ·rename_i q2
      exact(by simpa using q1:x=z).trans (by simpa using q2:y=z).symm
     ·exact absurd (hl y _ e2) (lt_irrefl _)
    ·split at e2
     ·cases e2;exact absurd (hl x _ e1) (lt_irrefl _)
     ·exact hi x y c e1 e2
  ·rw[if_neg hk];exact xY r n acc hl hi
theorem lP {x:Str}{c:Addr}: ∀(names:List (Str×NameKind)) (n:Nat) (acc:List (Str×Addr)),((x,NameKind.cell)∈names\/ ∀c,acc.lookup x=some c->n<=c)->(cellsFrom n names acc).lookup x=some c->n<=c
 | [],_,_,h,e=>by
  rcases h with h|h
  ·simp at h
  ·exact h c e
 | (z,k)::r,n,acc,h,e=>by
  unfold cellsFrom at e
  by_cases hk:(k==NameKind.cell)=true
  ·rw[if_pos hk]at e;have hk':k= .cell:=by simpa using hk
   rcases h with h|h
   ·rcases List.mem_cons.mp h with h|h
    ·cases h;have:n<=c:=by
      by_cases q: ∃c',(cellsFrom (n+1) r ((x,n)::acc)).lookup x=some c'/\(x,NameKind.cell)∈r
      ·obtain⟨c',e',m⟩:=q;have:=lP (c:=c) r (n+1) _ (.inl m) e
       lia
      ·have nm:(x,NameKind.cell) ∉ r:=λm=>q ⟨c,e,m⟩
       have:=cells_keep r (n+1) ((x,n)::acc) nm;rw[this,lookup_cons]at e;simp at e;exact le_of_eq e
     exact this
    ·have:=lP (c:=c) r (n+1) _ (.inl h) e
     lia
   ·by_cases q:(x,NameKind.cell)∈r
    ·have:=lP (c:=c) r (n+1) _ (.inl q) e
     lia
    ·have:=cells_keep r (n+1) ((z,n)::acc) q;rw[this,lookup_cons]at e;split at e
     ·cases e;exact le_refl _
     ·exact h c e
  ·rw[if_neg hk]at e;refine lP (c:=c) r n acc (h.imp (λm=> ?_) id) e
   rcases List.mem_cons.mp m with m|m
   ·cases m;exact absurd (by decide) hk
   ·exact m
where
 cells_keep {x:Str}: ∀(names:List (Str×NameKind)) (n:Nat) (acc:List (Str×Addr)),(x,NameKind.cell) ∉ names->(cellsFrom n names acc).lookup x=acc.lookup x
 | [],_,_,_=>rfl
 | (z,k)::r,n,acc,h=>by
  unfold cellsFrom
  by_cases hk:(k==NameKind.cell)=true
  ·rw[if_pos hk];have hk':k= .cell:=by simpa using hk
   rw[cells_keep r (n+1) _ λm=>h (mem_cons_of_mem _ m),lookup_cons]
   split
   ·rename_i e
    have:x=z:=by simpa using e
    subst this;exact absurd (by rw[hk'];exact mem_cons_self) h
   ·rfl
  ·rw[if_neg hk];exact cells_keep r n acc λm=>h (mem_cons_of_mem _ m)
theorem cells_keep {x:Str}(names:List (Str×NameKind))(n:Nat)(acc:List (Str×Addr))(h:(x,NameKind.cell) ∉ names):(cellsFrom n names acc).lookup x=acc.lookup x:=lP.cells_keep names n acc h
theorem aK8 {M:Model}{A:Around}{E:Value->Shared->Prop}{s:Shared}{scope:Scope}{globals:Addr}{cl:List (Str×Addr)}{qual:Str}{env0:Env}{Q:Env->Shared->Prop}
  (hQ:Q {scope:=scope,locals:=s.heap.objs.size,globals:=globals,cells:=cellsFrom (s.heap.objs.size+1) scope.names cl,qual:=qual,func:=none,code:=env0.code,frame:=env0.frame,builtins:=env0.builtins} {s with heap:=pushCells (s.heap.push {cls:= .type "dict",data:= .dict #[]}) scope.names}) :
  wpAny M A (newFunctionEnv scope globals cl [] qual none .none (some env0)) Q E s:=by
 simp only[newFunctionEnv,Option.isSome_some,if_true];refine wpAny_bind (wpAny_alloc ?_);refine wpAny_bind (wpAny_layCells _ (λname kind cells=>by cases hkc:kind==NameKind.cell<;>simp[hkc]) _ _ _ _ ?_)
 rw[show({s with heap:=s.heap.push {cls:= .type "dict",data:= .dict #[]}}:Shared).heap.objs.size=s.heap.objs.size+1 from size_push ..]
 rw[List.forIn_nil];exact wpAny_bind (wpAny_pure (wpAny_pure hQ))
section
variable {X:Cx}{pins:List (Addr×Obj)}{σ:L2.St}{H:Hp}{s:Shared}{N:List Str}{cap:List (Option Nat)}{scope:Scope}
theorem aR2 {fp:List Addr}{last:Nat}{D:Addr}{cl0 cl:List (Str×Addr)}{h1:Heap}{m0:Str->Option Value}{tk:Nat}(S:cA X.env X.N N cap scope)(I:Inv X pins σ H s)(hf: ∀b∈fp,xQ X pins H b)(hfs: ∀b∈fp,b<s.heap.objs.size)
  (hcl: ∀x c,cl0.lookup x=some c->X.env.cells.lookup x=some c) (hcl2: ∀y∈scope.names,y.2= .free-> ∃c,cl0.lookup y.1=some c) (hN: ∀x,N[last]? =some x->scope.names.lookup x=none)
  (hns:h1.Ns s.heap.objs.size m0) (hk: ∀b o,s.heap.get? b=some o->h1.get? b=some o)
  (c1: ∀x c,cl.lookup x=some c->cl0.lookup x=some c\/(s.heap.objs.size<c/\h1.IsCell c none)) (c2: ∀x y c,cl.lookup x=some c->cl.lookup y=some c->x=y)
  (c3: ∀x,(x,NameKind.free)∈scope.names->cl.lookup x=cl0.lookup x) (c4: ∀x,scope.names.lookup x=some .cell-> ∃c,cl.lookup x=some c) (c5: ∀x c,scope.names.lookup x=some .cell->cl.lookup x=some c->s.heap.objs.size<=c) :
  Inv (aX X N scope cl s.heap.objs.size s H fp pins) [] (nG σ cap last D) H {s with heap:=h1,toks:=tk}:=by
 have sz:X.base.objs.size<=s.heap.objs.size:=le_trans I.ok.bsz I.sz;have kindF: ∀x,(aX X N scope cl s.heap.objs.size s H fp pins).env.kindOf x=some .cell\/(aX X N scope cl s.heap.objs.size s H fp pins).env.kindOf x=some .free->(x,NameKind.free)∈scope.names\/scope.names.lookup x=some .cell:=λx h=>by
  have: ∃k,(k= .cell\/k= .free)/\(relabel scope X.env).names.lookup x=some k:=by
   rcases h with h|h
   ·exact⟨_,.inl rfl,h⟩
   ·exact⟨_,.inr rfl,h⟩
  obtain⟨k,hk,h⟩:=this;obtain⟨k',h1,h2,h3⟩:=iM h;rcases h3 with rfl|rfl
  ·rcases hk with rfl|rfl
   ·exact .inr (S.owns _ h2 rfl)
   ·exact .inl h2
  ·exact .inl h2
 have cne: ∀x c,cl.lookup x=some c-> ∀b∈fp,c≠b:=λx c h b hb=>by
  rcases c1 x c h with q| ⟨q,_⟩
  ·exact(hf b hb).2.2.2.2.1 x c (hcl x c q)
  ·exact λz=>by subst z;exact absurd (Nat.lt_trans q (hfs c hb)) (lt_irrefl _)
 refine⟨⟨I.ok.mod,S.kind,I.ok.glob,I.ok.blt,le_refl _,c2,λx h=> ?_,λx c h e=> ?_,I.ok.hd,I.ok.frames,.inl rfl,λb hb=> ?_,I.bs,sz,λb o e hb=> ?_,λb hb=> ?_,I.stack,I.stkFree⟩,
  rfl,I.bare,Un.kept hk,⟨m0,hns,λi x v e1 e2 e3=> ?_⟩,λx c h=> ?_,I.hok.fresh (le_refl _),λx c h=> ?_,λp hp=> ?_,I.hok.kept hk,?_⟩
 ·rcases kindF x h with q|q
  ·obtain⟨c,e⟩:=hcl2 _ q rfl;exact⟨c,(c3 x q).trans e⟩
  ·exact c4 x q
 ·exact c5 x c (by simpa using(show(scope.names.lookup x==some NameKind.cell)=true from h)) e
 ·exact⟨ne_of_lt (hfs b hb),λx c h=>cne x c h b hb⟩
 ·rcases(hf b hb).2.2.2.1 with z|z
  ·exact I.ok.noex b o e z
  ·have:=lt_size e;exact absurd (lt_of_lt_of_le this (le_trans I.ok.bsz z)) (lt_irrefl _)
 ·intro z;rcases List.mem_cons.mp (I.stkSub b z)with z|z
  ·exact(hf b hb).2.1 z
  ·exact(hf b hb).2.2.1 z
 ·have e1':N[i]? =some x:=e1;unfold nG at e2
  by_cases hl:last=i
  ·subst hl;have z:=hN x e1';rcases e3 with e3|e3|e3
   ·obtain⟨k',h1,_⟩:=iM (show(relabel scope X.env).names.lookup x=_ from e3)
    rw[z]at h1;cases h1
   ·obtain⟨k',h1,_⟩:=iM (show(relabel scope X.env).names.lookup x=_ from e3)
    rw[z]at h1;cases h1
   ·obtain⟨k',h1,_⟩:=iM (show(relabel scope X.env).names.lookup x=_ from e3)
    rw[z]at h1;cases h1
  ·rw[M.get_set_ne hl,getElem?_map]at e2;cases e4:cap[i]? with
   | none=>rw[e4]at e2;cases e2
   | some c=>
    rw[e4]at e2;cases c with
    | none=>cases e2
    | some j=>
     have e2':(σ[j]?).join=some v:=by simpa using e2
     have e5:σ[j]? =some (some v):=by
      cases q:σ[j]? with
      | none=>rw[q]at e2';cases e2'
      | some w=>rw[q]at e2';cases w with
       | none=>cases e2'
       | some w'=>cases e2';rfl
     obtain⟨a1,a2,a3⟩:=S.caps i j x e1' e4;have kx:=S.frees _ a2 rfl;obtain⟨m,hn,hl'⟩:=I.loc;have vis:Vis X.env.scope x:=by
      rcases kx with kx|kx
      ·exact .inr (.inl kx)
      ·exact .inr (.inr kx)
     obtain⟨u,r,l⟩:=hl' j x v a1 e5 vis;refine⟨u,r,.inr ⟨?_,?_⟩⟩
     ·have q:=sH (env:=X.env) a3;show(relabel scope X.env).names.lookup x=_\/(relabel scope X.env).names.lookup x=_;unfold relabel;dsimp only;rw[q];split
      ·exact .inl rfl
      ·exact .inr rfl
     ·rcases l with⟨l,_⟩| ⟨_,c,hc,hcell⟩
      ·rcases kx with kx|kx<;>·rw[kx]at l;cases l
      ·obtain⟨c',hc'⟩:=hcl2 _ a2 rfl;have:=hcl x c' hc';rw[hc]at this;cases this;obtain⟨o,ho,hd⟩:=hcell;exact⟨c,(c3 x a2).trans hc',o,hk _ _ ho,hd⟩
 ·rcases c1 x c h with q| ⟨_,q⟩
  ·obtain⟨v,o,ho,hd⟩:=I.cell x c (hcl x c q);exact⟨v,o,hk _ _ ho,hd⟩
  ·exact⟨_,q⟩
 ·rcases c1 x c h with q| ⟨q,_⟩
  ·exact I.freeC x c (hcl x c q)
  ·exact I.hok.fresh (le_of_lt q)
 ·have hp':p∈X.pn++pins:=by
   have:p∈(X.pn++pins)++[]:=hp
   simpa using this
  obtain⟨a1,a2,a3,a4,a5⟩:=I.pin p hp';refine⟨hk _ _ a1,a2,ne_of_lt (lt_size a1),λz=> ?_,a5⟩
  rcases List.mem_cons.mp (I.stkSub p.1 z)with z|z
  ·exact a3 z
  ·exact a4 z
 ·unfold nG;rw[length_set,length_map];exact S.len
theorem aG1 {fp:List Addr}{cl:List (Str×Addr)}{C:Addr}{σ':L2.St}{H':Hp}{s':Shared}{h2:Heap}{pins':List (Addr×Obj)}(I:Inv X pins σ H s)(hf: ∀b∈fp,xQ X pins H b)(hC:s.heap.objs.size<=C)
  (I':Inv (aX X N scope cl C s H fp pins) pins' σ' H' s') (hs:SameBut C s'.heap h2):Inv X pins σ H' {s' with heap:=h2}:=by
 have nC: ∀b o,s.heap.get? b=some o->b≠C:=λb o e z=>by
  subst z;exact absurd (lt_of_lt_of_le (lt_size e) hC) (lt_irrefl _)
 have get: ∀b,b≠C->h2.get? b=s'.heap.get? b:=λb hb=>hs.2 b hb
 have U:=I'.base;have u:Un (frs X.stack) fp H H' s.heap h2:=by
  refine⟨λb o e n h1 hx=> ?_,λb o e n h1 hx=> ?_,U.free,λb o e hx=> ?_,U.tups,U.frzs,U.tbls⟩
  ·rw[get b (nC b o e)];exact U.keep b o e n h1 hx
  ·rw[get b (nC b o e)];exact U.slot b o e n h1 hx
  ·rw[get b (nC b o e)];exact U.there b o e hx
 have fC:H' C=none:=I'.free;have hok:HOk X.prog X.w H' h2:=λa o e=>by
  have na:a≠C:=λz=>by subst z;rw[fC]at e;cases e
  refine(I'.hok a o e).stay (λb u hb q=> ?_) (λ_ q=>q) λ_ _ q=>q
  have nb:b≠C:=by
   rcases hb with rfl|hb
   ·exact na
   ·exact λz=>by subst z;rw[fC]at hb;cases hb
  rw[get b nb];exact q
 obtain⟨hh,gg,dd,tt,oo⟩:=s';have eo:oo=s.os:=I'.os;subst eo;have fin:=I.call (h':=h2) (g':=gg) (d':=dd) (t':=tt) (ch:=fp) u hok I'.bare λb hb=>⟨(hf b hb).2.2.2.1,(hf b hb).2.1,(hf b hb).2.2.2.2.1,(hf b hb).2.2.2.2.2⟩
 exact fin
end
theorem sI {prog:Program}{w:World}{A:Around}{R:Result->Shared->Prop}{s:Shared}{elt target iter:Expr}{ifs:List Expr}{scope:Scope}{pos:Pos}{it acc:Value}{env:Env}(I:Nat->Shared->Prop)
  (turn: ∀n s,I n s->wpAny (model prog w) A (pyNext it) (λr s₁=>match r with
   | none=>R (.ok .next) s₁
   | some v=>wpAny (model prog w) A (letOwnedTupleGo target it v) (λ_ s₂=>wpAny (model prog w) A (assign target env v) (λ_ s₂=>
     wpAny (model prog w) A (forIn ifs true λc r=>if r=true then do let ok<-isTrue c env (eval c env);pure (ForInStep.yield ok)else pure (ForInStep.yield r)) (λok s₃=>
      if ok=true then wpAny (model prog w) A (eval elt env) (λx s₄=>
       wpAny (model prog w) A (call (.builtin "list.append") [acc,x]) (λ_ s₅=> ∃m,m<n/\I m s₅) (notedBy (model prog w) A env λe s'=>R (.error e) s') s₄) (notedBy (model prog w) A env λe s'=>R (.error e) s') s₃
      else ∃m,m<n/\I m s₃) (notedBy (model prog w) A env λe s'=>R (.error e) s') s₂) (notedBy (model prog w) A env λe s'=>R (.error e) s') s₂) (notedBy (model prog w) A env λe s'=>R (.error e) s') s₁) (notedBy (model prog w) A env λe s'=>R (.error e) s') s)
  (n:Nat) (h:I n s):codeAny (model prog w) A (.compLoop (.ListComp elt [⟨target,iter,ifs,0⟩] scope pos) 0 it acc env) R s:=by
 refine codeAny_loop rfl I (λn s hI=> ?_) n h
 show wpAny _ A ((compTurn (.ListComp elt [⟨target,iter,ifs,0⟩] scope pos) 0 it acc env).onRaise (λx=>do noteFrame x env;theTreesLotGoes x)) _ _ s
 refine wpAny_noted ?_
 rw[compTurn_list];refine wpAny_bind (wpAny_standAt (wpAny_bind (wpAny_mono (turn n s hI) (λr s₁ h₁=> ?_) λ_ _ h'=>h')))
 cases r with
 | none=>exact wpAny_pure h₁
 | some v=>
  refine wpAny_bind (wpAny_mono h₁ (λ_ s₂ h₂=>wpAny_bind (wpAny_mono h₂ (λ_ s₂ h₂=>wpAny_bind (wpAny_mono h₂ (λok s₃ h₃=> ?_) λ_ _ h'=>h')) λ_ _ h'=>h')) λ_ _ h'=>h')
  cases ok with
  | false=>exact wpAny_pure ⟨rfl,h₃⟩
  | true=>
   exact wpAny_bind (wpAny_bind (wpAny_mono h₃ (λx s₄ h₄=>wpAny_bind (wpAny_mono h₄ (λ_ s₅ h₅=>wpAny_pure (wpAny_pure ⟨rfl,h₅⟩)) λ_ _ h'=>h')) λ_ _ h'=>h'))
def PTs (X:Cx)(ifs:List Expr)(t:TT):Prop:=
 ∀(pins:List (Addr×Obj)) (s:Shared) (σ:L2.St) (H:Hp) (Q:Bool->Hp->Prop),Inv X pins σ H s->t σ H Q->
  wpAny (model X.prog X.w) X.A (forIn ifs true λc r=>if r=true then do let ok<-isTrue c X.env (eval c X.env);pure (ForInStep.yield ok)else pure (ForInStep.yield r)) (TP X pins σ Q) X.xe s
theorem bT0 {X:Cx}:PTs X [] (λ_ H Q=>Q true H):=λpins s σ H Q I h=>wpAny_tests_nil ⟨H,I,h⟩
theorem bT1 {X:Cx}{c:Expr}{t:TT}(h:PT X c t):PTs X [c] t:=λpins s σ H Q I q=>wpAny_tests_one (h pins s σ H Q I q)
def b35 (cap:List (Option Nat))(last:Nat)(wi:TI)(g:TG)(tt:TT)(te:TE):TE:=λσ H Q=>wi σ H λJ H1=> ∀D,H1 D=none-> ∃W:Nat->Nat->L2.St->Hp->Prop,(∃m,W 0 m (nG σ cap last D) (upd H1 D (.lst [])))/\ ∀i m σ' H',W i m σ' H'->
 (J.stop i H'/\Q (.ref D) H')\/(J.go i H'/\ ∃Nx:L2.St->Hp->Prop,(∀σ2 H2,Nx σ2 H2-> ∃m',m'<m/\W (i+1) m' σ2 H2)/\ ∀x H2,J.yld i H' x H2->g x σ' H2 λσ3 H3=>tt σ3 H3 λc H4=>
  if c=true then te σ3 H4 λy H5=> ∃ys,H5 D=some (.lst ys)/\ys.length<sizeLine/\Nx σ3 (upd H5 D (.lst (ys++[y])))else Nx σ3 H4)
theorem aG2 {X:Cx}{RR:Value->Addr->Result->Shared->Prop}{elt iter tg:Expr}{ifs:List Expr}{scope:Scope}{pos:Pos}{N:List Str}{cap:List (Option Nat)}{last:Nat}{wi:TI}{g:TG}{tt:TT}{te:TE}(hc:X.calm=true)(hi:PI X tg iter wi)(S:cA X.env X.N N cap scope)
  (hN: ∀x,N[last]? =some x->scope.names.lookup x=none)
  (hg: ∀cl C s H fp pins,PG (aX X N scope cl C s H fp pins) tg g) (ht: ∀cl C s H fp pins,PTs (aX X N scope cl C s H fp pins) ifs tt) (he: ∀cl C s H fp pins,PE (aX X N scope cl C s H fp pins) elt te)
  {pins:List (Addr×Obj)} {s:Shared} {σ:L2.St} {H:Hp} {Q:VK} {cl:List (Str×Addr)} (I:Inv X pins σ H s) (h:b35 cap last wi g tt te σ H Q) (hcl: ∀x c,cl.lookup x=some c->X.env.cells.lookup x=some c) (hcl2: ∀y∈scope.names,y.2= .free-> ∃c,cl.lookup y.1=some c)
  (fin: ∀(D:Addr) (fp:List Addr) (H3:Hp) (s3:Shared) (σ':L2.St) (H':Hp) (s':Shared),Inv X pins σ H3 s3->(∀b∈fp,xQ X pins H3 b)->Inv (aX X N scope (cellsFrom (s3.heap.objs.size+1) scope.names cl) s3.heap.objs.size s3 H3 fp pins) [] σ' H' s'->Q (.ref D) H'->RR (.ref D) s3.heap.objs.size (.ok .next) s') :
  wpAny (model X.prog X.w) X.A (eval iter X.env) (λx s₁=>wpAny (model X.prog X.w) X.A (pyIter x) (λit s₂=>wpAny (model X.prog X.w) X.A (newList []) (λacc s₃=>
   wpAny (model X.prog X.w) X.A (newFunctionEnv scope X.env.globals cl [] X.env.qual none .none (some X.env)) (λcenv s₄=>
    codeAny (model X.prog X.w) X.A (.compStart (.ListComp elt [⟨tg,iter,ifs,0⟩] scope pos) 0 it acc {cenv with scope:=relabel scope X.env}) (RR acc cenv.locals) s₄) X.xe s₃) X.xe s₂) X.xe s₁) X.xe s:=by
 refine thn (hi pins s σ H _ I h) λxv s1 h1=>thn h1 λit s2 h2=> ?_
 obtain⟨ita,fp,tn,J,H2,rfl,I2,T,st2,f2,q⟩:=h2;refine wpAny_newObj_type ?_ (by show 0<=sizeLine;decide)
 have fD:H2 s2.heap.objs.size=none:=I2.hok.fresh (le_refl _);obtain⟨W,⟨m0,w0⟩,turn⟩:=q s2.heap.objs.size fD;have I3:Inv X pins σ (upd H2 s2.heap.objs.size (.lst [])) {s2 with heap:=s2.heap.push {cls:= .type "list",data:= .seq ([]:List Value).toArray}}:=I2.lnew (t':=s2.toks) .nil (zero_le _);have fpne: ∀b∈fp,b≠s2.heap.objs.size:=λb hb=>by
  obtain⟨o,ho,_⟩:=T.obj 0 _ st2 b hb;exact ne_of_lt (lt_size ho)
 have f3: ∀b∈fp,xQ X pins (upd H2 s2.heap.objs.size (.lst [])) b:=λb hb=>⟨by rw[aT (fpne b hb)];exact(f2 b hb).1,(f2 b hb).2⟩
 have k23: ∀b o,s2.heap.get? b=some o->(s2.heap.push {cls:= .type "list",data:= .seq ([]:List Value).toArray}).get? b=some o:=λb o e=>get?_push_of_some _ e
 have st3:tn 0 (s2.heap.push {cls:= .type "list",data:= .seq ([]:List Value).toArray}):=T.keep 0 _ _ st2 λb hb o e=>k23 b o e
 have fps: ∀b∈fp,b< (s2.heap.push {cls:= .type "list",data:= .seq ([]:List Value).toArray}).objs.size:=λb hb=>by
  obtain⟨o,ho,_⟩:=T.obj 0 _ st3 b hb;exact lt_size ho
 generalize hS3:({s2 with heap:=s2.heap.push {cls:= .type "list",data:= .seq ([]:List Value).toArray}}:Shared)=s3 at I3;have hh3:s3.heap=s2.heap.push {cls:= .type "list",data:= .seq ([]:List Value).toArray}:=by rw[<-hS3]
 rw[<-hh3]at st3 fps;refine aK8 ?_;have sz3:(s3.heap.push {cls:= .type "dict",data:= .dict #[]}).objs.size=s3.heap.objs.size+1:=size_push ..;have hns₁:(pushCells (s3.heap.push {cls:= .type "dict",data:= .dict #[]}) scope.names).Ns s3.heap.objs.size (λ_=>none):=(Heap.Ns.new s3.heap (.type "dict")).keeps (pushCells_keeps _ _)
 have k34: ∀b o,s3.heap.get? b=some o->(pushCells (s3.heap.push {cls:= .type "dict",data:= .dict #[]}) scope.names).get? b=some o:=λb o e=>pushCells_keeps _ _ _ _ (get?_push_of_some _ e)
 have I4:=aR2 (tk:=s3.toks) (last:=last) (D:=s2.heap.objs.size) (cl:=cellsFrom (s3.heap.objs.size+1) scope.names cl) S I3 f3 fps hcl hcl2 hN hns₁ k34
  (λx c e=>by
   rw[<-sz3]at e;rcases xX _ _ _ e with q| ⟨q1,_,q3⟩
   ·exact .inl q
   ·exact .inr ⟨by lia,q3⟩)
  (xY _ _ _ (λx c e=>by
   obtain⟨v,q⟩:=I3.cell x c (hcl x c e);exact lt_succ_of_lt q.lt) λx y c e1 e2=>I3.ok.inj x y c (hcl x c e1) (hcl y c e2))
  (λx m=>cells_keep _ _ _ λm'=>by
   have h1:=S.owns _ m' rfl;have h2:=S.freeK _ m rfl;rw[h1]at h2;cases h2)
  (λx e=>Option.isSome_iff_exists.mp (cellsFrom_some _ _ _ (.inl e)))
  (λx c e1 e2=>by
   have:=lP scope.names (s3.heap.objs.size+1) cl (.inl (PySem.mem_of_lookup e1)) e2
   lia)
 have st4:tn 0 (pushCells (s3.heap.push {cls:= .type "dict",data:= .dict #[]}) scope.names):=T.keep 0 _ _ st3 λb hb o e=>k34 b o e
 generalize hcl':cellsFrom (s3.heap.objs.size+1) scope.names cl=cl' at I4;have loop:codeAny (model X.prog X.w) X.A (.compLoop (.ListComp elt [⟨tg,iter,ifs,0⟩] scope pos) 0 (.ref ita) (.ref s2.heap.objs.size) (compEnvC scope cl' s3.heap.objs.size X.env))
   (RR (.ref s2.heap.objs.size) s3.heap.objs.size) {s3 with heap:=pushCells (s3.heap.push {cls:= .type "dict",data:= .dict #[]}) scope.names,toks:=s3.toks}:=by
  have stat: ∀{H':Hp},(∀b∈fp,H' b=none)-> ∀b∈fp,xQ (aX X N scope cl' s3.heap.objs.size s3 (upd H2 s2.heap.objs.size (.lst [])) fp pins) [] H' b:=λ{H'} hn b hb=>by
   refine⟨hn b hb,ne_of_lt (fps b hb),λz=> ?_,.inl hb,λx c e=>(I4.ok.exf b hb).2 x c e,λp hp=> ?_⟩
   ·rcases List.mem_cons.mp (I3.stkSub b z)with z|z
    ·exact(f3 b hb).2.1 z
    ·exact(f3 b hb).2.2.1 z
   ·have:p∈(X.pn++pins)++[]:=hp;exact(f3 b hb).2.2.2.2.2 p (by simpa using this)
  have hcb:(aX X N scope cl' s3.heap.objs.size s3 (upd H2 s2.heap.objs.size (.lst [])) fp pins).calm=true:=hc;refine sI (λn s'=> ∃i σ' H',Inv (aX X N scope cl' s3.heap.objs.size s3 (upd H2 s2.heap.objs.size (.lst [])) fp pins) [] σ' H' s'/\tn i s'.heap/\(∀b∈fp,H' b=none)/\W i n σ' H') ?_ m0 ⟨0,_,_,I4,st4,λb hb=>(f3 b hb).1,w0⟩
  rintro n s5 ⟨i,σ5,H5,I5,st5,fr5,w5⟩;rcases turn i n σ5 H5 w5 with⟨stop,qn⟩| ⟨go,Nx,hNx,step⟩
  ·refine wpAny_mono (T.done (aX X N scope cl' s3.heap.objs.size s3 (upd H2 s2.heap.objs.size (.lst [])) fp pins) rfl rfl rfl hcb i [] s5 σ5 H5 (λ_ _=>False) I5 (stat fr5) st5 stop) (λr s6 hr=> ?_) (λ_ _ z=>z.elim)
   obtain⟨rfl,I6⟩:=hr;exact fin _ fp _ s3 σ5 H5 s6 I3 f3 (hcl'▸I6) qn
  ·refine wpAny_mono (T.item (aX X N scope cl' s3.heap.objs.size s3 (upd H2 s2.heap.objs.size (.lst [])) fp pins) rfl rfl rfl hcb i [] s5 σ5 H5 (λ_ _=>False) I5 (stat fr5) st5 go) (λr s6 hr=> ?_) (λ_ _ z=>z.elim)
   obtain⟨u,rfl,h6⟩:=hr;refine wpAny_mono h6 (λ_ s7 h7=> ?_) (λ_ _ z=>z.elim)
   obtain⟨x,H7,I7,r7,y7,st7,fr7⟩:=h7;have I7':=I7.pinned (stat fr7) (T.obj _ _ st7);refine wpAny_mono (hg _ _ _ _ _ _ _ s7 σ5 H7 x u _ I7' r7 (step x H7 y7)) (λ_ s8 h8=> ?_) (λ_ _ z=>False.elim z)
   obtain⟨σ8,H8,I8,q8⟩:=h8;have again: ∀{σ9:L2.St} {H9:Hp} {s9:Shared},Inv (aX X N scope cl' s3.heap.objs.size s3 (upd H2 s2.heap.objs.size (.lst [])) fp pins) ([]++a31 fp s7.heap) σ9 H9 s9->Nx σ9 H9-> ∃m,m<n/\ ∃i σ' H',Inv (aX X N scope cl' s3.heap.objs.size s3 (upd H2 s2.heap.objs.size (.lst [])) fp pins) [] σ' H' s9/\tn i s9.heap/\(∀b∈fp,H' b=none)/\W i m σ' H':=λ{σ9 H9 s9} I9 n9=>by
    obtain⟨m',hm,w9⟩:=hNx σ9 H9 n9;refine⟨m',hm,i+1,σ9,H9,I9.unpinned,T.keep _ _ _ st7 λb hb o e=>(I9.pin (b,o) (mem_append_right _ (mem_append_right _ (pR hb e)))).1,λb hb=> ?_,w9⟩
    obtain⟨o,e,d⟩:=T.obj _ _ st7 b hb;exact(I9.pin (b,o) (mem_append_right _ (mem_append_right _ (pR hb e)))).2.1
   refine wpAny_mono (ht _ _ _ _ _ _ _ s8 σ8 H8 _ I8 q8) (λc s9 h9=> ?_) (λ_ _ z=>False.elim z)
   obtain⟨H9,I9,q9⟩:=h9;cases c with
   | false=>exact again I9 q9
   | true=>
    rw[if_pos rfl]at q9⊢;refine wpAny_mono (he _ _ _ _ _ _ _ s9 σ8 H9 _ I9 q9) (λv s10 h10=> ?_) (λ_ _ z=>False.elim z)
    obtain⟨y,H10,I10,r10,ys,e10,z10,q10⟩:=h10;refine wpAny_mono (aF4 (X:=(aX X N scope cl' s3.heap.objs.size s3 (upd H2 s2.heap.objs.size (.lst [])) fp pins)) _ s10 σ8 H10 (.ref s2.heap.objs.size) [y] (.ref s2.heap.objs.size) [v] (λv H=>v= .non/\Nx σ8 H) I10 rfl (.cons r10 .nil) ⟨_,ys,y,rfl,rfl,e10,z10,rfl,q10⟩) (λ_ s11 h11=> ?_) (λ_ _ z=>False.elim z)
    obtain⟨_,H11,I11,_,_,q11⟩:=h11;exact again I11 q11
 exact codeAny_compStart_list loop (T.self _ 0 _ _ _ st4 loop)
theorem uQ {X:Cx}{N:List Str}{cap:List (Option Nat)}{scope:Scope}{pins:List (Addr×Obj)}{s:Shared}{σ:L2.St}{H:Hp}(S:cA X.env X.N N cap scope)(I:Inv X pins σ H s) :
  ∃cl,closureFor scope X.env=pure cl/\(∀x c,cl.lookup x=some c->X.env.cells.lookup x=some c)/\ ∀y∈scope.names,y.2= .free-> ∃c,cl.lookup y.1=some c:=by
 obtain⟨cl,h1,h2,_,h4⟩:=pY (env:=X.env) scope.names (λy hy hf=>I.ok.has y.1 (S.frees y hy hf)) [] (λx c q=>by simp at q)
 refine⟨cl,?_,h2,h4⟩
 have e:closureFor scope X.env=(forIn scope.names [] fun(x:Str×NameKind) r=>(do if(x.2==NameKind.free)=true then do let c<-cellOf X.env x.1;pure (ForInStep.yield ((x.1,c)::r))else pure (ForInStep.yield r)):Sem (List (Str×Addr))) >>= λr=>pure r:=by
  rfl
 rw[e,h1];rfl
theorem bT2 {X:Cx}{elt iter tg:Expr}{ifs:List Expr}{scope:Scope}{pos:Pos}{N:List Str}{cap:List (Option Nat)}{last:Nat}{wi:TI}{g:TG}{tt:TT}{te:TE}(hc:X.calm=true)(hi:PI X tg iter wi)(S:cA X.env X.N N cap scope)
  (hN: ∀x,N[last]? =some x->scope.names.lookup x=none)
  (hg: ∀cl C s H fp pins,PG (aX X N scope cl C s H fp pins) tg g) (ht: ∀cl C s H fp pins,PTs (aX X N scope cl C s H fp pins) ifs tt) (he: ∀cl C s H fp pins,PE (aX X N scope cl C s H fp pins) elt te)
  (hs: ∀x,foldedSetIterable iter X.env x=pure x:=by intro _;rfl):PE X (.ListComp elt [⟨tg,iter,ifs,0⟩] scope pos) (b35 cap last wi g tt te):=by
 intro pins s σ H Q I h;rw[eval_ListComp];obtain⟨cl,hcl0,hcl,hcl2⟩:=uQ S I;refine wpAny_comprehension_free (use:=none) rfl hs hcl0 S.kind S.names ?_;refine aG2 (RR:=λacc C=>compPost (model X.prog X.w) X.A X.xe none (EP X pins σ Q) acc C) hc hi S hN hg ht he I h hcl hcl2 λD fp H3 s3 σ' H' s' I3 f3 I' q=> ?_
 obtain⟨m6,hn6,_⟩:=I'.loc;exact⟨m6,hn6,λh' hs'=>⟨.ref D,H',aG1 I3 f3 (le_refl _) I' hs',rfl,q⟩⟩
theorem aY8 {X:Cx}{elt iter tg:Expr}{ifs:List Expr}{scope:Scope}{pos spos py:Pos}{y:Str}{i:Nat}{N:List Str}{cap:List (Option Nat)}{last:Nat}{wi:TI}{g:TG}{tt:TT}{te:TE}(hc:X.calm=true)(hi:PI X tg iter wi)(S:cA X.env X.N N cap scope)
  (hN: ∀x,N[last]? =some x->scope.names.lookup x=none)
  (hg: ∀cl C s H fp pins,PG (aX X N scope cl C s H fp pins) tg g) (ht: ∀cl C s H fp pins,PTs (aX X N scope cl C s H fp pins) ifs tt) (he: ∀cl C s H fp pins,PE (aX X N scope cl C s H fp pins) elt te)
  (hy:PG X (.Name y py) (yU i)) (hsw:swapsWith (.ListComp elt [⟨tg,iter,ifs,0⟩] scope pos) (some (.Name y py)) spos.line X.env=pure true:=by rfl)
  (hs: ∀x,foldedSetIterable iter X.env x=pure x:=by intro _;rfl):PS X (.Assign [.Name y py] (.ListComp elt [⟨tg,iter,ifs,0⟩] scope pos) spos) (tAsg (b35 cap last wi g tt te) (yU i)):=by
 intro pins s σ H D I h;rw[exec_Assign_Name_used _ _ _ _ hsw];refine wpAny_bind (wpAny_standAt (wpAny_bind ?_));obtain⟨cl,hcl0,hcl,hcl2⟩:=uQ S I;show wpAny _ X.A (do let _<-comprehension (.ListComp elt [⟨tg,iter,ifs,0⟩] scope pos) scope X.env _ (newList []) false (eval iter X.env) (some (assign (.Name y py) X.env))) _ _ s
 refine wpAny_bind (wpAny_mono (wpAny_comprehension_free (use:=some (assign (.Name y py) X.env)) (Q:=λ_ s'=>SP X pins D .next s') rfl hs hcl0 S.kind S.names ?_) (λ_ s' hq=>wpAny_pure (wpAny_pure hq)) λ_ _ e=>e)
 refine aG2 (RR:=λacc C=>compPost (model X.prog X.w) X.A X.xe (some (assign (.Name y py) X.env)) (λ_ s'=>SP X pins D .next s') acc C) hc hi S hN hg ht he I h hcl hcl2 λD' fp H3 s3 σ' H' s' I3 f3 I' q=> ?_
 obtain⟨m6,hn6,_⟩:=I'.loc;obtain⟨o6,es6,ep6,ho6,rest6⟩:=id hn6;have J:Inv X pins σ H' s':=aG1 (h2:=s'.heap) I3 f3 (le_refl _) I' (.refl ..);have fC:H' s3.heap.objs.size=none:=I'.free;have neL:s3.heap.objs.size≠X.env.locals:=ne_of_gt I3.lt;have neF:s3.heap.objs.size ∉ X.fs:=I3.nofs (le_refl _);have neC: ∀x c,X.env.cells.lookup x=some c->c≠s3.heap.objs.size:=λx c e z=>by
  obtain⟨v,qq⟩:=I3.cell x c e;exact absurd (lt_of_lt_of_le qq.lt (by rw[z];exact le_refl _)) (lt_irrefl _)
 have neP: ∀p∈X.pn++pins,p.1≠s3.heap.objs.size:=λp hp z=>by
  have:=lt_size (I3.pin p hp).1;rw[z]at this;exact lt_irrefl _ this
 have nd: ∀v,o6.data≠ .cell v:=λv z=>by
  have:o6.data= .dict es6 ep6:=rest6.1;rw[this]at z;cases z
 have J':Inv X (pins++[(s3.heap.objs.size,o6)]) σ H' s':=J.pins_of λp hp=>(List.mem_append.mp hp).elim (λz=>J.pin p (mem_append_right _ z)) λz=>by
  have e:p=(s3.heap.objs.size,o6):=by simpa using z
  subst e;exact⟨ho6,fC,neL,neF,nd⟩
 show wpAny _ X.A (assign (.Name y py) X.env (.ref D')) _ _ _
 refine thn (hy _ s' σ H' (.ref D') (.ref D') D.nx J' rfl q) λ_ s7 ⟨σ7,H7,I7,q7⟩=> ?_
 obtain⟨e7,n7,_⟩:=I7.pin (s3.heap.objs.size,o6) (mem_append_right _ (mem_append_right _ (by simp)))
 refine⟨m6,⟨o6,es6,ep6,e7,rest6⟩,λh' hs'=> ?_⟩
 have I8:=I7.unpinned;exact⟨σ7,H7,I8.turned (t':=s7.toks) (λb o hb e=>(hs'.2 b hb).trans e) n7 neL (.inr (le_trans I3.sz (le_refl _))) neC neP,q7⟩
end L2
namespace M
open PySem PySem.Spec PyProof.Rows L2
def bT3:B->B
 | .pu d=> .pu d
 | .ow l=> .bo l
 | .bo l=> .bo l
def nI (ρ:Ev)(cap:List (Option Nat))(last:Nat):Ev:=(cap.map λc=>c.bind λj=>((ρ[j]?).join).map bT3).set last (some (.ow []))
def bT4 (ρ:Ev)(j:Nat):Ev:=match ρ[j]? with
 | some (some (.ow l))=>ρ.set j (some (.pu (.lst l)))
 | _=>ρ
def xZ:Ev->List Nat->Ev
 | ρ,[]=>ρ
 | ρ,j::js=>xZ (bT4 ρ j) js
theorem bG2 (ρ:Ev)(j:Nat):Frz ρ (bT4 ρ j):=by
 unfold bT4;split
 ·rename_i l e
  exact .set e
 ·exact .refl _
theorem aR3: ∀(js:List Nat) (ρ:Ev),Frz ρ (xZ ρ js)
 | [],ρ=> .refl _
 | j::js,ρ=>(bG2 ρ j).trans (aR3 js _)
def eX (js:List Nat)(cap:List (Option Nat))(last:Nat)(ui:UI)(g:UG)(tt:UT)(te:UE):UE:=λρ Q=>ui ρ λn it ρ1=> ∃Pv:Nat->Ev->Prop,Pv 0 (nI (xZ ρ1 js) cap last)/\
 (∀i ρ',i<n->Pv i ρ'->g (.pu (it i)) ρ' λρ2=>tt ρ2 λc ρ3=>if c=true then te ρ3 λb ρ4=>kX ρ4 last λl=>l.length<sizeLine/\Pv (i+1) (ρ4.set last (some (.ow (l++[b.d]))))else Pv (i+1) ρ3)/\
 ∀ρ',Pv n ρ'->kX ρ' last λl=>Q (.ow l) (xZ ρ1 js)
section
variable {X:Cx}{K:PySem.W.Frag}{C:C0}{ρ ρ':Ev}{σ σ':L2.St}{H H':Hp}
theorem cap_ok {cap:List (Option Nat)}{last:Nat}{Dn:Addr}(I:EOk K C ρ σ H)(hl:last<cap.length)(n:H Dn=none) :
  EOk K ⟨H,Av C ρ σ⟩ (nI ρ cap last) (nG σ cap last Dn) (upd H Dn (.lst [])):=by
 have pu: ∀(i:Nat) (z:B),last≠i->(nI ρ cap last)[i]? =some (some z)-> ∃(j:Nat) (z':B),cap[i]? =some (some j)/\z=bT3 z'/\ρ[j]? =some (some z'):=λi z ne h=>by
  unfold nI at h;rw[get_set_ne ne,getElem?_map]at h;cases e4:cap[i]? with
  | none=>rw[e4]at h;cases h
  | some c=>
   rw[e4]at h;cases c with
   | none=>cases h
   | some j=>
    have h':((ρ[j]?).join).map bT3=some z:=by simpa using h
    cases q:ρ[j]? with
    | none=>rw[q]at h';cases h'
    | some w=>
     rw[q]at h';cases w with
     | none=>cases h'
     | some w'=>cases h';exact⟨j,w',rfl,rfl,q⟩
 have sgm: ∀(i j:Nat) (v:V),last≠i->cap[i]? =some (some j)->σ[j]? =some (some v)->(nG σ cap last Dn)[i]? =some (some v):=λi j v e e1 h1=>by
  unfold nG;rw[get_set_ne e,getElem?_map,e1];show some ((σ[j]?).join)=_;rw[h1];rfl
 have atl:(nI ρ cap last)[last]? =some (some (.ow [])):=by
  unfold nI;exact dZ (by rw[length_map];exact hl)
 have sal:(nG σ cap last Dn)[last]? =some (some (.ref Dn)):=by
  unfold nG;exact dZ (by rw[length_map];exact hl)
 have noOw: ∀(i:Nat) (l:List D),last≠i->(nI ρ cap last)[i]? ≠some (some (.ow l)):=λi l e h=>by
  obtain⟨j,z',_,z,_⟩:=pu i _ e h;cases z'<;>cases z
 have own: ∀a,Own (nI ρ cap last) (nG σ cap last Dn) a->a=Dn:=λa ⟨i,l,h1,h2⟩=>by
  by_cases e:last=i
  ·subst e;rw[sal]at h2;cases h2;rfl
  ·exact absurd h1 (noOw i l e)
 have P:gE (Av C ρ σ) H (Av ⟨H,Av C ρ σ⟩ (nI ρ cap last) (nG σ cap last Dn)) (upd H Dn (.lst [])):=λb o nb e=>by
  have ne:b≠Dn:=λz=>by subst z;rw[n]at e;cases e
  refine⟨?_,by rw[aT ne];exact e⟩
  rintro(z|z)
  ·exact nb z
  ·exact ne (own b z)
 refine⟨by unfold nI nG;rw[length_set,length_set,length_map,length_map],λi d h=> ?_,λi l h=> ?_,λi j l l' a h1 h2 h3 h4=> ?_,λi l h=> ?_,bN n _,λa z=>I.avSome z⟩
 ·by_cases e:last=i
  ·subst e;rw[atl]at h;cases h
  ·obtain⟨j,z',e1,z,e2⟩:=pu i _ e h;cases z' with
   | pu d'=>
    cases z;obtain⟨v,h1,h2⟩:=I.pu j d e2;exact⟨v,sgm i j v e e1 h1,h2.mono P⟩
   | ow l=>cases z
   | bo l=>cases z
 ·by_cases e:last=i
  ·subst e;rw[atl]at h;cases h;exact⟨Dn,[],sal,dS,n,.nil⟩
  ·exact absurd h (noOw i l e)
 ·have e1:last=i:=Decidable.byContradiction λe=>absurd h1 (noOw i l e)
  have e2:last=j:=Decidable.byContradiction λe=>absurd h2 (noOw j l' e)
  exact e1.symm.trans e2
 ·by_cases e:last=i
  ·subst e;rw[atl]at h;cases h
  ·obtain⟨j,z',e1,z,e2⟩:=pu i _ e h;cases z' with
   | pu d'=>cases z
   | ow l'=>
    cases z;obtain⟨a,vs,h1,h2,h3,h4⟩:=I.ow j l e2;exact⟨a,vs,sgm i j _ e e1 h1,.inr ⟨j,l,e2,h1⟩,h2,h4.mono P⟩
   | bo l'=>
    cases z;obtain⟨a,vs,h1,h2,h3,h4⟩:=I.bo j l e2;exact⟨a,vs,sgm i j _ e e1 h1,.inl h2,I.ext _ _ h3,h4.mono P⟩
theorem c05 {js:List Nat}{cap:List (Option Nat)}{last:Nat}{ui:UI}{g:UG}{T:List Nat}{tt:UT}{te:UE}(hl:last<cap.length)(hT:last ∉ T)(σ:L2.St)(H:Hp)(Q:VK)(h:lE K (eX js cap last ui g tt te) σ H Q) :
  b35 cap last (lI K ui) (lG K T g) (lT K tt) (lE K te) σ H Q:=by
 obtain⟨C,ρ,Q0,I,h,k⟩:=h;refine⟨C,ρ,_,I,h,λn it ρ1 J H1 q f s ok Dn nD=> ?_⟩
 obtain⟨Pv,p0,turn,fin⟩:=q;have fz:=aR3 js ρ1;have I1:EOk K C (xZ ρ1 js) σ H1:=((I.frz f).same s).frz fz;generalize xZ ρ1 js=ρ2 at fz I1 p0 fin;have P12: ∀{A':AS} {H':Hp},gE (Av C ρ2 σ) H1 A' H'->gE (Av C ρ1 σ) H1 A' H':=λp b o nb e=>p b o (λz=>nb (fz.av z)) e
 have I2:=cap_ok I1 hl nD;have own0: ∀{ρ':Ev} {σ':L2.St} {H':Hp},EOk K ⟨H1,Av C ρ2 σ⟩ ρ' σ' H'->gE (Av C ρ2 σ) H1 (Av ⟨H1,Av C ρ2 σ⟩ ρ' σ') H':=λ{ρ' σ' H'} J' b o nb e=>by
  refine⟨?_,J'.ext b o e⟩
  rintro(z| ⟨i,l,h1,h2⟩)
  ·exact nb z
  ·obtain⟨a,vs,h3,h4,h5,_⟩:=J'.ow i l h1;rw[h2]at h3;cases h3;have e':(⟨H1,Av C ρ2 σ⟩:C0).H0 b=some o:=e;rw[h5]at e';cases e'
 have sal:(nG σ cap last Dn)[last]? =some (some (.ref Dn)):=by
  unfold nG;exact dZ (by rw[length_map];exact hl)
 refine⟨λi m σ' H'=>m=n-i/\i<=n/\σ'[last]? =some (some (.ref Dn))/\ ∃ρ',EOk K ⟨H1,Av C ρ2 σ⟩ ρ' σ' H'/\Pv i ρ',⟨n,rfl,zero_le _,sal,_,I2,p0⟩,?_⟩
 rintro i m σ' H' ⟨rfl,hi,hlast,ρ',J',p'⟩;have P:=P12 (own0 J')
 by_cases hlt:i<n
 ·refine .inr ⟨ok.go _ _ i P hlt,λσ2 H2=>σ2[last]? =some (some (.ref Dn))/\ ∃ρ3,EOk K ⟨H1,Av C ρ2 σ⟩ ρ3 σ2 H2/\Pv (i+1) ρ3,λσ2 H2 z=>⟨n-(i+1),by omega,rfl,hlt,z⟩,λx H2 y=> ?_⟩
  obtain⟨s2,r2⟩:=ok.yld _ _ i x H2 P (λa z=>J'.avSome z) hlt y
  refine⟨_,ρ',.pu (it i),H',_,J',s2,r2,turn i ρ' hlt p',λρ3 σ3 H3 q3 J3 same3=> ?_⟩
  have l3:σ3[last]? =some (some (.ref Dn)):=(same3 last hT).trans hlast;refine⟨_,ρ3,_,J3,q3,λc ρ4 H4 q4 f4 s4=> ?_⟩
  have J4:=(J3.frz f4).same s4;cases c with
  | false=>
   dsimp only at q4⊢;rw[if_neg Bool.false_ne_true]at q4⊢;exact⟨l3,ρ4,J4,q4⟩
  | true=>
   dsimp only at q4⊢;rw[if_pos rfl]at q4⊢;refine⟨_,ρ4,_,J4,q4,λb ρ5 v H5 q5 f5 s5 r5=> ?_⟩
   have J5:=(J4.frz f5).same s5;obtain⟨l,hl5,hz,q5⟩:=gB q5;obtain⟨a,vs,g1,g2,g3,g4⟩:=J5.ow last l hl5;rw[l3]at g1;cases g1;refine⟨vs,g2,by rw[<-g4.length];exact hz,l3,_,J5.write hl5 l3 (g4.append (.cons (r5.rep λa z=>J4.avF f5 z) .nil)),q5⟩
 ·have e:i=n:=by omega
  subst e;obtain⟨l,hl5,q5⟩:=gB (fin ρ' p');obtain⟨a,vs,g1,g2,g3,g4⟩:=J'.ow last l hl5;rw[hlast]at g1;cases g1;refine .inl ⟨ok.stop _ _ P,k _ _ _ _ q5 (f.trans fz) (s.trans J'.ext) ⟨Dn,vs,rfl,s.free nD,g2,?_⟩⟩;refine g4.mono λb o nb e=>⟨?_,e⟩
  rintro(z|z)
  ·exact nb (.inl z)
  ·subst z;exact nb (.inr ⟨last,l,hl5,hlast⟩)
theorem gR: ∀{X:Cx},PTs X [] (lT X.K λρ Q=>Q true ρ):=λ{X} pins s σ H Q I ⟨C,ρ,Q0,J,h,k⟩=>bT0 pins s σ H Q I (k _ ρ H h (.refl _) (.refl _))
theorem bT5 {c:Expr}{t:UT}(h:PUT X c t):PTs X [c] (lT X.K t):=bT1 h
theorem bT6 {elt iter tg:Expr}{ifs:List Expr}{scope:Scope}{pos:Pos}{N:List Str}{js:List Nat}{cap:List (Option Nat)}{last:Nat}{ui:UI}{g:UG}{T:List Nat}{tt:UT}{te:UE}(hc:X.calm=true)(hi:PUI X tg iter ui)(S:cA X.env X.N N cap scope)
  (hN: ∀x,N[last]? =some x->scope.names.lookup x=none) (hl:last<cap.length) (hT:last ∉ T)
  (hg: ∀cl C s H fp pins,PUG (aX X N scope cl C s H fp pins) tg T g) (ht: ∀cl C s H fp pins,PTs (aX X N scope cl C s H fp pins) ifs (lT X.K tt)) (he: ∀cl C s H fp pins,PU (aX X N scope cl C s H fp pins) elt te)
  (hs: ∀x,foldedSetIterable iter X.env x=pure x:=by intro _;rfl):PU X (.ListComp elt [⟨tg,iter,ifs,0⟩] scope pos) (eX js cap last ui g tt te):=
 eO (bT2 (g:=lG X.K T g) (tt:=lT X.K tt) (te:=lE X.K te) hc hi S hN hg ht he hs) (c05 hl hT)
theorem aY9 {elt iter tg:Expr}{ifs:List Expr}{scope:Scope}{pos spos py:Pos}{y:Str}{N:List Str}{js:List Nat}{cap:List (Option Nat)}{last:Nat}{ui:UI}{g:UG}{T:List Nat}{tt:UT}{te:UE}(i:Nat)(hc:X.calm=true)(hi:PUI X tg iter ui)(S:cA X.env X.N N cap scope)
  (hN: ∀x,N[last]? =some x->scope.names.lookup x=none) (hl:last<cap.length) (hT:last ∉ T)
  (hg: ∀cl C s H fp pins,PUG (aX X N scope cl C s H fp pins) tg T g) (ht: ∀cl C s H fp pins,PTs (aX X N scope cl C s H fp pins) ifs (lT X.K tt)) (he: ∀cl C s H fp pins,PU (aX X N scope cl C s H fp pins) elt te)
  (hy:PG X (.Name y py) (yU i)) (hi': ∀pins σ H s,Inv X pins σ H s->i<σ.length) (hsw:swapsWith (.ListComp elt [⟨tg,iter,ifs,0⟩] scope pos) (some (.Name y py)) spos.line X.env=pure true:=by rfl)
  (hs: ∀x,foldedSetIterable iter X.env x=pure x:=by intro _;rfl):PUS X (.Assign [.Name y py] (.ListComp elt [⟨tg,iter,ifs,0⟩] scope pos) spos) (b9 i (eX js cap last ui g tt te)):=by
 intro pins s σ H D I q;refine aY8 (g:=lG X.K T g) (tt:=lT X.K tt) (te:=lE X.K te) hc hi S hN hg ht he hy hsw hs pins s σ H D I ?_;obtain⟨C,ρ,D0,J,h,k⟩:=q;exact c05 hl hT σ H _ ⟨C,ρ,_,J,h,λb ρ1 v H1 q f s1 r=>k.nx _ _ _ q ((J.frz f).store s1 r (hi' pins σ H s I))⟩
end
end M
end
section
namespace L2
open PySem PySem.Spec PyProof.Rows
section
variable {X:Cx}
theorem bT7 {bs:List Bool}: ∀{its:List Value},Vals (bs.map V.bl) its->LSm.BoolsAre its bs:=by
 induction bs with
 | nil=>intro its r;cases r;exact .nil
 | cons b bs ih=>
  intro its r;cases r with
  | cons r1 r2=>
   cases r1;exact .cons b (ih r2)
theorem aZ0 (hc:X.calm=true):iC X (.builtin "all") (λxs H Q=> ∃(p:Addr) (bs:List Bool),xs=[.ref p]/\SqL X.K H p (bs.map V.bl)/\Q (.bl (bs.all id)) H):=by
 intro pins s σ H xs us Q I r h;obtain⟨p,bs,rfl,hq,q⟩:=h;obtain⟨u,rfl,rx⟩:=vals1 r;cases rx;obtain⟨its,rv,pl,hz⟩:=I.list hq;have ba:=bT7 rv;refine call_all_walk (wpAny_pyIter_list pl.isList ?_);have hne:p≠s.heap.objs.size:=by
  obtain⟨o,n,e,_⟩:=pl;exact ne_of_lt (lt_size e)
 refine⟨s.heap.objs.size,_,_,_,_,_,λi=>(bs[i]?).getD true,rfl,Walks.list (A:=X.A.in1) (I.ok.hd hc) s.heap.objs.size p (λz=>hne z) its.toArray,⟨⟨_,get?_push_size _ rfl,rfl,rfl⟩,pl.isList.push _⟩,?_,λh' tk hk=> ?_⟩
 ·intro i v s' Q' E' hP hQ;obtain⟨b,hb,rfl⟩:=ba.get i v (by simpa using hP)
  refine wpAny_truthy_bool ?_
  have e:(λi=>(bs[i]?).getD true) i=b:=by simp[hb]
  dsimp only at hQ;rw[hb]at hQ;exact hQ
 ·have e:=LSm.range_all bs;have hl:=ba.length;have e2:its.toArray.size=bs.length:=by rw[size_toArray,hl]
  rw[e2,e];exact⟨.bl (bs.all id),H,I.kept λb o e=>hk b o (by simpa using ne_of_lt (lt_size e)) (get?_push_of_some _ e),rfl,q⟩
theorem aZ1 (hc:X.calm=true):iC X (.builtin "sum") (λxs H Q=> ∃(p:Addr) (ns:List Int),xs=[.ref p]/\SqL X.K H p (ns.map V.int)/\Q (.int ns.sum) H):=by
 intro pins s σ H xs us Q I r h;obtain⟨p,ns,rfl,hq,q⟩:=h;obtain⟨u,rfl,rx⟩:=vals1 r;cases rx;obtain⟨its,rv,pl,hz⟩:=I.list hq;have hi:IntsAre its ns:=by simpa using intsAre_of rv
 obtain⟨xs,hx⟩:=hi.allInts.items;have hl':s.heap.IsList p (intItems xs):=hx▸pl.isList;refine sum_intListG (I.ok.hd hc) hl' λh' tk t' hk=> ?_
 have e1:ns=xs.toList.map (·.1):=by
  rw[<-nums_intItems,<-hx];exact(show numsOf its.toArray.toList=ns from hi.numsOf).symm
 have e2:preSum (numAt xs) xs.size=ns.sum:=by
  rw[preSum_eq,List.take_of_length_le (by simp),e1]
 rw[e2];exact⟨.int ns.sum,H,I.kept hk,⟨_,rfl⟩,q⟩
def uB (esc:List (Str×NameKind))(XN N:List Str)(cap:List (Option Nat))(scope:Scope)(last:Nat):Bool:=
 (scope.kind== .function)&&scope.names.all (λy=>y.2 != .cell||scope.names.lookup y.1==some .cell)&&scope.names.all (λy=>y.2 != .free||scope.names.lookup y.1==some .free)&&scope.names.all (λy=>y.2 != .local||scope.names.lookup y.1==some .local)&&
 scope.names.all (λy=>y.2 != .free||esc.lookup y.1==some .cell||esc.lookup y.1==some .free)&&
 (N.zip cap).all (λz=>match z.2 with|none=>true|some j=>XN[j]? ==some z.1&&scope.names.contains (z.1,.free)&&scope.names.lookup z.1==some .free)&&
 (cap.length==N.length)&&(match N[last]? with|some x=>(scope.names.lookup x).isNone|none=>true)
theorem cA.of {env:Env}{esc:List (Str×NameKind)}{XN N:List Str}{cap:List (Option Nat)}{scope:Scope}{last:Nat}(he:env.scope.names=esc)(h:uB esc XN N cap scope last=true) :
  cA env XN N cap scope/\ ∀x,N[last]? =some x->scope.names.lookup x=none:=by
 unfold uB at h;simp only[and_eq_true,all_eq_true,beq_iff_eq]at h;obtain⟨⟨⟨⟨⟨⟨⟨h1,h2⟩,h2'⟩,h3⟩,h4⟩,h5⟩,h6⟩,h7⟩:=h;have hk: ∀x,env.kindOf x=esc.lookup x:=λx=>by unfold Env.kindOf;rw[he]
 refine⟨⟨h1,λy hy hl=>by have:=h2 y hy;rw[hl]at this;simpa using this,λy hy hl=>by have:=h2' y hy;rw[hl]at this;simpa using this,λy hy hl=> ?_,λy hy hf=> ?_,λi j x e1 e2=> ?_,h6⟩,λx e=> ?_⟩
 ·have:=h3 y hy;rw[hl]at this
  simpa using this
 ·have:=h4 y hy;rw[hf]at this;rw[hk]
  simpa using this
 ·have hm:(x,some j)∈N.zip cap:=by
   refine mem_of_getElem? (i:=i) ?_
   rw[List.getElem?_zip_eq_some];exact⟨e1,e2⟩
  have:=h5 _ hm;simp only[and_eq_true,beq_iff_eq]at this;obtain⟨⟨a,b⟩,c⟩:=this;exact⟨a,by simpa using b,c⟩
 ·rw[e]at h7
  simpa using h7
end
end L2
namespace M
open PySem PySem.Spec PyProof.Rows L2
section
variable {X:Cx}{K:PySem.W.Frag}{A:AS}{H:Hp}
def pZ:List D->Option (List Bool)
 | []=>some []
 | .bl b::r=>(pZ r).map (b::·)
 | _=>none
def wK:List D->Option (List Int)
 | []=>some []
 | .int b::r=>(wK r).map (b::·)
 | _=>none
theorem vG (bs:List Bool):pZ (bs.map .bl)=some bs:=by
 induction bs with
 | nil=>rfl
 | cons b bs ih=>rw[map_cons];show(pZ (bs.map .bl)).map _=_;rw[ih];rfl
theorem b77 (bs:List Int):wK (bs.map .int)=some bs:=by
 induction bs with
 | nil=>rfl
 | cons b bs ih=>rw[map_cons];show(wK (bs.map .int)).map _=_;rw[ih];rfl
theorem a42: ∀{l:List D} {bs:List Bool} {vs:List V},pZ l=some bs->aQ K A H l vs->vs=bs.map V.bl
 | [],bs,vs,h,r=>by cases h;exact r.unnil
 | d::r,bs,vs,h,q=>by
  obtain⟨v,vr,rfl,rv,rr⟩:=q.uncons;cases d with
  | bl b=>
   have h':(pZ r).map (b::·)=some bs:=h;cases e:pZ r with
   | none=>rw[e]at h';cases h'
   | some bs'=>
    rw[e]at h';cases h';rw[pW rv,a42 e rr];rfl
  | _=>cases h
theorem aG3: ∀{l:List D} {bs:List Int} {vs:List V},wK l=some bs->aQ K A H l vs->vs=bs.map V.int
 | [],bs,vs,h,r=>by cases h;exact r.unnil
 | d::r,bs,vs,h,q=>by
  obtain⟨v,vr,rfl,rv,rr⟩:=q.uncons;cases d with
  | int b=>
   have h':(wK r).map (b::·)=some bs:=h;cases e:wK r with
   | none=>rw[e]at h';cases h'
   | some bs'=>
    rw[e]at h';cases h';rw[aS rv,aG3 e rr];rfl
  | _=>cases h
def bG3:List D->(B->Prop)->Prop:=g1 λd Q=>match d with
 | .lst l=>(match pZ l with
  | some bs=>Q (.pu (.bl (bs.all id)))
  | none=>False)
 | _=>False
theorem aZ2 (hc:X.calm=true):pB X (.builtin "all") bG3:=by
 intro A H ds vs Q0 Q hA r g k;obtain⟨d,v,rfl,rfl,rv,g⟩:=xW g r;cases d with
 | lst l=>
  dsimp only at g;cases e:pZ l with
  | none=>rw[e]at g;exact g.elim
  | some bs=>
   rw[e]at g;simp only[Rep]at rv;obtain⟨a,vs,rfl,n,c,rs⟩:=rv;rw[a42 e rs]at c;exact⟨_,aZ0 hc,a,bs,rfl,SqL.of c,k _ _ H g (.refl _) hG⟩
 | _=>exact(show False from g).elim
def gSum:List D->(B->Prop)->Prop:=g1 λd Q=>match d with
 | .lst l=>(match wK l with
  | some ns=>Q (.pu (.int ns.sum))
  | none=>False)
 | _=>False
theorem cu_sum (hc:X.calm=true):pB X (.builtin "sum") gSum:=by
 intro A H ds vs Q0 Q hA r g k;obtain⟨d,v,rfl,rfl,rv,g⟩:=xW g r;cases d with
 | lst l=>
  dsimp only at g;cases e:wK l with
  | none=>rw[e]at g;exact g.elim
  | some bs=>
   rw[e]at g;simp only[Rep]at rv;obtain⟨a,vs,rfl,n,c,rs⟩:=rv;rw[aG3 e rs]at c;exact⟨_,aZ1 hc,a,bs,rfl,SqL.of c,k _ _ H g (.refl _) wH⟩
 | _=>exact(show False from g).elim
theorem b36 {x:Str}{i:Int}{t:Tok}{p:Pos}(hg:Gl X x)(hm:X.mg x=some (.int i t))(hd:(x==("__debug__":Str))=false:=by decide):PU X (.Name x p) (uC (.int i)):=
 a13 (aI9 (v:= .int i) hg hm ⟨t,rfl⟩ hd) λA H=>by simp only[Rep]
theorem aZ3:bootBuiltins "all"=some (.builtin "all"):=by decide +kernel
theorem bt_sum:bootBuiltins "sum"=some (.builtin "sum"):=by decide +kernel
theorem eY {elt iter tg:Expr}{ifs:List Expr}{scope:Scope}{pos:Pos}{esc:List (Str×NameKind)}{N:List Str}{js:List Nat}{cap:List (Option Nat)}{last:Nat}{ui:UI}{g:UG}{T:List Nat}{tt:UT}{te:UE}{XN:List Str}(he0:X.env.scope.names=esc)(hx0:X.N=XN)(lk:uB esc XN N cap scope last=true)(hl:last<cap.length)(hT:last ∉ T)(hc:X.calm=true)(hi:PUI X tg iter ui)
  (hg: ∀cl C s H fp pins,PUG (aX X N scope cl C s H fp pins) tg T g) (ht: ∀cl C s H fp pins,PTs (aX X N scope cl C s H fp pins) ifs (lT X.K tt)) (he: ∀cl C s H fp pins,PU (aX X N scope cl C s H fp pins) elt te)
  (hs: ∀x,foldedSetIterable iter X.env x=pure x:=by intro _;rfl):PU X (.ListComp elt [⟨tg,iter,ifs,0⟩] scope pos) (eX js cap last ui g tt te):=
 bT6 hc hi (cA.of he0 (hx0▸lk)).1 (cA.of he0 (hx0▸lk)).2 hl hT hg ht he hs
theorem aR4 {elt iter tg:Expr}{ifs:List Expr}{scope:Scope}{pos spos py:Pos}{y:Str}{esc:List (Str×NameKind)}{N:List Str}{js:List Nat}{cap:List (Option Nat)}{last:Nat}{ui:UI}{g:UG}{T:List Nat}{tt:UT}{te:UE}(i:Nat){XN:List Str}(he0:X.env.scope.names=esc)(hx0:X.N=XN)(lk:uB esc XN N cap scope last=true)(hl:last<cap.length)(hT:last ∉ T)(hc:X.calm=true)(hi:PUI X tg iter ui)
  (hg: ∀cl C s H fp pins,PUG (aX X N scope cl C s H fp pins) tg T g) (ht: ∀cl C s H fp pins,PTs (aX X N scope cl C s H fp pins) ifs (lT X.K tt)) (he: ∀cl C s H fp pins,PU (aX X N scope cl C s H fp pins) elt te)
  (hy:PG X (.Name y py) (yU i)) (hi': ∀pins σ H s,Inv X pins σ H s->i<σ.length) (hsw:swapsWith (.ListComp elt [⟨tg,iter,ifs,0⟩] scope pos) (some (.Name y py)) spos.line X.env=pure true:=by rfl)
  (hs: ∀x,foldedSetIterable iter X.env x=pure x:=by intro _;rfl):PUS X (.Assign [.Name y py] (.ListComp elt [⟨tg,iter,ifs,0⟩] scope pos) spos) (b9 i (eX js cap last ui g tt te)):=
 aY9 i hc hi (cA.of he0 (hx0▸lk)).1 (cA.of he0 (hx0▸lk)).2 hl hT hg ht he hy hi' hsw hs
def sJ (te:UE):US:=λD ρ=>te ρ λ_ ρ1=>D.nx ρ1
theorem aK9 {e:Expr}{pos:Pos}{te:UE}(he:PU X e te)(hs:swapsWith e none pos.line X.env=pure false:=by rfl):PUS X (.Expr e pos) (sJ te):=
 kW (aJ1 he hs) λD σ H ⟨C,ρ,D0,I,h,k⟩=>⟨C,ρ,_,I,h,λb ρ1 v H1 q f s r=>k.nx _ _ _ q ((I.frz f).same s)⟩
theorem lY: ∀ds ρ Q,rL ds ρ Q->ds.length=0:=λds ρ Q h=>by rw[h.1];rfl
theorem cB {i n:Nat}{u:UGs}(h: ∀ds ρ Q,u ds ρ Q->ds.length=n): ∀ds ρ Q,dP i u ds ρ Q->ds.length=n+1:=λds ρ Q q=>by
 cases ds with
 | nil=>exact(show False from q).elim
 | cons d r=>rw[length_cons,h r _ Q q.2]
end
theorem Fn.void {P:Program}{w:World}{K:PySem.W.Frag}{mg:Str->Option Value}{base:Heap}{x qual:Str}{st:Stmt}{f:Addr}{fd:FuncData}{ps:List Str}{φ:Φ}(F:Fun K x qual st f fd)(m:mg x=some (.ref f))(b:Binds K fd ps [])(h: ∀ds Q,¬φ ds Q):Fn P w K mg base x ps 1 φ:=
 ⟨f,fd,⟨λvs H Q E ⟨_,ds,Q0,_,_,z,_⟩=>absurd z (h ds Q0),λA outer s H args us vs Q E _ _ _ _ ⟨_,ds,Q0,_,_,z,_⟩=>absurd z (h ds Q0)⟩,b,F.kp,m⟩
end M
end
section
namespace HT
open PySem PyProof.Rows
end HT
namespace L2
open PySem PySem.Spec PyProof.Rows
end L2
namespace M
open PySem PySem.Spec PyProof.Rows L2
section
variable {X:Cx}{K:PySem.W.Frag}{A:AS}{H:Hp}{e e3:Expr}{t3:UE}{pos p2:Pos}
def gRev (d:D)(Q:B->Prop):Prop:=match d with
 | .tup l=>Q (.pu (.tup l.reverse))
 | _=>False
def uRev (t:UV)(t3:UE):UE:=λρ Q=>t ρ λd ρ1=>t3 ρ1 λb ρ2=>b.d= .int (-1)/\gRev d λb=>Q b ρ2
def gIn (neg:Bool)(d e:D)(Q:B->Prop):Prop:= ∃(i:Int) (js:List Int),d= .int i/\(e= .tup (js.map D.int)\/e= .lst (js.map D.int)\/e= .rol (js.map D.int))/\Q (.pu (.bl (neg ^^ decide (i∈js))))
theorem aQ.unints: ∀{js:List Int} {vs:List V},aQ K A H (js.map D.int) vs->vs=js.map V.int
 | [],_,h=>by simp only[map_nil,aQ]at h;exact h
 | j::js,vs,h=>by
  simp only[map_cons,aQ]at h;obtain⟨v,vr,rfl,r,rs⟩:=h;rw[aS r,aQ.unints rs];rfl
theorem bG4 (i:Int)(js:List Int):inV (.int i) (js.map V.int)=decide (i∈js):=by
 unfold inV
 induction js with
 | nil=>rfl
 | cons j js ih=>
  rw[map_cons,any_cons,ih];show((j==i)||decide (i∈js))=decide (i∈j::js)
  by_cases h:j=i
  ·subst h;simp
  ·have h': ¬i=j:=λz=>h z.symm
   simp[h,h']
theorem y3 (js:List Int):(js.map V.int).all wE=true:=by
 induction js with
 | nil=>rfl
 | cons j js ih=>rw[map_cons,all_cons,ih];rfl
theorem ou_inG {neg:Bool}{op:Value->Value->Sem Value}(ho:OpR X op (rIn X.K neg)):OpU X op (gIn neg):=by
 intro A H d e v w Q0 Q hA r1 r2 g k;obtain⟨i,js,rfl,he,g⟩:=g;have e1:=aS r1;subst e1;have fin:Q (.bl (if neg=true then !inV (.int i) (js.map V.int)else inV (.int i) (js.map V.int))) H:=by
  rw[bG4];refine k _ _ H g (.refl _) ?_;cases neg
  ·rw[if_neg (by decide),false_xor];exact hG
  ·rw[if_pos rfl,true_xor];exact hG
 rcases he with rfl|rfl|rfl
 ·simp only[Rep]at r2;obtain⟨a,vs,rfl,c,rs⟩:=r2;have:=rs.unints;subst this;exact⟨_,ho,a,_,rfl,.inr (c.imp And.right id),rfl,y3 js,fin⟩
 ·simp only[Rep]at r2;obtain⟨a,vs,rfl,n,c,rs⟩:=r2;have:=rs.unints;subst this;exact⟨_,ho,a,_,rfl,.inl (SqL.of c),rfl,y3 js,fin⟩
 ·simp only[Rep]at r2;obtain⟨a,vs,rfl,c,rs⟩:=r2;have:=rs.unints;subst this;exact⟨_,ho,a,_,rfl,.inl (c.imp And.right id),rfl,y3 js,fin⟩
theorem bG5:OpU X (compareOp .NotIn) (gIn true):=ou_inG aJ6
end
end M
end
section
namespace L2
open PySem PySem.Spec PyProof.Rows
def Itd (lo:Int)(n:Nat):It:={go:=λi _=>i<n,yld:=λi H x H'=>H'=H/\x=V.int (lo-(i:Int)),stop:=λi _=>n<=i}
theorem b78 {P:Program}{w:World}{K:PySem.W.Frag}{tg:Expr}(it:Addr)(lo:Int)(n:Nat):aW8 P w K tg (Itd lo n) [it] it (λi h=>IsRangeIter h it (lo+(i:Nat)*(-1)) ((n:Int)-(i:Nat)) (-1)) where
 mem:=by simp
 obj:=λi h st b hb=>by
  have e:b=it:=by simpa using hb
  subst e;exact⟨_,st,λv z=>by
   have z':Data.fields _=Data.cell v:=z;cases z'⟩
 keep:=λi h h' st k=>k it (by simp) _ st
 item:=by
  intro X hP hw hK hc i pins s σ H E I hf st hg;subst hP hw hK;obtain⟨f0,f1,f2,f3,f4,f5⟩:=hf it (by simp)
  have W:=Walks.range (prog:=X.prog) (w:=X.w) (I.ok.hd hc) it lo (-1) n;refine W.item i s _ _ hg st λv h' tk hv st' kk=> ?_
  obtain⟨t,rfl⟩:=hv;have I1:Inv X pins σ H {s with heap:=h',toks:=tk}:=I.turned (λb o hb e=>kk b o (by simpa using hb) e) f0 f1 f3 f4 f5
  refine⟨_,rfl,aP9 (s:={s with heap:=h',toks:=tk}) (n:="range_iterator") st' rfl rfl (by decide) ⟨.int (lo-i),H,I1,⟨t,?_⟩,⟨rfl,rfl⟩,st',λb hb=>(hf b hb).1⟩⟩
  rw[show lo+((i:Nat):Int)*(-1)=lo-(i:Int)by lia]
 done:=by
  intro X hP hw hK hc i pins s σ H E I hf st hg;subst hP hw hK;obtain⟨f0,f1,f2,f3,f4,f5⟩:=hf it (by simp)
  exact wpAny_pyNext_range_end (I.ok.hd hc) st (by have:n<=i:=hg;lia) λh' eb=>⟨rfl,I.turned (t':=s.toks) (λb o hb e=>eb b o hb e) f0 f1 f3 f4 f5⟩
 self:=λ_ _ _ _ _ st h=>wpAny_pyIter_rangeiter st h
end L2
namespace M
open PySem PySem.Spec PyProof.Rows L2
section
variable {X:Cx}{K:PySem.W.Frag}{H:Hp}{pos:Pos}
theorem b79 {A:AS}{lo:Int}{n:Nat}:aY4 K A H (Itd lo n) n (λi=> .int (lo-i)):=
 ⟨λ_ _ _ _ h=>h,λ_ _ i x H'' _ _ _ ⟨e,y⟩=>by subst e;subst y;exact⟨.refl _,by simp only[Rep]⟩,λ_ _ _=>le_refl n⟩
def uRngD (ta:UA):UI:=λρ Q=>ta ρ λds ρ1=>match ds with
 | [.int i,.int j,.int m]=>m= -1/\(-(2^31)<=i/\i<2^31/\ -(2^31)<=j/\j<2^31)/\Q (i-j).toNat (λk=> .int (i-k)) ρ1
 | _=>False
end
end M
end
section
namespace L2
open PySem PySem.Spec PyProof.Rows
section
variable {X:Cx}{pins:List (Addr×Obj)}{σ:St}{H:Hp}{s:Shared}{h':Heap}
theorem Inv.turnedNew {t':Nat}{ch:List Addr}{a:Addr}{o:HO}(I:Inv X pins σ H s)(k: ∀b u,b ∉ ch->s.heap.get? b=some u->h'.get? b=some u)(hf: ∀b∈ch,xQ X pins H b)
  (hp:s.heap.objs.size<=a) (new:jB X.prog X.w (upd H a o) h' a o):Inv X pins σ (upd H a o) {s with heap:=h',toks:=t'}:=by
 have hn:H a=none:=I.hok.fresh hp;have nch: ∀b u,H b=some u->b ∉ ch:=λb u e z=>by have:=(hf b z).1;rw[e]at this;cases this
 refine I.step (g':=s.gens) (d':=s.drawn) (ch:=ch) (λb hb=>⟨(hf b hb).2.2.2.1,(hf b hb).2.1,(hf b hb).2.2.2.2.1,(hf b hb).2.2.2.2.2⟩) (λb u _ _ hc e _=>k b u hc e) (λb u _ _ hc e _=>⟨u.slots,k b u hc e⟩)
  (λb u _ e n=>by rw[aT (ne_of_lt (lt_of_lt_of_le (lt_size e) hp))];exact n) (λb u hc e=>⟨u,k b u hc e⟩)
  (λb xs e=>by rw[aT (b4 e hn)];exact e) (λb ob u e=>by rw[aT (b4 e hn)];exact e) (λb ps e=>⟨#[],by rw[aT (b4 e hn),e];simp⟩) (λm hm=> ?_) (λb u e=> ?_) I.bare
 ·obtain⟨ob,es,ep,ho,r⟩:=hm;exact⟨ob,es,ep,k _ ob (λz=>(hf _ z).2.1 rfl) ho,r⟩
 ·by_cases hb:b=a
  ·subst hb;rw[dS]at e;cases e;exact new
  ·rw[aT hb]at e;refine(I.hok b u e).stay (λc v hc q=>k c v ?_ q) (λc q=>by rw[aT (b4 q hn)];exact q) λc xs q=>by rw[aT (b4 q hn)];exact q
   rcases hc with z|z
   ·rw[z];exact nch b u e
   ·exact nch c _ z
theorem Inv.turnedL {t':Nat}{ch:List Addr}(I:Inv X pins σ H s)(k: ∀b u,b ∉ ch->s.heap.get? b=some u->h'.get? b=some u)(hf: ∀b∈ch,xQ X pins H b):Inv X pins σ H {s with heap:=h',toks:=t'}:=by
 have nch: ∀b u,H b=some u->b ∉ ch:=λb u e z=>by have:=(hf b z).1;rw[e]at this;cases this
 refine I.step (g':=s.gens) (d':=s.drawn) (ch:=ch) (λb hb=>⟨(hf b hb).2.2.2.1,(hf b hb).2.1,(hf b hb).2.2.2.2.1,(hf b hb).2.2.2.2.2⟩) (λb u _ _ hc e _=>k b u hc e) (λb u _ _ hc e _=>⟨u.slots,k b u hc e⟩)
  (λb u _ e n=>n) (λb u hc e=>⟨u,k b u hc e⟩) (λb xs e=>e) (λb ob u e=>e) (λb ps e=>⟨#[],by rw[e];simp⟩) (λm hm=> ?_) (λb u e=> ?_) I.bare
 ·obtain⟨ob,es,ep,ho,r⟩:=hm;exact⟨ob,es,ep,k _ ob (λz=>(hf _ z).2.1 rfl) ho,r⟩
 ·refine(I.hok b u e).stay (λc v hc q=>k c v ?_ q) (λc q=>q) λc xs q=>q
  rcases hc with z|z
  ·rw[z];exact nch b u e
  ·exact nch c _ z
end
def zS (T:Bool)(h:Heap)(a:Addr)(xs:Array Value):Prop:=match T with
 | false=>h.IsList a xs
 | true=>h.IsTuple a xs
def rZ (T:Bool)(h:Heap)(it a:Addr)(i:Nat):Prop:=match T with
 | false=>h.IsListIter it a i
 | true=>h.IsTupleIter it a i
def zC (T:Bool)(a:Addr):Obj:=match T with
 | false=>{cls:= .type "list_iterator",data:= .fields #[.ref a,.int 0 0]}
 | true=>{cls:= .type "tuple_iterator",data:= .fields #[.ref a,.int 0 0]}
def SqV (K:PySem.W.Frag)(T:Bool)(H:Hp)(a:Addr)(xs:List V):Prop:=match T with
 | false=>SqL K H a xs
 | true=>SqT K H a xs
theorem zS.at {T:Bool}{h h':Heap}{a:Addr}{xs:Array Value}(x:zS T h a xs)(e: ∀o,h.get? a=some o->h'.get? a=some o):zS T h' a xs:=by
 cases T<;>(obtain⟨o,ho,r⟩:=x;exact⟨o,e o ho,r⟩)
theorem rZ.at {T:Bool}{h h':Heap}{it a:Addr}{i:Nat}(x:rZ T h it a i)(e: ∀o,h.get? it=some o->h'.get? it=some o):rZ T h' it a i:=by
 cases T<;>(obtain⟨o,ho,r⟩:=x;exact⟨o,e o ho,r⟩)
theorem zS.lt {T:Bool}{h:Heap}{a:Addr}{xs:Array Value}(x:zS T h a xs):a<h.objs.size:=by
 cases T<;>(obtain⟨o,ho,r⟩:=x;exact lt_size ho)
theorem rZ.lt {T:Bool}{h:Heap}{it a:Addr}{i:Nat}(x:rZ T h it a i):it<h.objs.size:=by
 cases T<;>(obtain⟨o,ho,r⟩:=x;exact lt_size ho)
theorem rZ.rec' {T:Bool}{h:Heap}{it a:Addr}{i:Nat}(x:rZ T h it a i): ∃o,h.get? it=some o/\ ∀v,o.data≠ .cell v:=by
 cases T<;>(obtain⟨o,ho,hc,hd⟩:=x;exact⟨o,ho,λv z=>by rw[hd]at z;cases z⟩)
theorem rZ.new {T:Bool}(h:Heap)(a:Addr):rZ T (h.push (zC T a)) h.objs.size a 0:=by
 cases T<;>exact⟨_,get?_push_size _ rfl,rfl,rfl⟩
section
variable {X:Cx}{pins:List (Addr×Obj)}{σ:St}{H:Hp}{s:Shared}
theorem Inv.sq {T:Bool}{a:Addr}{xs:List V}(I:Inv X pins σ H s)(h:SqV X.K T H a xs): ∃its:List Value,Vals xs its/\zS T s.heap a its.toArray/\xs.length<=sizeLine:=by
 cases T with
 | false=>obtain⟨its,rv,p,hz⟩:=I.list h;exact⟨its,rv,p.isList,hz⟩
 | true=>obtain⟨its,rv,p,hz⟩:=I.tuple h;exact⟨its,rv,p,hz⟩
theorem Inv.sq_inj {T:Bool}{a:Addr}{xs ys:List V}(I:Inv X pins σ H s)(h:SqV X.K T H a xs)(h':SqV X.K T H a ys):xs=ys:=by
 cases T with
 | false=>exact I.list_inj h h'
 | true=>exact I.tuple_inj h h'
end
section
variable {prog:Program}{w:World}{A:Around}{E:Value->Shared->Prop}{s:Shared}
theorem aG4 {T:Bool}{a:Addr}{xs:Array Value}{Q:Value->Shared->Prop}(hl:zS T s.heap a xs)(hQ:Q (.ref s.heap.objs.size) {s with heap:=s.heap.push (zC T a)}) :
  wpAny (model prog w) A (pyIter (.ref a)) Q E s:=by
 cases T with
 | false=>exact wpAny_pyIter_list hl hQ
 | true=>exact wpAny_pyIter_tuple hl hQ
theorem bG6 {it t:Addr}{i:Nat}{items:Array Value}{x:Value}{Q:Value->Shared->Prop}(hit:s.heap.IsTupleIter it t i)(ht:s.heap.IsTuple t items)(hx:items[i]? =some x)
  (hQ: ∀h',h'.IsTupleIter it t (i+1)->SameBut it s.heap h'->Q x {s with heap:=h'}):wpAny (model prog w) A (Builtin.SmallTypes.nextOf (.ref it)) Q E s:=by
 obtain⟨oi,hoi,hci,hdi⟩:=id hit;obtain⟨ot,hot,_,nt,hdt⟩:=ht;unfold Builtin.SmallTypes.nextOf;refine wpAny_bind (wpAny_callSpecial?_slot (name:=Str.ofString "__next__") hit.typeIs PySem.F.slot_tuple_iterator_next (wpAny_call_entry PySem.F.slot_tuple_iterator_next hit.typeIs PySem.F.entry_tuple_iterator_next ?_ (PySem.F.args_tuple_iterator_next_1 _)))
 show wpAny _ _ (field (.ref it) 0 >>= _) _ _ s;refine wpAny_bind (wpAny_field hoi hdi (x:= .ref t) rfl ?_)
 show wpAny _ _ (if(Value.ref t==Value.none)=true then _ else _) _ _ s;rw[if_neg (show ¬((Value.ref t==Value.none)=true)from Bool.false_ne_true)]
 show wpAny _ _ (field (.ref it) 1 >>= _) _ _ s;refine wpAny_bind (wpAny_field hoi hdi (x:= .int i 0) rfl ?_)
 show wpAny _ _ (seqItems? (.ref t) >>= _) _ _ s;refine wpAny_bind (wpAny_seqItems hot hdt ?_)
 simp only[toNat_natCast,hx];refine wpAny_bind (wpAny_setField hoi hdi (by simp) (wpAny_pure ⟨x,rfl,wpAny_pure (hQ _ ⟨_,get?_update_self _ hoi (Obj.isFreed_of_fields (Obj.data_mapFields hdi _)),(Obj.cls_mapFields ..).trans hci,?_⟩ (Heap.SameBut.update ..))⟩))
 rw[Obj.data_mapFields hdi];simp[rawInt]
theorem b80 {it t:Addr}{i:Nat}{items:Array Value}{Q:Value->Shared->Prop}(hh:A.handled=none)(hit:s.heap.IsTupleIter it t i)(ht:s.heap.IsTuple t items)(hx:items[i]? =none)
  (hE: ∀h' e,ExtBut it s.heap h'->(∃o,h'.get? e=some o/\o.cls= .type "StopIteration")->E (.ref e) {s with heap:=h'}):wpAny (model prog w) A (Builtin.SmallTypes.nextOf (.ref it)) Q E s:=by
 obtain⟨oi,hoi,hci,hdi⟩:=id hit;obtain⟨ot,hot,_,nt,hdt⟩:=ht;unfold Builtin.SmallTypes.nextOf;refine wpAny_bind (wpAny_callSpecial?_slot (name:=Str.ofString "__next__") hit.typeIs PySem.F.slot_tuple_iterator_next (wpAny_call_entry PySem.F.slot_tuple_iterator_next hit.typeIs PySem.F.entry_tuple_iterator_next ?_ (PySem.F.args_tuple_iterator_next_1 _)))
 show wpAny _ _ (field (.ref it) 0 >>= _) _ _ s;refine wpAny_bind (wpAny_field hoi hdi (x:= .ref t) rfl ?_)
 show wpAny _ _ (if(Value.ref t==Value.none)=true then _ else _) _ _ s;rw[if_neg (show ¬((Value.ref t==Value.none)=true)from Bool.false_ne_true)]
 show wpAny _ _ (field (.ref it) 1 >>= _) _ _ s;refine wpAny_bind (wpAny_field hoi hdi (x:= .int i 0) rfl ?_)
 show wpAny _ _ (seqItems? (.ref t) >>= _) _ _ s;refine wpAny_bind (wpAny_seqItems hot hdt ?_)
 simp only[toNat_natCast,hx];refine wpAny_bind (wpAny_rule (wpAny_bind (wpAny_setField hoi hdi (by simp) ?_)))
 show wpAny _ _ (newExc (.type "StopIteration") [] >>= _) _ _ _;refine wpAny_bind ?_;simp only[newExc,newTuple];refine wpAny_bind (wpAny_newObj_type ?_ (by size_fits))
 refine wpAny_bind (m:=firstArgMember _ _) (wpAny_of_eq (a:=Value.none) (by first|rfl| (simp only[firstArgMember];rfl)) ?_);refine wpAny_newObj_type ?_ (by size_fits)
 simp only[raiseNew];refine wpAny_bind (wpAny_handled ?_);first|rw[show A.in1.handled=none from hh]|rw[hh]
 exact wpAny_bind (wpAny_pure (wpAny_throw (hE _ _ (((Heap.SameBut.update ..).extBut.push _).push _) ⟨_,get?_push_size _ rfl,rfl⟩)))
theorem bT8 {T:Bool}{it a:Addr}{i:Nat}{xs:Array Value}{x:Value}{Q:Value->Shared->Prop}(hit:rZ T s.heap it a i)(hl:zS T s.heap a xs)(hx:xs[i]? =some x)
  (hQ: ∀h',rZ T h' it a (i+1)->SameBut it s.heap h'->Q x {s with heap:=h'}):wpAny (model prog w) A (Builtin.SmallTypes.nextOf (.ref it)) Q E s:=by
 cases T with
 | false=>exact wpAny_nextOf_list_item hit hl hx hQ
 | true=>exact bG6 hit hl hx hQ
theorem bG7 {T:Bool}{it a:Addr}{i:Nat}{xs:Array Value}{Q:Value->Shared->Prop}(hh:A.handled=none)(hit:rZ T s.heap it a i)(hl:zS T s.heap a xs)(hx:xs[i]? =none)
  (hE: ∀h' e,ExtBut it s.heap h'->(∃o,h'.get? e=some o/\o.cls= .type "StopIteration")->E (.ref e) {s with heap:=h'}):wpAny (model prog w) A (Builtin.SmallTypes.nextOf (.ref it)) Q E s:=by
 cases T with
 | false=>exact wpAny_nextOf_list_end hh hit hl hx hE
 | true=>exact b80 hh hit hl hx hE
end
structure ZSt (T1 T2:Bool)(z TI TO i1 i2 l1 l2:Addr)(f0:Value)(i:Nat)(h:Heap):Prop where
 hz:IsZip h z TI TO f0
 hI:IsPair h TI (.ref i1) (.ref i2)
 hO: ∃a b,IsPair h TO a b
 h1:rZ T1 h i1 l1 i
 h2:rZ T2 h i2 l2 i
theorem ZSt.objs {T1 T2:Bool}{z TI TO i1 i2 l1 l2:Addr}{f0:Value}{i:Nat}{h:Heap}(st:ZSt T1 T2 z TI TO i1 i2 l1 l2 f0 i h): ∀b∈[z,TI,TO,i1,i2],∃o,h.get? b=some o/\ ∀v,o.data≠ .cell v:=λb hb=>by
 obtain⟨hz,hI,⟨a,c,hO⟩,h1,h2⟩:=st;simp only[mem_cons,not_mem_nil,or_false]at hb;rcases hb with rfl|rfl|rfl|rfl|rfl
 ·exact⟨_,hz,λv q=>by cases q⟩
 ·exact⟨_,hI,λv q=>by cases q⟩
 ·exact⟨_,hO,λv q=>by cases q⟩
 ·exact h1.rec'
 ·exact h2.rec'
theorem bG8:2<=sizeLine:=by decide
theorem aR5 {prog:Program}{w:World}{A:Around}{T:Bool}(hh:A.handled=none)(it a:Addr)(hne:a≠it)(xs:Array Value):Draws prog w A it [it,a] xs.size (λi v=>xs[i]? =some v) (λi h=>rZ T h it a i/\zS T h a xs) where
 live:=λ_ _ st=>let ⟨o,ho,_⟩:=st.1.rec';⟨o,ho⟩
 frame:=λ_ _ _ st k=>⟨st.1.at λo e=>k it (by simp) o e,st.2.at λo e=>k a (by simp) o e⟩
 item:=λi s Q E hi st hQ=>bT8 st.1 st.2 (x:=xs[i]) (by simp[hi]) λh' hit' m=>hQ _ h' s.toks (by simp[hi]) ⟨hit',st.2.at λo e=>m.extBut _ _ hne e⟩ m
 done:=λs Q E st hE=>bG7 hh st.1 st.2 (by simp) hE
def Ite (K:PySem.W.Frag)(T:Bool)(l:Addr):It where
 go:=λi H=> ∃xs x,SqV K T H l xs/\xs[i]? =some x
 yld:=λi H v H'=> ∃Tn x,v= .ref Tn/\H Tn=none/\H'=upd H Tn (.tup [.int (i:Int),x])/\ ∀xs,SqV K T H l xs->xs[i]? =some x
 stop:=λi H=> ∃xs,SqV K T H l xs/\xs.length=i
def ESt (T:Bool)(e it l:Addr)(i:Nat)(h:Heap):Prop:=(∃old,IsEnum h e it i old)/\rZ T h it l i
theorem ESt.objs {T:Bool}{e it l:Addr}{i:Nat}{h:Heap}(st:ESt T e it l i h): ∀b∈[e,it],∃o,h.get? b=some o/\ ∀v,o.data≠ .cell v:=λb hb=>by
 obtain⟨⟨old,he⟩,h1⟩:=st;simp only[mem_cons,not_mem_nil,or_false]at hb;rcases hb with rfl|rfl
 ·exact⟨_,he,λv q=>by cases q⟩
 ·exact h1.rec'
theorem b81 {P:Program}{w:World}{K:PySem.W.Frag}{elts:List Expr}{kt:Nat}{tp:Pos}{T:Bool}{e it l:Addr}(hei:e≠it)(nl:l ∉ [e,it]):aW8 P w K (.Tuple elts kt tp) (Ite K T l) [e,it] e (ESt T e it l) where
 mem:=by simp
 obj:=λi h st b hb=>st.objs b hb
 keep:=λi h h' st k=>by
  obtain⟨⟨old,he⟩,h1⟩:=st;exact⟨⟨old,k e (by simp) _ he⟩,h1.at λo q=>k it (by simp) o q⟩
 item:=by
  intro X hP hw hK hc i pins s σ H E I hf st hg;subst hP hw hK;obtain⟨xs,x,q1,e1⟩:=hg;obtain⟨is1,r1,p1,_⟩:=I.sq q1;obtain⟨u1,hu1,ru1⟩:=r1.get e1;simp only[mem_cons,not_mem_nil,or_false,not_or]at nl;obtain⟨⟨old,he⟩,h1⟩:=id st;have hi:i<is1.toArray.size:=by rw[size_toArray];exact(List.getElem?_eq_some_iff.mp hu1).1
  have D:=aR5 (prog:=X.prog) (w:=X.w) (A:=X.A.in1) (T:=T) (I.ok.hd hc) it l nl.2 is1.toArray;refine wpAny_pyNext_enum_itemD D he ⟨h1,p1⟩ hi hei (by simp[hei,Ne.symm nl.1]) λv h' tk hv ho hs' ht hsz k=>⟨_,rfl,wpAny_letOwnedTupleGo_enum ho λh2 he2 m=> ?_⟩
  have ev:v=u1:=by
   have:is1.toArray[i]? =some u1:=by simpa using hu1
   rw[this]at hv;cases hv;rfl
  subst ev;have hne:s.heap.objs.size≠e:=ne_of_gt (lt_size he);have kk: ∀b u,b ∉ [e,it]->s.heap.get? b=some u->h2.get? b=some u:=λb u nb q=>by
   simp only[mem_cons,not_mem_nil,or_false,not_or]at nb;exact m.extBut _ _ nb.1 (k b u nb.1 nb.2 q)
  have ht2:h2.get? s.heap.objs.size=some {cls:= .type "tuple",data:= .seq #[.int i tk,v]}:=m.extBut _ _ hne ht;refine⟨.ref s.heap.objs.size,upd H s.heap.objs.size (.tup [.int (i:Int),x]),I.turnedNew (t':=tk+1) kk hf (le_refl _) ⟨bG8,[.int i tk,v],.cons ⟨tk,rfl⟩ (.cons ru1 .nil),⟨_,ht2,rfl,_,rfl⟩⟩,rfl,
   ⟨_,x,rfl,I.hok.fresh (le_refl _),rfl,λxs' q=>by rw[I.sq_inj q q1];exact e1⟩,⟨⟨_,by simpa using he2⟩,hs'.1.at λo q=>m.extBut _ _ (Ne.symm hei) q⟩,λb hb=> ?_⟩
  obtain⟨o,ho',_⟩:=st.objs b hb;rw[aT (ne_of_lt (lt_size ho'))];exact(hf b hb).1
 done:=by
  intro X hP hw hK hc i pins s σ H E I hf st hg;subst hP hw hK;obtain⟨xs,q1,hl⟩:=hg;obtain⟨is1,r1,p1,_⟩:=I.sq q1;have l1':=r1.length;simp only[mem_cons,not_mem_nil,or_false,not_or]at nl;obtain⟨⟨old,he⟩,h1⟩:=id st;have D:=aR5 (prog:=X.prog) (w:=X.w) (A:=X.A.in1) (T:=T) (I.ok.hd hc) it l nl.2 is1.toArray
  refine wpAny_pyNext_enum_endD D he ⟨by rw[size_toArray,<-l1',hl];exact h1,p1⟩ λh' ex=>⟨rfl,I.turnedL (t':=s.toks) (λb u nb q=>ex b u (λz=>nb (by simp[z])) q) hf⟩
 self:=λ_ _ _ _ _ st h=>by
  obtain⟨⟨old,he⟩,_⟩:=st;exact wpAny_pyIter_enum he h
theorem b82 (l:Addr)(xs:Array Value):Meets (Builtin.«enumerate.__new__» ⟨[.type "enumerate",.ref l],[]⟩) (λ_ R s=>s.heap.IsTuple l xs/\
  R (.ok (.ret (.ref (s.heap.push (zC true l)).objs.size))) {s with heap:=(s.heap.push (zC true l)).push {cls:= .type "enumerate",data:= .fields #[.none,.bool false,.ref s.heap.objs.size,rawInt 0,.none,.none]}}):= .of_wp λprog w A R s h=>by
 obtain⟨hp,g,d,tk,os⟩:=s;obtain⟨hl,h⟩:=h;obtain⟨⟨c,dct,dt,sl⟩,hg,hc,n,hd⟩:=id hl
 replace hc:c= .type "tuple":=hc
 replace hd:dt= .seq xs n:=hd
 subst hc hd;have hsub:=sub_enumerate;have e1:zS true (Shared.heap ⟨hp,g,d,tk,os⟩) l xs:=hl
 wp_walk using AutoSeq1.wpAny_loadPart' hg
 refine wpAny_stack_any λst=>wpAny_pure ?_
 split
 ·rename_i c _ _ _ _ _
  cases (c==Value.type "enumerate")<;>(wp_walk using AutoSeq1.wpAny_loadPart' hg,aG4 e1;exact⟨_,rfl,h⟩)
 ·wp_walk using AutoSeq1.wpAny_loadPart' hg,aG4 e1
  exact⟨_,rfl,h⟩
section
variable {prog:Program}{w:World}{A:Around}{E:Value->Shared->Prop}{s:Shared}
theorem b83 {T:Bool}{l:Addr}{xs:Array Value}{Q:Value->Shared->Prop}(hl:zS T s.heap l xs)
  (h: ∀h' e it,e≠it->s.heap.objs.size<=e->s.heap.objs.size<=it->ESt T e it l 0 h'->(∀c o,s.heap.get? c=some o->h'.get? c=some o)->Q (.ref e) {s with heap:=h'}) :
  wpAny (model prog w) A (call (.type "enumerate") [.ref l]) Q E s:=by
 cases T with
 | false=>exact call_enumerate_list hl λh' he hit hsz k=>h h' _ _ (by omega) (by omega) (by omega) ⟨⟨_,he⟩,hit⟩ k
 | true=>
  refine callType_new PySem.F.called_enumerate (by decide) (PySem.F.typeCall_enumerate_1 _) (PySem.F.newCall_enumerate_1 _) (λobj=>PySem.F.args_object_init_2 obj _) PySem.F.entry_enumerate_new (b82 l xs) ⟨hl,?_⟩
  have z1:(s.heap.push (zC true l)).objs.size=s.heap.objs.size+1:=size_push ..;have he:IsEnum ((s.heap.push (zC true l)).push {cls:= .type "enumerate",data:= .fields #[.none,.bool false,.ref s.heap.objs.size,rawInt 0,.none,.none]}) (s.heap.push (zC true l)).objs.size s.heap.objs.size 0 .none:=get?_push_size _ rfl
  have hi:rZ true ((s.heap.push (zC true l)).push {cls:= .type "enumerate",data:= .fields #[.none,.bool false,.ref s.heap.objs.size,rawInt 0,.none,.none]}) s.heap.objs.size l 0:=(rZ.new (T:=true) s.heap l).at λo e=>get?_push_of_some _ e
  exact⟨⟨_,he,rfl⟩,h _ _ _ (by rw[z1];omega) (by rw[z1];omega) (le_refl _) ⟨⟨_,he⟩,hi⟩ λc o e=>get?_push_of_some _ (get?_push_of_some _ e)⟩
end
section
variable {X:Cx}
def iEnum (K:PySem.W.Frag)(ta:TA):TI:=λσ H R=>ta σ H λvs H1=> ∃l T xs,vs=[.ref l]/\SqV K T H1 l xs/\R (Ite K T l) H1
theorem bT9 {a:Expr}{elts:List Expr}{kt:Nat}{tp:Pos}{ta:TA}{p pos:Pos}(hg:Gl X "enumerate")(hm:X.mg "enumerate"=none)(ha:PA X [a] ta)(hs:starEach [a] X.env=[(false,eval a X.env)]:=by rfl) :
  PI X (.Tuple elts kt tp) (.Call (.Name "enumerate" p) [a] [] pos) (iEnum X.K ta):=by
 intro pins s σ H R I h;refine Call_ (pQ I hg hm PyProof.Rows.boot_enumerate (PyProof.Rows.callWith_type1 (thn (ha pos pins s σ H _ I h) λus s1 ⟨vs,H1,I1,r1,q1⟩=> ?_) hs rfl))
 obtain⟨l,T,xs,e,q1,q⟩:=q1;subst e;obtain⟨u,rfl,r⟩:=vals1 r1;cases r;obtain⟨is1,_,p1,_⟩:=I1.sq q1;refine b83 p1 λh' e it ne f1 f2 st k=> ?_
 obtain⟨⟨old,he⟩,_⟩:=id st;refine wpAny_pyIter_enum he ?_;have lt:=p1.lt;have fr: ∀b∈[e,it],s1.heap.objs.size<=b:=λb hb=>by
  simp only[mem_cons,not_mem_nil,or_false]at hb;rcases hb with rfl|rfl
  ·exact f1
  ·exact f2
 exact⟨e,[e,it],_,_,H1,rfl,I1.kept (t':=s1.toks) k,b81 ne (λhb=>absurd (lt_of_lt_of_le lt (fr l hb)) (lt_irrefl _)),st,λb hb=>I1.fpOk (fr b hb) (I1.hok.fresh (fr b hb)),q⟩
end
end L2
end
section
namespace L2
open PySem PySem.Spec PyProof.Rows
theorem zT:isSubtype (.type "range_iterator") (.type "reversed")=pure false:=by rw[isSubtype_type];kernel_rfl
theorem y4 {n:Int}(h1: -(2^31)<=n)(h2:n<2^31):Builtin.Range.rangeFitsLong n=true:=by
 simp[Builtin.Range.rangeFitsLong]
 lia
def wL (n:Int):Obj:={cls:= .type "range_iterator",data:= .fields #[rawInt ((n.toNat:Int)-1),rawInt (n.toNat:Int),rawInt (-1)]}
theorem aB9 (r:Addr)(a b c:Int)(t u v:Tok)(hc0: ¬(!(Builtin.Range.rangeFitsLong a&&Builtin.Range.rangeFitsLong b&&Builtin.Range.rangeFitsLong c&&Builtin.Range.rangeFitsLong (-c)&&Builtin.Range.rangeFitsLong (a-c)&&Builtin.Range.rangeFitsLong (Builtin.Range.rangeSize a b c)))=true) :
  Meets (Builtin.«range.__reversed__» ⟨[.ref r],[]⟩) (λ_ R s=>s.heap.get? r=some {cls:= .type "range",dict:=none,data:= .fields #[.int a t,.int b u,.int c v],slots:= #[]}/\
  R (.ok (.ret (Value.ref s.heap.objs.size))) {s with heap:=s.heap.push {cls:=Value.type (if(Builtin.Range.rangeFitsLong a&&Builtin.Range.rangeFitsLong b&&Builtin.Range.rangeFitsLong c&&Builtin.Range.rangeFitsLong (-c)&&Builtin.Range.rangeFitsLong (a-c)&&Builtin.Range.rangeFitsLong (Builtin.Range.rangeSize a b c))=true then "range_iterator" else "longrange_iterator"),data:=Data.fields #[rawInt (a+(Builtin.Range.rangeSize a b c-1)*c),rawInt (Builtin.Range.rangeSize a b c),rawInt (-c)]},toks:=s.toks}):= .of_wp λprog w A R s h=>by
 obtain⟨hp,g,d,tk,os⟩:=s;obtain⟨hl,h⟩:=h
 wp_walk
 exact⟨_,rfl,h⟩
theorem zU (r:Addr)(n:Int)(t u v:Tok)(h1: -(2^31)<=n)(h2:n<2^31):Meets (Builtin.«range.__reversed__» ⟨[.ref r],[]⟩) (λ_ R s=>IsRange s.heap r 0 n 1 t u v/\
  R (.ok (.ret (.ref s.heap.objs.size))) {s with heap:=s.heap.push (wL n)}):=by
 have e0:Builtin.Range.rangeSize 0 n 1=(n.toNat:Int):=by rw[rangeSize_one];split<;>lia
 have sm:(Builtin.Range.rangeFitsLong 0&&Builtin.Range.rangeFitsLong n&&Builtin.Range.rangeFitsLong 1&&Builtin.Range.rangeFitsLong (-1)&&Builtin.Range.rangeFitsLong (0-1)&&Builtin.Range.rangeFitsLong (Builtin.Range.rangeSize 0 n 1))=true:=by
  rw[e0,y4 h1 h2,y4 (n:=0) (by decide) (by decide),y4 (n:=1) (by decide) (by decide),y4 (n:= -1) (by decide) (by decide),y4 (n:=0-1) (by decide) (by decide),y4 (n:=(n.toNat:Int)) (by lia) (by lia)]
  rfl
 have G:=aB9 r 0 n 1 t u v (by rw[sm];decide)
 intro prog w A R s h;refine G prog w A R s ⟨h.1,?_⟩;rw[sm,if_pos rfl,e0];have e1:(0:Int)+((n.toNat:Int)-1)*1=(n.toNat:Int)-1:=by lia
 rw[e1];exact h.2
section
variable {prog:Program}{w:World}{A:Around}{E:Value->Shared->Prop}{s:Shared}
theorem aR6 {r:Addr}{n:Int}{t u v:Tok}{Q₁:Value->Shared->Prop}(hr:IsRange s.heap r 0 n 1 t u v)(h1: -(2^31)<=n)(h2:n<2^31)
  (h:Q₁ (.ref s.heap.objs.size) {s with heap:=s.heap.push (wL n)}) :
  codeAny (model prog w) A (.call (.builtin "reversed.__new__") ⟨[.type "reversed",.ref r],[]⟩) (wants Q₁ E) s:=by
 have hT:s.TypeIs (.ref r) "range":=⟨_,hr,rfl⟩;refine codeAny_of_tree ?_;show wpAny _ A.in1 (do checkBuiltinCall "reversed.__new__" ⟨[.type "reversed",.ref r],[]⟩;again (.builtin "reversed.__new__" ⟨[.type "reversed",.ref r],[]⟩)) _ _ s
 refine wpAny_bind (wpAny_of_eq (PySem.F.newCall_reversed_1 _) (wpAny_pure ⟨plainId_quiet PySem.F.plain_reversed_new _,codeAny_builtin PySem.F.entry_reversed_new ?_⟩))
 rw[Around.under_plainId PySem.F.plain_reversed_new _];unfold Builtin.«reversed.__new__»;refine wpAny_bind (wpAny_of_eq (newClass_reversed _) ?_);try dsimp only
 refine wpAny_bind (wpAny_of_eq (a:=()) (by first|rfl|kernel_rfl) ?_);refine wpAny_bind (wpAny_of_eq (a:=()) (by first|rfl|kernel_rfl) ?_);try dsimp only
 refine wpAny_bind (wpAny_specialOf hT PySem.F.slot_range_reversed.lookup ?_);try dsimp only
 refine wpAny_bind (wpAny_of_eq (PySem.F.slot_range_reversed.bind _) ?_);try dsimp only
 first
 | rw[if_neg (show ¬((Value.builtin "range.__reversed__"==Value.none)=true)from Bool.false_ne_true)]
 | (show wpAny _ _ (if(Value.builtin "range.__reversed__"==Value.none)=true then _ else _) _ _ _;rw[if_neg (show ¬((Value.builtin "range.__reversed__"==Value.none)=true)from Bool.false_ne_true)])
 refine wpAny_bind (wpAny_rule ?_)
 refine wpAny_bind (m:=runValue (.call (.builtin "range.__reversed__") ⟨[.ref r],[]⟩)) (show wpAny _ _ (call (.builtin "range.__reversed__") [.ref r]) _ _ _ from call_meets PySem.F.slot_range_reversed hT PySem.F.entry_range_reversed (PySem.F.args_range_reversed_1 _) (zU r n t u v h1 h2) ⟨hr,?_⟩)
 first
 | exact wpAny_pure h
 | exact wpAny_bind (wpAny_pure (wpAny_pure h))
theorem bU0 {r:Addr}{n:Int}{t u v:Tok}{Q:Value->Shared->Prop}(hr:IsRange s.heap r 0 n 1 t u v)(h1: -(2^31)<=n)(h2:n<2^31)(h:Q (.ref s.heap.objs.size) {s with heap:=s.heap.push (wL n)}) :
  wpAny (model prog w) A (call (.type "reversed") [.ref r]) Q E s:=by
 refine callType_other (U:="range_iterator") (Q₁:=λobj s₁=>obj= .ref s.heap.objs.size/\s₁={s with heap:=s.heap.push (wL n)}) (by decide +kernel) PySem.F.create_reversed ⟨_,_,PySem.F.mro_reversed⟩ PySem.F.made_reversed zT (PySem.F.typeCall_reversed_1 _) (aR6 hr h1 h2 ⟨rfl,rfl⟩) ?_
 rintro obj s₁ ⟨rfl,rfl⟩;exact⟨⟨_,get?_push_size _ rfl,rfl⟩,h⟩
end
section
variable {X:Cx}{tg:Expr}
def iRevR (ta:TA):TI:=λσ H R=>ta σ H λvs H1=> ∃j:Int,vs=[.int j]/\ -(2^31)<=j/\j<2^31/\R (Itd ((j.toNat:Int)-1) j.toNat) H1
theorem aR7 {a:Expr}{ta:TA}{p p2 pos pos2:Pos}(hg:Gl X "reversed")(hm:X.mg "reversed"=none)(hg2:Gl X "range")(hm2:X.mg "range"=none)(ha:PA X [a] ta)(hs:starEach [a] X.env=[(false,eval a X.env)]:=by rfl)
  (hs2:starEach [.Call (.Name "range" p2) [a] [] pos2] X.env=[(false,eval (.Call (.Name "range" p2) [a] [] pos2) X.env)]:=by rfl) :
  PI X tg (.Call (.Name "reversed" p) [.Call (.Name "range" p2) [a] [] pos2] [] pos) (iRevR ta):=by
 intro pins s σ H R I h;refine Call_ (pQ I hg hm PyProof.Rows.boot_reversed (PyProof.Rows.callWith_type1 ?_ hs2 rfl));rw[hs2];show wpAny _ _ (spliced ((false,eval (.Call (.Name "range" p2) [a] [] pos2) X.env)::[])) _ _ s;refine Calls.spliced_cons (Call_ (pQ I hg2 hm2 boot_range (PyProof.Rows.callWith_type1 (thn (ha pos2 pins s σ H _ I h) λus s1 ⟨vs,H1,I1,r1,q1⟩=> ?_) hs rfl)))
 obtain⟨j,e,q1,q2,q⟩:=q1;subst e;obtain⟨u,rfl,t,rfl⟩:=vals1 r1;refine call_range_1 (Calls.spliced_nil ?_);have I2:Inv X pins σ H1 {s1 with heap:=s1.heap.push {cls:= .type "range",data:= .fields #[.int 0 s1.toks,.int j t,.int 1 (s1.toks+1)]},toks:=s1.toks+1+1}:=I1.kept λb o e=>get?_push_of_some _ e
 refine bU0 (IsRange.new ..) q1 q2 ?_
 have hi:IsRangeIter (((s1.heap.push {cls:= .type "range",data:= .fields #[.int 0 s1.toks,.int j t,.int 1 (s1.toks+1)]})).push (wL j)) (s1.heap.push {cls:= .type "range",data:= .fields #[.int 0 s1.toks,.int j t,.int 1 (s1.toks+1)]}).objs.size ((j.toNat:Int)-1) (j.toNat:Int) (-1):=get?_push_size _ rfl;refine wpAny_pyIter_rangeiter hi ?_
 refine⟨_,[(s1.heap.push {cls:= .type "range",data:= .fields #[.int 0 s1.toks,.int j t,.int 1 (s1.toks+1)]}).objs.size],_,_,H1,rfl,I2.kept (t':=s1.toks+1+1) λb o e=>get?_push_of_some _ e,b78 _ ((j.toNat:Int)-1) j.toNat,?_,λb hb=> ?_,q⟩
 ·show IsRangeIter _ _ (((j.toNat:Int)-1)+((0:Nat):Int)*(-1)) ((j.toNat:Int)-((0:Nat):Int)) (-1)
  have e1:((j.toNat:Int)-1)+((0:Nat):Int)*(-1)=(j.toNat:Int)-1:=by simp
  have e2:(j.toNat:Int)-((0:Nat):Int)=(j.toNat:Int):=by simp
  rw[e1,e2];exact hi
 ·have e:b=(s1.heap.push {cls:= .type "range",data:= .fields #[.int 0 s1.toks,.int j t,.int 1 (s1.toks+1)]}).objs.size:=by simpa using hb
  subst e;exact I2.fpOk (le_refl _) (I2.hok.fresh (le_refl _))
theorem bG9:PGet X (rIxL X.K):=by
 intro pins s σ H o i ov iv Q I ro ri h;obtain⟨p,xs,k,z,rfl,rfl,hq,he,q⟩:=h;cases ro;obtain⟨t,rfl⟩:=ri;obtain⟨its,r,pl,hz⟩:=I.list hq;obtain⟨j,h1,h2,h3,h4,h5⟩:=a11 he;obtain⟨w,ew,rw'⟩:=r.get h2;have hl:=r.length;have hn:=xR;have fin:EP X pins σ Q w s:=⟨z,H,I,rw',q⟩
 by_cases h0:0<=k
 ·have hj:k.toNat=j:=by
   rw[seqIndex_of h0 h5]at h1;exact Option.some.inj h1
  exact wpAny_getItem_list pl.isList h0 (by lia) (by rw[hj];simpa using ew) fin
 ·have hj:(k+(its.toArray.size:Int)).toNat=j:=by
   rw[seqIndex_neg (by lia) h4]at h1
   rw[size_toArray,<-hl];exact Option.some.inj h1
  exact wpAny_getItem_list_neg pl.isList (by lia) (by rw[size_toArray]<;>lia) (by lia) (by rw[hj];simpa using ew) fin
end
end L2
namespace HT
open PySem PyProof.Rows
section
variable {prog:Program}{w:World}{A:Around}{E:Value->Shared->Prop}{s:Shared}
theorem getItem_tuple_whole {t sl:Addr}{items:Array Value}{vl vu:Value}{lo hi:Option Int}{Q:Value->Shared->Prop}(ht:IsTup s.heap t items)(hs:s.heap.IsSliceOf sl vl vu .none)(pl:IsPart vl lo)(pu:IsPart vu hi)
  (hw:sIx items.size 0 lo=0/\sIx items.size items.size hi=items.size) (h:Q (.ref t) s):wpAny (model prog w) A (getItem (.ref t) (.ref sl)) Q E s:=by
 obtain⟨os,hos,hcs,hds⟩:=id hs;have hTs:s.TypeIs (.ref sl) "slice":=⟨os,hos,hcs⟩;unfold getItem;try with_reducible refine wpAny_holding ?_
 first|refine wpAny_bind (wpAny_pure ?_)|skip
 refine wpAny_bind (wpAny_sequenceKey ht.typeIs (by decide) ?_)
 refine wpAny_bind (wpAny_callSpecial?_slot (name:=Str.ofString "__getitem__") ht.typeIs PyProof.Rows.slot_tuple_getitem (wpAny_call_entry PyProof.Rows.slot_tuple_getitem ht.typeIs entry_tuple_getitem ?_ (args_tuple_getitem _ _)))
 show wpAny _ _ (Builtin.Tuple.tupleItemsOf (.ref t) >>= _) _ _ s
 refine wpAny_bind (tupleItemsOf_ ht ?_)
 refine wpAny_bind (wpAny_typeOf hTs ?_)
 rw[if_pos (by decide)]
 refine wpAny_bind (pA hs pl pu ?_)
 have hyes:(((sIx items.size 0 lo:Nat):Int)==0&&(1:Int)==1&&(sIx items.size items.size hi-sIx items.size 0 lo)==items.size)=true:=by
  rw[hw.1,hw.2];simp
 show wpAny _ _ (if(((sIx items.size 0 lo:Nat):Int)==0&&(1:Int)==1&&(sIx items.size items.size hi-sIx items.size 0 lo)==items.size)=true then _ else _) _ _ s
 rw[if_pos hyes];show wpAny _ _ (Builtin.Tuple.tupleIsExact (.ref t) >>= _) _ _ s;unfold Builtin.Tuple.tupleIsExact;refine wpAny_bind (wpAny_bind (wpAny_typeOf ht.typeIs (wpAny_pure ?_)));show wpAny _ _ (if(Value.type "tuple"==Value.type "tuple")=true then _ else _) _ _ s;rw[if_pos (by decide)]
 refine wpAny_bind (wpAny_rule ?_)
 first
  | exact wpAny_pure ⟨_,rfl,wpAny_pure h⟩
  | exact wpAny_bind (wpAny_pure (wpAny_pure ⟨_,rfl,wpAny_pure h⟩))
  | exact wpAny_bind (wpAny_pure ⟨_,rfl,wpAny_pure h⟩)
end
end HT
namespace L2
open PySem PySem.Spec PyProof.Rows
section
variable {X:Cx}
def rSlW (K:PySem.W.Frag):V->Option Int->Option Int->Hp->VK->Prop:=λx lo hi H Q=> ∃a xs,x= .ref a/\SqT K H a xs/\(HT.sIx xs.length 0 lo=0/\HT.sIx xs.length xs.length hi=xs.length)/\Q (.ref a) H
theorem bH0:SlR X (rSlW X.K):=by
 intro pins s σ H x v vl vu lo hi sl Q I rx hs pl pu h;obtain⟨a,xs,rfl,hx,hw,q⟩:=h;cases rx;obtain⟨its,r,ht,hz⟩:=I.tuple hx;have hlen:its.toArray.size=xs.length:=by rw[size_toArray];exact r.length.symm
 exact⟨"tuple",_,PyProof.Rows.slot_tuple_getitem.lookup,ht.typeIs,HT.getItem_tuple_whole ht hs pl pu (by rw[hlen];exact hw) ⟨.ref a,H,I,rfl,q⟩⟩
end
end L2
namespace M
open PySem PySem.Spec PyProof.Rows L2
section
variable {X:Cx}{K:PySem.W.Frag}{A:AS}{H:Hp}{e a b:Expr}{te ti:UE}{pos p2:Pos}{C:C0}{ρ ρ':Ev}{σ:L2.St}
def gSlT (d:D)(lo hi:Option Int)(Q:B->Prop):Prop:=match d with
 | .tup l=>Q (.pu (.tup (cutD l lo hi)))
 | .lst l=>Q (.ow (cutD l lo hi))
 | .rol l=>Q (.ow (cutD l lo hi))
 | _=>False
def uSlT (t:UE)(tl th:UO):UE:=λρ Q=>t ρ λb0 ρ1=>tl ρ1 λlo ρ2=>th ρ2 λhi ρ3=>gSlT b0.d lo hi λb=>Q b ρ3
theorem b84 (l:List D)(lo hi:Option Int)(h:HT.sIx l.length 0 lo=0/\HT.sIx l.length l.length hi=l.length):cutD l lo hi=l:=by
 unfold cutD;rw[h.1,h.2];simp
theorem b85 {tl th:UO}{lo hi:Option Expr}(he:PU X e te)(hl:PUO X lo tl)(hu:PUO X hi th):PU X (.Subscript e (.Slice lo hi none p2) pos) (uSlT te tl th):=
 eO (aQ3 ((b30.or bE4).or bH0) he hl hu) λσ H Q ⟨C,ρ,Q0,I,h,k⟩=>⟨C,ρ,_,I,h,λb0 ρ1 v H1 q f s r=>by
  have I1:=(I.frz f).same s;have rr:=r.rep λa z=>I.avF f z
  refine⟨C,ρ1,_,I1,q,λl2 ρ2 H2 q2 f2 s2=> ?_⟩
  have I2:=(I1.frz f2).same s2;refine⟨C,ρ2,_,I2,q2,λh3 ρ3 H3 q3 f3 s3=> ?_⟩
  have I3:=(I2.frz f3).same s3;have s13:=s2.trans s3;have sAll:=s.trans s13;have fAll:=f.trans (f2.trans f3);have r':Rep X.K (Av C ρ3 σ) H3 b0.d v:=rr.mono (.sub s13 λa z=>f2.av (f3.av z))
  generalize b0.d=d at r' q3;cases d with
  | tup l=>
   have r2:=r';simp only[Rep]at r';obtain⟨a,vs,rfl,c,rs⟩:=r';have hlen:=rs.length
   by_cases hw:HT.sIx l.length 0 l2=0/\HT.sIx l.length l.length h3=l.length
   ·refine .inr ⟨a,vs,rfl,c.imp And.right id,by rw[<-hlen];exact hw,k _ ρ3 _ _ q3 fAll sAll ?_⟩
    show Rep _ _ _ (.tup (cutD l l2 h3)) _
    rw[b84 l l2 h3 hw];exact r2
   ·exact .inl (.inr ⟨a,vs,rfl,c.imp And.right id,by rw[<-hlen];exact hw,λp n=>k _ ρ3 _ _ q3 fAll (sAll.trans (bN n _)) (eP (λa z=>I3.avSome z) n (rs.cut l2 h3))⟩)
  | lst l=>
   simp only[Rep]at r';obtain⟨a,vs,rfl,n0,c,rs⟩:=r';exact .inl (.inl ⟨a,vs,rfl,SqL.of c,λp n=>k _ ρ3 _ _ q3 fAll (sAll.trans (bN n _)) (cW sAll n (rs.cut l2 h3))⟩)
  | rol l=>
   simp only[Rep]at r';obtain⟨a,vs,rfl,c,rs⟩:=r';exact .inl (.inl ⟨a,vs,rfl,c.imp And.right id,λp n=>k _ ρ3 _ _ q3 fAll (sAll.trans (bN n _)) (cW sAll n (rs.cut l2 h3))⟩)
  | _=>exact(show False from q3).elim⟩
def bH1 (i:Nat)(f:Int->Int->Int)(ti te:UE):US:=λD ρ=>kX ρ i λ_=>ti ρ λj ρ1=>kX ρ1 i λl1=> ∃k n x,j.d= .int k/\ixN l1.length k=some n/\l1[n]? =some (.int x)/\
 te ρ1 λb ρ2=>kX ρ2 i λl=> ∃y,b.d= .int y/\D.nx (ρ2.set i (some (.ow (l.set n (.int (f x y))))))
theorem bU1 {x:Str}{p tpos:Pos}{ix:Expr}{op:Operator}{f:Int->Int->Int}(i:Nat)(hx:PE X (.Name x p) (sD i))(hi:PU X ix ti)(he:PU X e te)(hp:PIp X op (ipI f))
  (ha: ∀ov iv new,augStore ix ov iv new=(do holding [new,ov,iv] (setItem ov iv new);release [new,ov,iv] [];pure .next):=by intros;rfl):PUS X (.AugAssign (.Subscript (.Name x p) ix tpos) op e pos) (bH1 i f ti te):=
 kW (bQ6 hx hi bG9 he hp aQ5 ha) λD σ H ⟨C,ρ,D0,I,h,k⟩=>by
  obtain⟨l,hl,h⟩:=gB h;obtain⟨a,vs,h1,h2,h3,h4⟩:=I.ow i l hl;refine⟨.ref a,h1,C,ρ,_,I,h,λj ρ1 w H1 q f1 s1 r1=> ?_⟩
  obtain⟨l1,hl1,kk,n,x0,ej,en,ex,q⟩:=gB q;have e1:=f1.ow hl1;rw[hl]at e1;cases e1;have I1:=(I.frz f1).same s1;obtain⟨a1,vs1,g1,g2,g3,g4⟩:=I1.ow i l hl1;rw[h1]at g1;cases g1;have rj:=r1.rep λa z=>I.avF f1 z
  rw[ej]at rj;have:=aS rj;subst this;obtain⟨v0,ev0,rv0⟩:=g4.get ex;have:=aS rv0;subst this;have hat:L2.atI vs1 kk=some (.int x0):=by unfold L2.atI;rw[<-g4.length,en];exact ev0
  refine⟨a,vs1,kk,_,rfl,rfl,SqL.of g2,hat,C,ρ1,_,I1,q,λb ρ2 w2 H2 q2 f2 s2 r2=> ?_⟩
  obtain⟨l2,hl2,y,eb,q2⟩:=gB q2;have e2:=f2.ow hl2;rw[hl1]at e2;cases e2;have I2:=(I1.frz f2).same s2;obtain⟨a2,vs2,k1,k2,k3,k4⟩:=I2.ow i l hl2;rw[h1]at k1;cases k1;have rb:=r2.rep λa z=>I1.avF f2 z
  rw[eb]at rb;have:=aS rb;subst this;exact⟨x0,y,rfl,rfl,a,vs2,kk,n,rfl,rfl,k2,by rw[<-k4.length];exact en,k.nx _ _ _ q2 (I2.write hl2 h1 (k4.set n (show Rep _ _ _ _ _ by simp only[Rep])))⟩
mutual
def pd:D->Option PyData
 | .non=>some .none
 | .bl b=>some (.bool b)
 | .int i=>some (.int i)
 | .tup l=>(pdL l).map .tuple
 | .lst l=>(pdL l).map .list
 | .rol l=>(pdL l).map .list
 | .str _=>none
 | .ty _=>none
 | .obj _ _ _=>none
 | .adr _=>none
 | .xob _ _ _ _=>none
def pdL:List D->Option (List PyData)
 | []=>some []
 | d::r=>(pd d).bind λx=>(pdL r).map (x::·)
end
theorem aR8 {d:D}{r:List D}{xs:List PyData}(h:pdL (d::r)=some xs): ∃x ys,xs=x::ys/\pd d=some x/\pdL r=some ys:=by
 simp only[pdL]at h;cases e:pd d with
 | none=>rw[e]at h;cases h
 | some x=>
  rw[e]at h;cases e2:pdL r with
  | none=>rw[e2]at h;cases h
  | some ys=>rw[e2]at h;cases h;exact⟨x,ys,rfl,rfl,rfl⟩
theorem lQ {α β:Type}{o:Option α}{f:α->β}{y:β}(h:o.map f=some y): ∃x,o=some x/\y=f x:=by
 cases o with
 | none=>cases h
 | some x=>cases h;exact⟨x,rfl,rfl⟩
mutual
theorem aZ4: ∀(d:D) {x:PyData},pd d=some x->x.canLay0=true
 | .non,x,h=>by simp only[pd]at h;cases h;rfl
 | .bl b,x,h=>by simp only[pd]at h;cases h;rfl
 | .int i,x,h=>by simp only[pd]at h;cases h;rfl
 | .tup l,x,h=>by simp only[pd]at h;obtain⟨xs,e,rfl⟩:=lQ h;simp only[PyData.canLay0];exact a15 l e
 | .lst l,x,h=>by simp only[pd]at h;obtain⟨xs,e,rfl⟩:=lQ h;simp only[PyData.canLay0];exact a15 l e
 | .rol l,x,h=>by simp only[pd]at h;obtain⟨xs,e,rfl⟩:=lQ h;simp only[PyData.canLay0];exact a15 l e
 | .str _,x,h=>by simp only[pd]at h;cases h
 | .ty _,x,h=>by simp only[pd]at h;cases h
 | .obj _ _ _,x,h=>by simp only[pd]at h;cases h
 | .adr _,x,h=>by simp only[pd]at h;cases h
 | .xob _ _ _ _,x,h=>by simp only[pd]at h;cases h
theorem a15: ∀(l:List D) {xs:List PyData},pdL l=some xs->PyData.canLayAll0 xs=true
 | [],xs,h=>by simp only[pdL]at h;cases h;rfl
 | d::r,xs,h=>by
  obtain⟨x,ys,rfl,e1,e2⟩:=aR8 h;simp only[PyData.canLayAll0,and_eq_true];exact⟨aZ4 d e1,a15 r e2⟩
end
section
variable {pins:List (Addr×Obj)}{s:Shared}
mutual
theorem y6 (I:Inv X pins σ H s): ∀(d:D) {x:PyData} {v:V} {u:Value},pd d=some x->Rep X.K A H d v->RelV v u-> ∃as,Reads s.heap u x as
 | .non,x,v,u,h,r,q=>by simp only[pd]at h;cases h;simp only[Rep]at r;subst r;cases q;exact⟨_,.none⟩
 | .bl b,x,v,u,h,r,q=>by simp only[pd]at h;cases h;simp only[Rep]at r;subst r;cases q;exact⟨_,.bool b⟩
 | .int i,x,v,u,h,r,q=>by simp only[pd]at h;cases h;simp only[Rep]at r;subst r;obtain⟨t,rfl⟩:=q;exact⟨_,.int i t⟩
 | .tup l,x,v,u,h,r,q=>by
  simp only[pd]at h;obtain⟨xs,e,rfl⟩:=lQ h;simp only[Rep]at r;obtain⟨a,vs,rfl,c,rs⟩:=r;cases q;obtain⟨its,rv,⟨o,ho,hc,n,hd⟩,hz⟩:=I.tuple (c.imp And.right id);obtain⟨as,ra⟩:=qA I l e rs rv;exact⟨_,.tuple ho hc hd (by simpa using ra)⟩
 | .lst l,x,v,u,h,r,q=>by
  simp only[pd]at h;obtain⟨xs,e,rfl⟩:=lQ h;simp only[Rep]at r;obtain⟨a,vs,rfl,n0,c,rs⟩:=r;cases q;obtain⟨its,rv,p,hz⟩:=I.list (SqL.of c);obtain⟨o,ho,hc,n,hd⟩:=p.isList;obtain⟨as,ra⟩:=qA I l e rs rv;exact⟨_,.list ho hc hd (by simpa using ra)⟩
 | .rol l,x,v,u,h,r,q=>by
  simp only[pd]at h;obtain⟨xs,e,rfl⟩:=lQ h;simp only[Rep]at r;obtain⟨a,vs,rfl,c,rs⟩:=r;cases q;obtain⟨its,rv,p,hz⟩:=I.list (c.imp And.right id);obtain⟨o,ho,hc,n,hd⟩:=p.isList;obtain⟨as,ra⟩:=qA I l e rs rv;exact⟨_,.list ho hc hd (by simpa using ra)⟩
 | .str _,x,v,u,h,r,q=>by simp only[pd]at h;cases h
 | .ty _,x,v,u,h,r,q=>by simp only[pd]at h;cases h
 | .obj _ _ _,x,v,u,h,r,q=>by simp only[pd]at h;cases h
 | .adr _,x,v,u,h,r,q=>by simp only[pd]at h;cases h
 | .xob _ _ _ _,x,v,u,h,r,q=>by simp only[pd]at h;cases h
theorem qA (I:Inv X pins σ H s): ∀(l:List D) {xs:List PyData} {vs:List V} {us:List Value},pdL l=some xs->aQ X.K A H l vs->Vals vs us-> ∃as,ReadsAll s.heap us xs as
 | [],xs,vs,us,h,r,q=>by simp only[pdL]at h;cases h;have:=r.unnil;subst this;cases q;exact⟨_,.nil⟩
 | d::l,xs,vs,us,h,r,q=>by
  obtain⟨x,ys,rfl,e1,e2⟩:=aR8 h;obtain⟨v,vr,rfl,r1,rs⟩:=r.uncons;cases q with
  | cons q1 q2=>
   obtain⟨as,h1⟩:=y6 I d e1 r1 q1;obtain⟨bs,h2⟩:=qA I l e2 rs q2;exact⟨_,.cons h1 h2⟩
end
end
def bU2 (neg:Bool)(d e:D)(Q:B->Prop):Prop:= ∃p q,pd d=some p/\pd e=some q/\p.depth<=60/\Q (.pu (.bl (neg ^^ p.eqv q)))
theorem bH2 (hu:X.A.units+64<cLine):OpU X (compareOp .Eq) (bU2 false):=by
 intro A H d e v w Q0 Q hA r1 r2 g k;obtain⟨p,q,e1,e2,hd,g⟩:=g;refine⟨λx y H Q=> ∃(A:AS) (d e:D) (p q:PyData),Rep X.K A H d x/\Rep X.K A H e y/\pd d=some p/\pd e=some q/\p.depth<=60/\Q (.bl (p.eqv q)) H,?_,A,d,e,p,q,r1,r2,e1,e2,hd,k _ _ H g (.refl _) (by rw[false_xor];exact hG)⟩
 rintro pins s σ H x y v u Q I rx ry ⟨A,d,e,p,q,r1,r2,e1,e2,hd,h⟩;obtain⟨as,ra⟩:=y6 I d e1 r1 rx;obtain⟨bs,rb⟩:=y6 I e e2 r2 ry;exact SeqAt.compareEq_reads ra rb (aZ4 d e1) (aZ4 e e2) (by lia) ⟨.bl _,H,I,rfl,h⟩
def SqA (K:PySem.W.Frag)(A:AS)(H:Hp)(T:Bool)(a:Addr)(vs:List V):Prop:=match T with
 | false=>(¬A a/\Rd H a (.lst vs))\/KL K a vs
 | true=>(¬A a/\Rd H a (.tup vs))\/KT K a vs
theorem SqA.sqv {T:Bool}{a':Addr}{vs:List V}{A':AS}{H':Hp}(c:SqA K A H T a' vs)(P:gE A H A' H'):SqV K T H' a' vs:=by
 cases T<;>(rcases c with⟨n,c⟩|c;exact .inl (Rd.pres P n c).2;exact .inr c)
theorem gE.self:gE A H A H:=λ_ _ n e=>⟨n,e⟩
theorem Rep.sq {d:D}{v:V}{l:List D}(r:Rep K A H d v)(h:iD d=some l): ∃T a vs,v= .ref a/\SqA K A H T a vs/\aQ K A H l vs:=by
 cases d with
 | tup l'=>cases h;simp only[Rep]at r;obtain⟨a,vs,e,c,r⟩:=r;exact⟨true,a,vs,e,c,r⟩
 | lst l'=>cases h;simp only[Rep]at r;obtain⟨a,vs,e,n,c,r⟩:=r;exact⟨false,a,vs,e,.inl ⟨n,.inl c⟩,r⟩
 | rol l'=>cases h;simp only[Rep]at r;obtain⟨a,vs,e,c,r⟩:=r;exact⟨false,a,vs,e,c,r⟩
 | _=>cases h
theorem aQ.at {l:List D}{vs:List V}{i:Nat}(r:aQ K A H l vs)(hi:i<l.length): ∃x,vs[i]? =some x/\Rep K A H (l.getD i .non) x:=r.get (by rw[getD_eq_getElem?_getD,getElem?_eq_getElem hi];rfl)
theorem b86 {T:Bool}{l1:Addr}{vs:List V}{l:List D}(c1:SqA K A H T l1 vs)(r1:aQ K A H l vs):aY4 K A H (Ite K T l1) l.length (λi=> .tup [.int (i:Int),l.getD i .non]):=by
 have k1:=r1.length;refine⟨λA' H' i P hi=> ?_,λA' H' i x H'' P hA hi y=> ?_,λA' H' P=>⟨vs,c1.sqv P,k1.symm⟩⟩
 ·obtain⟨x,e1,_⟩:=r1.at hi;exact⟨vs,x,c1.sqv P,e1⟩
 ·obtain⟨x1,e1,q1⟩:=r1.at hi;obtain⟨T,a,rfl,hT,rfl,ha⟩:=y;have ea:=ha vs (c1.sqv P);rw[e1]at ea;cases ea;exact⟨bN hT _,eP hA hT (.cons (show Rep _ _ _ _ _ by simp only[Rep]) (.cons (q1.mono P) .nil))⟩
def uZip (ta:UA):UI:=λρ Q=>ta ρ λds ρ1=>match ds with
 | [d,e]=>(match iD d,iD e with
  | some l,some m=>Q (min l.length m.length) (λi=> .tup [l.getD i .non,m.getD i .non]) ρ1
  | _,_=>False)
 | _=>False
def bH3 (ta:UA):UI:=λρ Q=>ta ρ λds ρ1=>match ds with
 | [d]=>(match iD d with
  | some l=>Q l.length (λi=> .tup [.int (i:Int),l.getD i .non]) ρ1
  | none=>False)
 | _=>False
theorem bU3 {elts:List Expr}{kt:Nat}{tp p:Pos}{ta:UA}(hg:Gl X "enumerate")(hm:X.mg "enumerate"=none)(ha:PUA X [a] ta)(hs:starEach [a] X.env=[(false,eval a X.env)]:=by rfl) :
  PUI X (.Tuple elts kt tp) (.Call (.Name "enumerate" p) [a] [] pos) (bH3 ta):=
 aF7 (bT9 hg hm ha hs) λσ H R ⟨C,ρ,Q0,I,h,k⟩=>⟨C,ρ,_,I,h,λds ρ1 vs H1 q f s r=>by
  split at q
  ·rename_i d
   obtain⟨v,vr,rfl,rv,rr⟩:=r.uncons;have:=rr.unnil;subst this;split at q
   ·rename_i l e1
    obtain⟨T1,a1,us,rfl,c1,s1⟩:=rv.sq e1;exact⟨a1,T1,us,rfl,c1.sqv .self,k _ _ ρ1 _ H1 q f s (b86 c1 s1)⟩
   ·exact q.elim
  ·exact q.elim⟩
def bH4 (ta:UA):UI:=λρ Q=>ta ρ λds ρ1=>match ds with
 | [.int j]=>(-(2^31)<=j/\j<2^31)/\Q j.toNat (λk=> .int ((j.toNat:Int)-1-k)) ρ1
 | _=>False
theorem bU4 {tg:Expr}{ta:UA}{p q2 pos2:Pos}(hg:Gl X "reversed")(hm:X.mg "reversed"=none)(hg2:Gl X "range")(hm2:X.mg "range"=none)(ha:PUA X [a] ta)(hs:starEach [a] X.env=[(false,eval a X.env)]:=by rfl)
  (hs2:starEach [.Call (.Name "range" q2) [a] [] pos2] X.env=[(false,eval (.Call (.Name "range" q2) [a] [] pos2) X.env)]:=by rfl) :
  PUI X tg (.Call (.Name "reversed" p) [.Call (.Name "range" q2) [a] [] pos2] [] pos) (bH4 ta):=
 aF7 (aR7 hg hm hg2 hm2 ha hs hs2) λσ H R ⟨C,ρ,Q0,I,h,k⟩=>⟨C,ρ,_,I,h,λds ρ1 vs H1 q f s r=>by
  split at q
  ·rename_i j
   obtain⟨v,vr,rfl,rv,rr⟩:=r.uncons;have:=rr.unnil;subst this;have:=aS rv;subst this;obtain⟨⟨h1,h2⟩,q⟩:=q;exact⟨j,rfl,h1,h2,k _ _ ρ1 _ H1 q f s b79⟩
  ·exact q.elim⟩
end
end M
end
section
namespace M
open PySem PySem.Spec PyProof.Rows L2
section
variable {X:Cx}{a b c e:Expr}{ta tb tc te:UE}{pos:Pos}
def uChain (g g':D->D->(B->Prop)->Prop)(ta tb tc:UE):UE:=λρ Q=>ta ρ λx ρ1=>tb ρ1 λy ρ2=>g x.d y.d λb=>isB (λk ρ3=>if k=true then tc ρ3 λz ρ4=>g' y.d z.d λb'=>Q b' ρ4 else Q (.pu (.bl false)) ρ3) b ρ2
theorem aQ.dropLast {K:PySem.W.Frag}{A:AS}{H:Hp}{l:List D}{vs:List V}(h:aQ K A H l vs):aQ K A H l.dropLast vs.dropLast:=by
 rw[List.dropLast_eq_take,List.dropLast_eq_take,h.length];exact h.take _
def uPop (i:Nat):US:=λD ρ=>kX ρ i λl=>l≠[]/\D.nx (ρ.set i (some (.ow l.dropLast)))
end
end M
end
section
namespace L2
open PySem PySem.Spec PyProof.Rows
theorem y8:fillsNumberSlot (.type "tuple") "mul"=pure false:=
 PySem.fillsNumberSlot_seq (id:="tuple.__mul__") (r:=some (.builtin "tuple.__rmul__")) PySem.F.slot_tuple_mul.lookup (by decide +kernel) PySem.F.slot_tuple_rmul.lookup (by decide +kernel)
theorem aL0:seqRepeat? (.type "tuple")=pure (some (.builtin "tuple.__mul__")):=by
 unfold seqRepeat?;rw[PySem.seqSlot_of (T:="tuple") (name:="__mul__") (id:="tuple.__mul__") PySem.F.slot_tuple_mul.lookup (by decide +kernel),PySem.seqSlot_of (T:="tuple") (name:="__rmul__") (id:="tuple.__rmul__") PySem.F.slot_tuple_rmul.lookup (by decide +kernel)]
 rfl
theorem a43 (a:Int)(t:Tok)(l:Addr)(items:Array Value)(n:Nat)(dd:Option Addr)(sl:Array (Option Value)) :
  Meets (Builtin.«int.__rmul__» ⟨[.int a t,.ref l],[]⟩) (λ_ R s=>s.heap.get? l=some {cls:= .type "tuple",dict:=dd,data:= .seq items n,slots:=sl}/\R (.ok (.ret Value.notImplemented)) s):=
 .of_wp λprog w A R s h=>by obtain⟨hp,g,d,tk,os⟩:=s;obtain⟨hl,h⟩:=h;wp_walk using wpAny_loadPart' hl;exact⟨_,rfl,h⟩
theorem bH5 (l:Addr)(items:Array Value)(n:Nat)(dd:Option Addr)(sl:Array (Option Value))(u:Tok) :
  Meets (Builtin.«tuple.__mul__» ⟨[.ref l,.int 1 u],[]⟩) (λ_ R s=>s.heap.get? l=some {cls:= .type "tuple",dict:=dd,data:= .seq items n,slots:=sl}/\R (.ok (.ret (.ref l))) s):=
 .of_wp λprog w A R s h=>by
  obtain⟨hp,g,d,tk,os⟩:=s;obtain⟨hl,h⟩:=h;have f1:=AutoSeq1.idx_int
  wp_walk using wpAny_loadPart' hl
  exact⟨_,rfl,h⟩
theorem bH6 (l:Addr)(items:Array Value)(n:Nat)(dd:Option Addr)(sl:Array (Option Value))(k:Int)(u:Tok)(h1: ¬(k< -(2^63)||k≥2^63)=true)(hne: ¬(items.isEmpty||k==1)=true)(h0:(k<=0||items.isEmpty)=true) :
  Meets (Builtin.«tuple.__mul__» ⟨[.ref l,.int k u],[]⟩) (λ_ R s=>s.heap.get? l=some {cls:= .type "tuple",dict:=dd,data:= .seq items n,slots:=sl}/\R (.ok (.ret (.ref s.heap.objs.size))) {s with heap:=s.heap.push {cls:= .type "tuple",data:= .seq #[]}}):=
 .of_wp λprog w A R s h=>by
  obtain⟨hp,g,d,tk,os⟩:=s;obtain⟨hl,h⟩:=h;have f1:=AutoSeq1.idx_int
  wp_walk using wpAny_loadPart' hl
  rw[if_neg h1]
  wp_walk using wpAny_loadPart' hl
  exact⟨_,rfl,h⟩
theorem bH7 (l:Addr)(items:Array Value)(n:Nat)(dd:Option Addr)(sl:Array (Option Value))(k:Int)(u:Tok)(h1: ¬(k< -(2^63)||k≥2^63)=true)(hne: ¬(items.isEmpty||k==1)=true)(h0: ¬(k<=0||items.isEmpty)=true)
  (h2: ¬items.size*k>(2^63-1)/8) (h3: ¬Builtin.Tuple.tupleTooMany (items.size*k)=true) (hz:(foldl (λx1 x2=>x1++x2) #[] (replicate k.toNat items)).size<=sizeLine) :
  Meets (Builtin.«tuple.__mul__» ⟨[.ref l,.int k u],[]⟩) (λ_ R s=>s.heap.get? l=some {cls:= .type "tuple",dict:=dd,data:= .seq items n,slots:=sl}/\R (.ok (.ret (.ref s.heap.objs.size))) {s with heap:=s.heap.push {cls:= .type "tuple",data:= .seq (foldl (λx1 x2=>x1++x2) #[] (replicate k.toNat items))}}):=
 .of_wp λprog w A R s h=>by
  obtain⟨hp,g,d,tk,os⟩:=s;obtain⟨hl,h⟩:=h;have f1:=AutoSeq1.idx_int
  wp_walk using wpAny_loadPart' hl
  rw[if_neg h1]
  wp_walk using wpAny_loadPart' hl
  rw[if_neg h2]
  wp_walk using wpAny_loadPart' hl
  all_goals first
   | exact⟨_,rfl,h⟩
   | (refine wpAny_ite_false (decide_eq_false (Nat.not_lt.mpr hz)) ?_
      wp_walk using wpAny_loadPart' hl
      exact⟨_,rfl,h⟩)
section
variable {X:Cx}
theorem bU5:OpR X (binaryOp .Mult) (λx y H Q=> ∃a k xs,x= .ref a/\y= .int k/\SqT X.K H a xs/\xs≠[]/\ -(2^63)<=k/\k<2^63/\xs.length*k.toNat<=sizeLine/\(k=1->Q (.ref a) H)/\(k≠1-> ∀p,H p=none->Q (.ref p) (upd H p (.tup (replicate k.toNat xs).flatten)))):=by
 intro pins s σ H x y v u Q I rx ry h;obtain⟨a,k,xs,rfl,rfl,ha,hn,h1,h2,hz,q1,q2⟩:=h;cases rx;obtain⟨t,rfl⟩:=ry;obtain⟨its,r,p1,_⟩:=I.tuple ha;have hl:=r.length;obtain⟨⟨cls,dd,data,sl⟩,ho,hc,n,hd⟩:=id p1;simp only at hc hd;subst hc hd;have ne:its≠[]:=λz=>hn (List.length_eq_zero_iff.mp (by rw[hl,z];rfl))
 have ne2:its.toArray.isEmpty=false:=by cases its with
  | nil=>exact absurd rfl ne
  | cons b r'=>rfl
 have hb: ¬(decide (k< -(2^63))||decide (k≥2^63))=true:=by simp;omega
 have f0: ∀m:Nat,foldl (λx1 x2=>x1++x2) #[] (replicate m its.toArray)=(replicate m its).flatten.toArray:=λm=>by
  have:=foldl_rep its m [];rw[List.nil_append]at this;exact this
 refine wpAny_binaryOp_repeat_ref (T:="tuple") (U:="int") (by decide) ⟨_,ho,rfl⟩ (λs'=>typeIs_int s' k t) y8 PySem.F.fills_int_mul PySem.F.slot_int_rmul aL0 PySem.F.slot_int_index.lookup
  (call_meets PySem.F.slot_int_rmul (typeIs_int s k t) PySem.F.entry_int_rmul (PySem.F.args_int_rmul_2 _ _) (a43 k t a its.toArray n dd sl) ⟨ho,rfl,⟨_,ho,rfl⟩,?_⟩)
 by_cases k1:k=1
 ·subst k1;exact call_meets PySem.F.slot_tuple_mul ⟨_,ho,rfl⟩ PySem.F.entry_tuple_mul (PySem.F.args_tuple_mul_2 _ _) (bH5 a its.toArray n dd sl t) ⟨ho,.ref a,H,I,rfl,q1 rfl⟩
 have hne: ¬(its.toArray.isEmpty||k==1)=true:=by rw[ne2];simpa using k1
 by_cases k0:k<=0
 ·have e0:k.toNat=0:=by omega
  refine call_meets PySem.F.slot_tuple_mul ⟨_,ho,rfl⟩ PySem.F.entry_tuple_mul (PySem.F.args_tuple_mul_2 _ _) (bH6 a its.toArray n dd sl k t hb hne (by simp[k0])) ⟨ho,?_⟩
  have q:=q2 k1;rw[e0]at q;exact⟨.ref _,_,I.laid (t':=s.toks) (o:= .tup []) (λb ob q=>get?_push_of_some _ q) (le_refl _) ⟨zero_le _,_,.nil,IsTup.new _ _⟩,rfl,q _ I.fresh⟩
 ·have ek:k=(k.toNat:Int):=by omega
  have em:(its.toArray.size:Int)*k=((its.toArray.size*k.toNat:Nat):Int):=by rw[Int.natCast_mul,<-ek]
  have hs:its.toArray.size*k.toNat<=sizeLine:=by rw[size_toArray,<-hl];exact hz
  have hcap:(sizeLine:Nat)<=(2^63-1)/8:=by decide
  refine call_meets PySem.F.slot_tuple_mul ⟨_,ho,rfl⟩ PySem.F.entry_tuple_mul (PySem.F.args_tuple_mul_2 _ _) (bH7 a its.toArray n dd sl k t hb hne (by rw[ne2];simp;omega) (by rw[em];omega) (by rw[em];unfold Builtin.Tuple.tupleTooMany;rw[decide_eq_true_eq];omega) (by rw[f0,size_toArray,aJ9,mul_comm];simpa using hs)) ⟨ho,?_⟩
  rw[f0];exact⟨.ref _,_,I.laid (t':=s.toks) (o:= .tup (replicate k.toNat xs).flatten) (λb ob q=>get?_push_of_some _ q) (le_refl _) ⟨by rw[aJ9,mul_comm];exact hz,_,r.rep k.toNat,IsTup.new _ _⟩,rfl,q2 k1 _ I.fresh⟩
end
end L2
end
section
namespace L2
open PySem PySem.Spec PyProof.Rows
theorem bH8:typeLookup (.type "tuple") "__reversed__"=pure none:=by rw[typeLookup_type,builtinLookup_eq_fast];kernel_rfl
theorem sub_tuple_dict:isSubtype (.type "tuple") (.type "dict")=pure false:=by rw[isSubtype_type];kernel_rfl
theorem aG5:Manifest.owners.lookup (String.ofList ['d','e','s','r','e','v','e','r'].reverse)=some Manifest.sig_reversed:=by kernel_rfl
theorem gM:Slot "reversed" "__next__" "reversed.__next__":=
 .of (owner:="reversed") (n:="__next__") (by rw[typeLookup_type,builtinLookup_eq_fast];kernel_rfl) (by decide +kernel) (by decide +kernel) (by decide +kernel)
  (by first|exact .inl (by decide +kernel)|exact .inr (by decide +kernel)) (by rw[isSubtype_type];kernel_rfl)
theorem sK:entryFor table "reversed.__next__"=some Builtin.«reversed.__next__» :=entryFor_of_tree (by kernel_rfl)
theorem rN (a:Value):argsOk "reversed.__next__" ⟨[a],[]⟩:=by
 unfold argsOk;rw[signature?_of (id:="reversed.__next__") (n:=['_','_','t','x','e','n','_','_']) (o:=['d','e','s','r','e','v','e','r']) (by kernel_rfl) aG5];kernel_rfl
theorem uS:Slot "reversed" "__iter__" "reversed.__iter__":=
 .of (owner:="reversed") (n:="__iter__") (by rw[typeLookup_type,builtinLookup_eq_fast];kernel_rfl) (by decide +kernel) (by decide +kernel) (by decide +kernel)
  (by first|exact .inl (by decide +kernel)|exact .inr (by decide +kernel)) (by rw[isSubtype_type];kernel_rfl)
theorem zV (a:Value):argsOk "reversed.__iter__" ⟨[a],[]⟩:=by
 unfold argsOk;rw[signature?_of (id:="reversed.__iter__") (n:=['_','_','r','e','t','i','_','_']) (o:=['d','e','s','r','e','v','e','r']) (by kernel_rfl) aG5];kernel_rfl
theorem a44:entryFor table "reversed.__iter__"=some Builtin.«dict_keyiterator.__iter__» :=
 entryFor_alias (id':="dict_keyiterator.__iter__") (by kernel_rfl) (by first|rfl|decide +kernel| (unfold String.splitOn;simp +decide [String.splitOnAux])) (by decide +kernel) (by kernel_rfl)
theorem aC0:Slot "reversed" "__init__" "object.__init__":=
 .of (owner:="object") (n:="__init__") (by rw[typeLookup_type,builtinLookup_eq_fast];kernel_rfl) (by decide +kernel) (by decide +kernel) (by decide +kernel)
  (by first|exact .inl (by decide +kernel)|exact .inr (by decide +kernel)) (by rw[isSubtype_type];kernel_rfl)
theorem aZ5:TypeCalled "reversed" "reversed.__new__" "object.__init__":=
 ⟨by decide +kernel,by decide +kernel,⟨_,_,PySem.F.mro_reversed⟩,PySem.F.made_reversed,by decide +kernel,by rw[isSubtype_type];kernel_rfl,aC0⟩
theorem bU6 (l:Addr)(items:Array Value)(hfit:(items.size:Int)<2^63) :
  Meets (Builtin.«reversed.__new__» ⟨[.type "reversed",.ref l],[]⟩) (λ_ R s=>s.heap.IsTuple l items/\R (.ok (.ret (.ref s.heap.objs.size))) {s with heap:=s.heap.push {cls:= .type "reversed",data:= .fields #[.ref l,rawInt ((items.size:Int)-1)]},toks:=s.toks+1+1}):=
 .of_wp λprog w A R s h=>by
  obtain⟨hp,g,d,tk,os⟩:=s;obtain⟨ht,h⟩:=h;obtain⟨⟨c,dct,dt,sl⟩,hl,hc,n,hd⟩:=id ht
  replace hc:c= .type "tuple":=hc
  replace hd:dt= .seq items n:=hd
  subst hc hd;have f1:=PySem.F.sub_reversed_self;have f2:=bH8;have f4:=PySem.F.slot_tuple_getitem.lookup;have f5:=sub_tuple_dict;have e1:IsTup (Shared.heap ⟨hp,g,d,tk,os⟩) l items:=ht
  wp_walk using wpAny_loadPart' hl,PyProof.Rows.len_tuple e1 hfit
  exact⟨_,rfl,h⟩
def lZ (h:Heap)(a l:Addr)(i:Int):Prop:= ∃o,h.get? a=some o/\o.cls= .type "reversed"/\o.data= .fields #[.ref l,rawInt i]
theorem lZ.at {h h':Heap}{a l:Addr}{i:Int}(x:lZ h a l i)(e: ∀o,h.get? a=some o->h'.get? a=some o):lZ h' a l i:=let ⟨o,ho,r⟩:=x;⟨o,e _ ho,r⟩
section
variable {prog:Program}{w:World}{A:Around}{E:Value->Shared->Prop}{s:Shared}
theorem lZ.typeIs {a l:Addr}{i:Int}(x:lZ s.heap a l i):s.TypeIs (.ref a) "reversed":=let ⟨o,ho,hc,_⟩:=x;⟨o,ho,hc⟩
theorem bH9 {l:Addr}{items:Array Value}{Q:Value->Shared->Prop}(hl:s.heap.IsTuple l items)(hfit:(items.size:Int)<2^63)
  (h:Q (.ref s.heap.objs.size) {s with heap:=s.heap.push {cls:= .type "reversed",data:= .fields #[.ref l,rawInt ((items.size:Int)-1)]},toks:=s.toks+1+1}) :
  wpAny (model prog w) A (call (.type "reversed") [.ref l]) Q E s:=
 callType_new aZ5 (by decide) (PySem.F.typeCall_reversed_1 _) (PySem.F.newCall_reversed_1 _) (λobj=>PySem.F.args_object_init_2 obj _) PySem.F.entry_reversed_new (bU6 l items hfit) ⟨hl,⟨_,get?_push_size _ rfl,rfl⟩,h⟩
theorem a45 {it l:Addr}{i:Int}{Q:Value->Shared->Prop}(hit:lZ s.heap it l i)(h:Q (.ref it) s):wpAny (model prog w) A (pyIter (.ref it)) Q E s:=by
 refine wpAny_pyIter_slot hit.typeIs uS (wpAny_call_entry uS hit.typeIs a44 ?_ (zV _))
 show wpAny _ _ (ret (.ref it)) _ _ s
 exact wpAny_pure ⟨_,rfl,"reversed",_,hit.typeIs,gM.lookup,h⟩
theorem bI0 {it l:Addr}{i:Nat}{items:Array Value}{x:Value}{Q:Option Value->Shared->Prop}(hit:lZ s.heap it l (i:Int))(hl:s.heap.IsTuple l items)(hx:items[i]? =some x)(hfit:(i:Int)<2^63)
  (hQ: ∀h' tk,lZ h' it l ((i:Int)-1)->SameBut it s.heap h'->Q (some x) {s with heap:=h',toks:=tk}):wpAny (model prog w) A (pyNext (.ref it)) Q E s:=by
 obtain⟨o,ho,hc,hd⟩:=id hit;have hlt:i<items.size:=(Array.getElem?_eq_some_iff.mp hx).1;have hi:seqIndex? (i:Int) items.size=some i:=by
  unfold seqIndex?;simp;omega
 have tl:s.TypeIs (.ref l) "tuple":=hl.typeIs;unfold pyNext;refine wpAny_bind (wpAny_attempt (wpAny_callSpecial?_slot (name:=Str.ofString "__next__") hit.typeIs gM
  (wpAny_call_entry gM hit.typeIs sK ?_ (rN _))))
 unfold Builtin.«reversed.__next__»;refine wpAny_bind (wpAny_of_eq (a:=(Value.ref it,[])) rfl ?_);try dsimp only
 refine wpAny_bind (wpAny_field ho hd (x:= .ref l) rfl ?_)
 refine wpAny_bind (wpAny_field ho hd (x:=rawInt (i:Int)) rfl ?_)
 show wpAny _ _ (if(i:Int)<0 then _ else _) _ _ s
 rw[if_neg (by omega)]
 try dsimp only
 refine wpAny_bind (wpAny_specialOf tl PySem.F.slot_tuple_getitem.lookup ?_)
 try dsimp only
 rw[if_neg (by simp)]
 refine wpAny_bind (wpAny_mkInt ?_)
 have ht:IsTup s.heap l items:=hl;refine wpAny_bind (wpAny_attempt (PyProof.Rows.getItem_tuple (s:={s with toks:=s.toks+1}) ht (by omega) hfit hi hx ?_))
 try dsimp only
 refine wpAny_bind (wpAny_field ho hd (x:=rawInt (i:Int)) rfl ?_)
 show wpAny _ _ (setField (.ref it) 1 (rawInt ((i:Int)-1)) >>= _) _ _ _
 refine wpAny_bind (wpAny_setField ho hd (by simp) ?_)
 refine wpAny_pure ⟨x,rfl,wpAny_pure (hQ _ _ ?_ (Heap.SameBut.update ..))⟩
 exact⟨_,get?_update_self _ ho (Obj.isFreed_of_fields (Obj.data_mapFields hd _)),(Obj.cls_mapFields ..).trans hc,by
  rw[Obj.data_mapFields hd];simp⟩
theorem bU7 {it l:Addr}{Q:Option Value->Shared->Prop}(hh:A.handled=none)(hit:lZ s.heap it l (-1))
  (hQ: ∀h',ExtBut it s.heap h'->Q none {s with heap:=h'}):wpAny (model prog w) A (pyNext (.ref it)) Q E s:=by
 obtain⟨o,ho,hc,hd⟩:=id hit;unfold pyNext;refine wpAny_bind (wpAny_attempt (wpAny_callSpecial?_slot (name:=Str.ofString "__next__") hit.typeIs gM
  (wpAny_call_entry gM hit.typeIs sK ?_ (rN _))))
 unfold Builtin.«reversed.__next__»;refine wpAny_bind (wpAny_of_eq (a:=(Value.ref it,[])) rfl ?_);try dsimp only
 refine wpAny_bind (wpAny_field ho hd (x:= .ref l) rfl ?_)
 refine wpAny_bind (wpAny_field ho hd (x:=rawInt (-1)) rfl ?_)
 show wpAny _ _ (if(-1:Int)<0 then _ else _) _ _ s
 rw[if_pos (by decide)]
 refine wpAny_bind (wpAny_rule ?_)
 refine wpAny_bind ?_
 show wpAny _ _ (setField (.ref it) 1 (rawInt (-1)) >>= λ_=>setField (.ref it) 0 .none) _ _ s
 refine wpAny_bind (wpAny_setField ho hd (by simp) ?_)
 refine wpAny_setField (get?_update_self _ ho (Obj.isFreed_of_fields (Obj.data_mapFields hd _))) (Obj.data_mapFields hd _) (by simp) ?_
 first
 | show wpAny _ _ (newExc (.type "StopIteration") [] >>= _) _ _ _
 | (refine wpAny_bind ?_;show wpAny _ _ (newExc (.type "StopIteration") [] >>= _) _ _ _)
 refine wpAny_bind ?_
 simp only[newExc,newTuple];refine wpAny_bind (wpAny_newObj_type ?_ (by size_fits))
 refine wpAny_bind (m:=firstArgMember _ _) (wpAny_of_eq (a:=Value.none) (by first|rfl| (simp only[firstArgMember];rfl)) ?_)
 refine wpAny_newObj_type ?_ (by size_fits)
 simp only[raiseNew];refine wpAny_bind (wpAny_handled ?_)
 first|rw[show A.in1.handled=none from hh]|rw[hh]
 refine wpAny_bind (wpAny_pure (wpAny_throw ?_))
 refine wpAny_bind (wpAny_isInstance (T:="StopIteration") (b:=true) ⟨_,get?_push_size _ rfl,rfl⟩ isSubtype_stop ?_)
 refine wpAny_pure (hQ _ ?_)
 exact((((Heap.SameBut.update ..).trans (Heap.SameBut.update ..)).extBut.push _).push _)
end
def Itv (K:PySem.W.Frag)(l:Addr)(n:Nat):It where
 go:=λi H=>i<n/\ ∃xs,SqT K H l xs/\xs.length=n
 yld:=λi H v H'=>H'=H/\ ∀xs,SqT K H l xs->xs[n-1-i]? =some v
 stop:=λi H=>i=n
theorem bI1 {P:Program}{w:World}{K:PySem.W.Frag}{tg:Expr}{it l:Addr}(n:Nat)(hz:n<=sizeLine):aW8 P w K tg (Itv K l n) [it] it (λi h=>lZ h it l ((n:Int)-1-(i:Int))) where
 mem:=by simp
 obj:=λi h st b hb=>by
  have e:b=it:=by simpa using hb
  subst e;obtain⟨o,ho,_,hd⟩:=st;exact⟨o,ho,λv z=>by rw[hd]at z;cases z⟩
 keep:=λi h h' st k=>st.at λo e=>k it (by simp) _ e
 item:=by
  intro X hP hw hK hc i pins s σ H E I hf st hg;subst hP hw hK;obtain⟨f0,f1,f2,f3,f4,f5⟩:=hf it (by simp)
  obtain⟨hi,xs,hq,hl⟩:=hg;obtain⟨its,r,p,_⟩:=I.tuple hq;have hlen:=r.length;have hx:xs[n-1-i]? =some (xs[n-1-i]'(by omega)):=getElem?_eq_getElem (by omega)
  obtain⟨u1,hu1,ru1⟩:=r.get hx;have e1:(n:Int)-1-(i:Int)=((n-1-i:Nat):Int):=by omega
  have st':=st;rw[e1]at st';have big:(sizeLine:Int)<2^63:=by decide
  refine bI0 (items:=its.toArray) (x:=u1) st' p (by simpa using hu1) (by omega) λh' tk hr m=> ?_
  have I1:Inv X pins σ H {s with heap:=h',toks:=tk}:=I.turned (λb o hb e=>m.extBut _ _ (by simpa using hb) e) f0 f1 f3 f4 f5
  have e2:((n-1-i:Nat):Int)-1=(n:Int)-1-((i+1:Nat):Int):=by omega
  rw[e2]at hr;obtain⟨o,ho,hoc,hod⟩:=id hr;exact⟨_,rfl,aP9 (s:={s with heap:=h',toks:=tk}) (n:="reversed") ho hoc hod (by decide) ⟨xs[n-1-i]'(by omega),H,I1,ru1,⟨rfl,λys hy=>by rw[I.tuple_inj hy hq];exact hx⟩,hr,λb hb=>(hf b hb).1⟩⟩
 done:=by
  intro X hP hw hK hc i pins s σ H E I hf st hg;subst hP hw hK;obtain⟨f0,f1,f2,f3,f4,f5⟩:=hf it (by simp)
  have hg':i=n:=hg;have st':=st;rw[hg',show(n:Int)-1-(n:Int)= -1 by omega]at st'
  exact bU7 (I.ok.hd hc) st' λh' eb=>⟨rfl,I.turned (t':=s.toks) (λb o hb e=>eb b o hb e) f0 f1 f3 f4 f5⟩
 self:=λ_ _ _ _ _ st h=>a45 st h
section
variable {X:Cx}{tg:Expr}
def iRevT (K:PySem.W.Frag)(ta:TA):TI:=λσ H R=>ta σ H λvs H1=> ∃l xs,vs=[.ref l]/\SqT K H1 l xs/\R (Itv K l xs.length) H1
theorem bU8 {a:Expr}{ta:TA}{p pos:Pos}(hg:Gl X "reversed")(hm:X.mg "reversed"=none)(ha:PA X [a] ta)(hs:starEach [a] X.env=[(false,eval a X.env)]:=by rfl) :
  PI X tg (.Call (.Name "reversed" p) [a] [] pos) (iRevT X.K ta):=by
 intro pins s σ H R I h;refine Call_ (pQ I hg hm PyProof.Rows.boot_reversed (PyProof.Rows.callWith_type1 (thn (ha pos pins s σ H _ I h) λus s1 ⟨vs,H1,I1,r1,q1⟩=> ?_) hs rfl))
 obtain⟨l,xs,e,q1,q⟩:=q1;subst e;obtain⟨u,rfl,r⟩:=vals1 r1;cases r;obtain⟨its,rv,p1,hz⟩:=I1.tuple q1;have hl:=rv.length;have big:(sizeLine:Int)<2^63:=by decide
 refine bH9 p1 (by rw[size_toArray];omega) ?_
 have hi:lZ (s1.heap.push {cls:= .type "reversed",data:= .fields #[.ref l,rawInt ((its.toArray.size:Int)-1)]}) s1.heap.objs.size l ((xs.length:Int)-1-((0:Nat):Int)):=⟨_,get?_push_size _ rfl,rfl,by
  rw[size_toArray,hl];simp⟩
 refine a45 (s:={s1 with heap:=s1.heap.push {cls:= .type "reversed",data:= .fields #[.ref l,rawInt ((its.toArray.size:Int)-1)]},toks:=s1.toks+1+1}) hi ?_
 refine⟨_,[s1.heap.objs.size],_,_,H1,rfl,I1.kept (t':=s1.toks+1+1) λb o e=>get?_push_of_some _ e,bI1 xs.length hz,hi,λb hb=> ?_,q⟩
 have e:b=s1.heap.objs.size:=by simpa using hb
 subst e;exact I1.fpOk (le_refl _) (I1.hok.fresh (le_refl _))
end
end L2
namespace M
open PySem PySem.Spec PyProof.Rows L2
section
variable {X:Cx}{A:AS}{H:Hp}{K:PySem.W.Frag}{pos:Pos}{a:Expr}
theorem b87 {l1:Addr}{vs:List V}{l:List D}(c1:SqA K A H true l1 vs)(r1:aQ K A H l vs):aY4 K A H (Itv K l1 vs.length) l.length (λi=>l.getD (l.length-1-i) .non):=by
 have k1:=r1.length;refine⟨λA' H' i P hi=>⟨by omega,vs,c1.sqv P,rfl⟩,λA' H' i x H'' P hA hi y=> ?_,λA' H' P=>k1⟩
 obtain⟨x1,e1,q1⟩:=r1.at (i:=l.length-1-i) (by omega)
 obtain⟨e,ha⟩:=y;subst e;have ea:=ha vs (c1.sqv P);rw[<-k1,e1]at ea;cases ea;exact⟨.refl _,q1.mono P⟩
def bI2 (ta:UA):UI:=λρ Q=>ta ρ λds ρ1=>match ds with
 | [.tup l]=>Q l.length (λi=>l.getD (l.length-1-i) .non) ρ1
 | _=>False
theorem bU9 {tg:Expr}{p:Pos}{ta:UA}(hg:Gl X "reversed")(hm:X.mg "reversed"=none)(ha:PUA X [a] ta)(hs:starEach [a] X.env=[(false,eval a X.env)]:=by rfl) :
  PUI X tg (.Call (.Name "reversed" p) [a] [] pos) (bI2 ta):=
 aF7 (bU8 hg hm ha hs) λσ H R ⟨C,ρ,Q0,I,h,k⟩=>⟨C,ρ,_,I,h,λds ρ1 vs H1 q f s r=>by
  split at q
  ·rename_i l
   obtain⟨v,vr,rfl,rv,rr⟩:=r.uncons;have:=rr.unnil;subst this;simp only[Rep]at rv;obtain⟨a1,us,rfl,c1,s1⟩:=rv;have c2:SqA _ _ _ true a1 us:=c1;exact⟨a1,us,rfl,c2.sqv .self,k _ _ ρ1 _ H1 q f s (b87 c2 s1)⟩
  ·exact q.elim⟩
def b37 (d e:D)(Q:B->Prop):Prop:=match d,e with
 | .tup l,.int k=>(l≠[]/\ -(2^63)<=k/\k<2^63/\l.length*k.toNat<=sizeLine)/\Q (.pu (.tup (replicate k.toNat l).flatten))
 | _,_=>False
theorem bV0:OpU X (binaryOp .Mult) b37:=by
 intro A H d e v w Q0 Q hA r1 r2 g k;unfold b37 at g;split at g
 ·rename_i l kk
  have:=aS r2;subst this;simp only[Rep]at r1;obtain⟨a,vs,rfl,c1,rs1⟩:=r1;obtain⟨⟨h0,h1,h2,h3⟩,g⟩:=g;refine⟨_,bU5,a,kk,vs,rfl,rfl,c1.imp And.right id,λz=>h0 ?_,h1,h2,by rw[<-rs1.length];exact h3,λz=> ?_,λz p n=>k _ _ _ g (bN n _) (eP hA n (rs1.rep _))⟩
  ·have:=rs1.length;rw[z]at this;exact List.length_eq_zero_iff.mp this
  ·subst z;refine k _ _ H g (.refl _) ?_;show Rep X.K A H (.tup _) (.ref a);simp only[Rep];exact⟨a,vs,rfl,c1,by simpa using rs1⟩
 ·exact g.elim
end
end M
end
section
namespace M
open PySem PySem.Spec PyProof.Rows L2
section
variable {X:Cx}
theorem a46 {K:PySem.W.Frag}{A:AS}{H:Hp}: ∀r:List Int,aQ K A H (r.map D.int) (r.map V.int)
 | []=> .nil
 | a::r=> .cons (by simp only[Rep]) (a46 r)
theorem bV1 {x:Str}{a:Addr}{r:List Int}{p:Pos}(hg:Gl X x)(hm:X.mg x=some (.ref a))(hk:KT X.K a (r.map V.int))(hd:(x==("__debug__":Str))=false:=by decide):PU X (.Name x p) (uC (.tup (r.map .int))):=
 a13 (aI9 (v:= .ref a) hg hm rfl hd) λA H=>by
  simp only[Rep];exact⟨a,r.map V.int,rfl,.inr hk,a46 r⟩
theorem kt_of {K:PySem.W.Frag}{a:Addr}{od:Option Addr}{its:Array Value}{n:Nat}{sl:Array (Option Value)}{vs:List V}(hl:K.lookup a=some ⟨.type "tuple",od,.seq its n,sl⟩)(hz:its.size<=sizeLine)(hv:Vals vs its.toList):KT K a vs:=
 ⟨_,its,n,hl,rfl,rfl,hz,hv⟩
end
end M
end
section
namespace L2
open PySem PySem.Spec PyProof.Rows
end L2
namespace M
open PySem PySem.Spec PyProof.Rows L2
section
variable {X:Cx}
def gAny:List D->(B->Prop)->Prop:=g1 λd Q=>match d with
 | .lst l=>(match pZ l with
  | some bs=>Q (.pu (.bl (bs.any id)))
  | none=>False)
 | _=>False
end
end M
end
section
namespace L2
open PySem PySem.Spec PyProof.Rows
end L2
namespace M
open PySem PySem.Spec PyProof.Rows L2
section
variable {X:Cx}{a:Expr}{pos:Pos}{ta:UE}
def gMaxL:List D->(B->Prop)->Prop:=g1 λd Q=>match d with
 | .lst l=>(match wK l with
  | some ns=>0<ns.length/\ ∀m:Int,m∈ns->(∀a∈ns,a<=m)->Q (.pu (.int m))
  | none=>False)
 | _=>False
def D.isN:D->Bool
 | .non=>true
 | _=>false
theorem b38 {K:PySem.W.Frag}{A:AS}{H:Hp}: ∀{d:D} {v:V},Rep K A H d v->decide (v= .non)=d.isN
 | .non,v,h=>by simp only[Rep]at h;subst h;rfl
 | .bl _,v,h=>by simp only[Rep]at h;subst h;rfl
 | .int _,v,h=>by simp only[Rep]at h;subst h;rfl
 | .str _,v,h=>by simp only[Rep]at h;subst h;rfl
 | .ty _,v,h=>by simp only[Rep]at h;subst h;rfl
 | .tup _,v,h=>by simp only[Rep]at h;obtain⟨a,vs,rfl,_⟩:=h;rfl
 | .lst _,v,h=>by simp only[Rep]at h;obtain⟨a,vs,rfl,_⟩:=h;rfl
 | .rol _,v,h=>by simp only[Rep]at h;obtain⟨a,vs,rfl,_⟩:=h;rfl
 | .obj _ _ _,v,h=>by simp only[Rep]at h;obtain⟨a,dx,vs,rfl,_⟩:=h;rfl
 | .adr _,v,h=>by simp only[Rep]at h;subst h;rfl
 | .xob _ _ _ _,v,h=>by simp only[Rep]at h;obtain⟨vs,rfl,_⟩:=h;rfl
def aR9 (neg:Bool)(t:UE):UE:=λρ Q=>t ρ λb ρ1=>Q (.pu (.bl (neg ^^ b.d.isN))) ρ1
theorem lIsN (σ:L2.St)(H:Hp)(Q:VK)(h:lE X.K (aR9 false ta) σ H Q):tIsN (lE X.K ta) σ H Q:=by
 obtain⟨C,ρ,Q0,I,h,k⟩:=h;refine⟨C,ρ,_,I,h,λb ρ' v H' q f s r=> ?_⟩
 have e:=b38 (r.rep λa z=>I.avF f z)
 refine k _ ρ' _ H' q f s ?_
 show Rep _ _ _ _ _
 simp only[Rep,false_xor];rw[e]
theorem lNotN (σ:L2.St)(H:Hp)(Q:VK)(h:lE X.K (aR9 true ta) σ H Q):bZ6 (lE X.K ta) σ H Q:=by
 obtain⟨C,ρ,Q0,I,h,k⟩:=h;refine⟨C,ρ,_,I,h,λb ρ' v H' q f s r=> ?_⟩
 have e:=b38 (r.rep λa z=>I.avF f z)
 refine k _ ρ' _ H' q f s ?_
 show Rep _ _ _ _ _
 simp only[Rep,true_xor];rw[e]
theorem bV2 {j pos'}(ha:PU X a ta):PUT X (.Compare a [.Is] [.Constant .none j pos'] pos) (bY (aR9 false ta)):=aQ6 (bC4 (pc_isN ha)) λσ H Q h=>lIsN σ H _ (bS1 σ H Q h)
theorem aS0 {j pos'}(ha:PU X a ta):PUT X (.Compare a [.IsNot] [.Constant .none j pos'] pos) (bY (aR9 true ta)):=aQ6 (bC4 (bQ2 ha)) λσ H Q h=>lNotN σ H _ (bS1 σ H Q h)
end
end M
end
section
namespace M
open PySem PySem.Spec PyProof.Rows L2
mutual
def D.nl:D->Bool
 | .tup l=>D.nls l
 | .lst _=>false
 | .rol _=>false
 | .obj _ _ _=>false
 | .adr _=>false
 | .xob _ _ _ _=>false
 | .non=>true
 | .bl _=>true
 | .int _=>true
 | .str _=>true
 | .ty _=>true
def D.nls:List D->Bool
 | []=>true
 | d::l=>d.nl&&D.nls l
end
section
variable {K:PySem.W.Frag}{A A':AS}{H H':Hp}
mutual
theorem Rep.nl (p: ∀a vs,¬A a->Rd H a (.tup vs)-> ¬A' a/\Rd H' a (.tup vs)): ∀{d:D} {v:V},d.nl=true->Rep K A H d v->Rep K A' H' d v
 | .non,_,_,h=>h
 | .bl _,_,_,h=>h
 | .int _,_,_,h=>h
 | .str _,_,_,h=>h
 | .ty _,_,_,h=>h
 | .tup l,v,q,h=>by
  simp only[Rep]at h⊢;obtain⟨a,vs,e,c,r⟩:=h;simp only[D.nl]at q;refine⟨a,vs,e,?_,aQ.nl p q r⟩;rcases c with⟨n,c⟩|c
  ·exact .inl (p a vs n c)
  ·exact .inr c
 | .lst _,_,q,_=>by simp only[D.nl]at q;cases q
 | .rol _,_,q,_=>by simp only[D.nl]at q;cases q
 | .obj _ _ _,_,q,_=>by simp only[D.nl]at q;cases q
 | .adr _,_,q,_=>by simp only[D.nl]at q;cases q
 | .xob _ _ _ _,_,q,_=>by simp only[D.nl]at q;cases q
theorem aQ.nl (p: ∀a vs,¬A a->Rd H a (.tup vs)-> ¬A' a/\Rd H' a (.tup vs)): ∀{l:List D} {vs:List V},D.nls l=true->aQ K A H l vs->aQ K A' H' l vs
 | [],_,_,h=>by simp only[aQ]at h ⊢; exact h
 | d::ds,vs,q,h=>by
  simp only[aQ]at h⊢;simp only[D.nls,and_eq_true]at q;obtain⟨v,vr,e,r,rs⟩:=h;exact⟨v,vr,e,Rep.nl p q.1 r,aQ.nl p q.2 rs⟩
end
end
section
variable {X:Cx}{st:Stmt}{sts:List Stmt}{e o:Expr}{pos:Pos}{t u:US}{te to:UE}{K:PySem.W.Frag}{C:C0}{ρ ρ':Ev}{σ:L2.St}{H H':Hp}
def uLook (t:UT):UT:=λρ Q=>t ρ λb _=>Q b ρ
def uLookE (t:UE):UE:=λρ Q=>t ρ λb _=>match b with
 | .pu d=>d.nl=true/\Q (.pu d) ρ
 | _=>False
def CZ:C0:=⟨λ_=>none,λ_=>False⟩
def rO:Option B->Option B
 | some (.pu d)=>if d.nl=true then some (.pu d)else none
 | some (.ow l)=>if D.nls l=true then some (.ow l)else none
 | _=>none
theorem bI3 {x:Option B}{d:D}(h:rO x=some (.pu d)):x=some (.pu d)/\d.nl=true:=by
 unfold rO at h;split at h
 ·split at h
  ·cases h;exact⟨rfl,by assumption⟩
  ·cases h
 ·split at h<;>cases h
 ·cases h
theorem wM {x:Option B}{l:List D}(h:rO x=some (.ow l)):x=some (.ow l)/\D.nls l=true:=by
 unfold rO at h;split at h
 ·split at h<;>cases h
 ·split at h
  ·cases h;exact⟨rfl,by assumption⟩
  ·cases h
 ·cases h
theorem bI4 {x:Option B}{l:List D}(h:rO x=some (.bo l)):False:=by
 unfold rO at h;split at h
 ·split at h<;>cases h
 ·split at h<;>cases h
 ·cases h
theorem pE {i:Nat}{b:B}(h:(ρ.map rO)[i]? =some (some b)): ∃x,ρ[i]? =some x/\rO x=some b:=by
 rw[getElem?_map]at h;cases e:ρ[i]? with
 | none=>rw[e]at h;cases h
 | some x=>rw[e]at h;exact⟨x,rfl,by simpa using h⟩
theorem bI5 {a:Addr}(h:Av CZ (ρ.map rO) σ a):Av CZ ρ σ a:=by
 rcases h with z| ⟨i,l,h1,h2⟩
 ·exact .inl z
 ·obtain⟨x,g1,g2⟩:=pE h1;obtain⟨rfl,_⟩:=wM g2;exact .inr ⟨i,l,g1,h2⟩
theorem EOk.hit {a:Addr}{vs vs':List V}(I:EOk K CZ ρ σ H)(n: ¬Av CZ ρ σ a)(h:H a=some (.lst vs)):EOk K CZ (ρ.map rO) σ (upd H a (.lst vs')):=by
 have T: ∀b ws,¬Av CZ ρ σ b->Rd H b (.tup ws)-> ¬Av CZ (ρ.map rO) σ b/\Rd (upd H a (.lst vs')) b (.tup ws):=by
  intro b ws nb c;have ne:b≠a:=by
   rintro rfl;rcases c with c| ⟨o,c⟩
   ·rw[h]at c;cases c
   ·rw[h]at c;cases c
  refine⟨λz=>nb (bI5 z),?_⟩
  unfold Rd;rw[aT ne];exact c
 refine⟨by rw[length_map];exact I.len,?_,?_,?_,?_,λb o z=>(by cases z),λb z=>z.elim⟩
 ·intro i d g;obtain⟨x,g1,g2⟩:=pE g;obtain⟨rfl,nl⟩:=bI3 g2;obtain⟨v,h1,h2⟩:=I.pu i d g1;exact⟨v,h1,Rep.nl T nl h2⟩
 ·intro i l g;obtain⟨x,g1,g2⟩:=pE g;obtain⟨rfl,nl⟩:=wM g2;obtain⟨b,ws,h1,h2,h3,h4⟩:=I.ow i l g1;have ne:b≠a:=by
   rintro rfl;exact n (.inr ⟨i,l,g1,h1⟩)
  exact⟨b,ws,h1,by rw[aT ne];exact h2,h3,aQ.nl T nl h4⟩
 ·intro i j l l' b g1 g2 h1 h2;obtain⟨x,g3,g4⟩:=pE g1;obtain⟨rfl,_⟩:=wM g4;obtain⟨y,g5,g6⟩:=pE g2;obtain⟨rfl,_⟩:=wM g6;exact I.inj i j l l' b g3 g5 h1 h2
 ·intro i l g;obtain⟨x,g1,g2⟩:=pE g;exact(bI4 g2).elim
def uAppZ (to te:UE):US:=λD ρ=>to ρ λb ρ1=>match b with
 | .pu (.lst l)=>te ρ1 λ_ ρ2=>l.length<sizeLine/\D.nx (ρ2.map rO)
 | _=>False
end
def ltL:List Int->List Int->Bool
 | [],[]=>false
 | [],_::_=>true
 | _::_,[]=>false
 | a::x,b::y=>if a=b then ltL x y else decide (a<b)
section
variable {prog:Program}{w:World}{A:Around}{E:Value->Shared->Prop}{s:Shared}
theorem bI6 {a:Addr}{u v:Value}{n:Nat}{lt:Bool}{P:PySem.Fin->Shared->Prop}(ho:s.heap.get? a=some (seqObj "list" [u,v].toArray n))
  (hy: ∀h':Heap,(∀b o,b≠a->s.heap.get? b=some o->h'.get? b=some o)-> ∃κ:SortKind,
   (∀Q:SortKind->Shared->Prop,Q κ {s with heap:=h'}->wpAny (model prog w) A (keyKind' [u,v].toArray) Q (λ_ _=>False) {s with heap:=h'})/\
   (∀Q:Bool->Shared->Prop,Q lt {s with heap:=h'}->wpAny (model prog w) A (keyLt' κ v u) Q (λ_ _=>False) {s with heap:=h'}))
  (fi:P (.done (.ret .none)) {s with heap:=sortedHeap s.heap a [u,v] (if lt=true then [v,u].toArray else [u,v].toArray)}) :
  wpAny (model prog w) A (Builtin.«list.sort» ⟨[.ref a],[]⟩) P E s:=by
 rw[list_sort_plain];have la:a<s.heap.objs.size:=lt_size ho;refine wpAny_bind (listItems_at ho rfl ?_);refine wpAny_bind (listUpdate_at ho rfl ?_ (show 2<=sizeLine by decide) (zero_le _))
 obtain⟨c1,h1⟩: ∃c1,(s.heap.update a (Obj.mapSeq λ_=> #[])).get? a=some (seqObj "list" #[] c1):=⟨_,get?_update_seq ho (λ_=> #[])⟩
 refine wpAny_bind (seqEpoch_at h1 rfl ?_)
 refine wpAny_bind (wpAny_newTuple ?_ (show 2<=sizeLine by decide))
 refine wpAny_bind (wpAny_newList ?_ (zero_le _))
 refine wpAny_holding ?_
 have h6:(((s.heap.update a (Obj.mapSeq λ_=> #[])).push (seqObj "tuple" [u,v].toArray 0)).push (seqObj "list" #[] 0)).get? a=some (seqObj "list" #[] c1):=by
  rw[get?_push_ne _ _ _ (by rw[size_push',size_update];exact ne_of_lt (lt_succ_of_lt la))]
  rw[get?_push_ne _ _ _ (by rw[size_update];exact ne_of_lt la)]
  exact h1
 have kp: ∀b o,b≠a->s.heap.get? b=some o->(((s.heap.update a (Obj.mapSeq λ_=> #[])).push (seqObj "tuple" [u,v].toArray 0)).push (seqObj "list" #[] 0)).get? b=some o:=λb o ne q=>by
  have lb:b<s.heap.objs.size:=lt_size q;rw[get?_push_ne _ _ _ (by rw[size_push',size_update];exact ne_of_lt (lt_succ_of_lt lb))]
  rw[get?_push_ne _ _ _ (by rw[size_update];exact ne_of_lt lb),get?_update_ne _ _ _ _ ne]
  exact q
 obtain⟨κ,y1,y2⟩:=hy _ kp;show wpAny (model prog w) A _ P E {s with heap:=((s.heap.update a (Obj.mapSeq λ_=> #[])).push (seqObj "tuple" [u,v].toArray 0)).push (seqObj "list" #[] 0)}
 dsimp only;have n2: ¬[u,v].toArray.size<2:=show ¬2<2 by decide
 rw[if_neg n2,if_neg n2];refine wpAny_bind (wpAny_mono (y1 (λk s'=>k=κ/\s'={s with heap:=((s.heap.update a (Obj.mapSeq λ_=> #[])).push (seqObj "tuple" [u,v].toArray 0)).push (seqObj "list" #[] 0)}) ⟨rfl,rfl⟩) ?_ λ_ _ z=>z.elim)
 rintro k s' ⟨rfl,rfl⟩;refine wpAny_bind (wpAny_mono (PySem.W.kat_run (ks:=[u,v]) (vs:=[u,v]) (Q:=λst' s'=>s'={s with heap:=((s.heap.update a (Obj.mapSeq λ_=> #[])).push (seqObj "tuple" [u,v].toArray 0)).push (seqObj "list" #[] 0)}/\failedOf st'=none/\(arrOf st').map (·.2)=(if lt=true then [v,u].toArray else [u,v].toArray))
  (G:=λp s'=>s'={s with heap:=((s.heap.update a (Obj.mapSeq λ_=> #[])).push (seqObj "tuple" [u,v].toArray 0)).push (seqObj "list" #[] 0)}/\p=(if lt=true then #[1,0]else #[0,1]))
  rfl (show 2<=2 by decide) (show 2<64 by decide) (λp st' s' _ e2 e3 ⟨e4,e5⟩=>⟨e4,e3,?_⟩) ?_) ?_ λ_ _ z=>z)
 ·rw[PySem.W.kat_snds rfl e2,e5];cases lt<;>rfl
 ·show wpAny (model prog w) A (keyLt' k v u) _ (λ_ _=>False) _
  refine y2 _ ?_
  cases lt
  ·exact⟨rfl,rfl⟩
  ·refine⟨rfl,?_⟩
   rw[if_pos rfl];dsimp only[length_cons,List.length_nil]
   decide +kernel
 ·rintro⟨⟨⟩,st'⟩ s' ⟨rfl,e3,e4⟩;dsimp only;rw[e4];refine wpAny_bind (seqEpoch_at h6 rfl ?_);refine wpAny_bind (listUpdate_at h6 rfl ?_ (zero_le _) (by cases lt<;>exact(show 2<=sizeLine+1 by decide)))
  rw[e3];simp only[bne_self_eq_false,Bool.false_eq_true,if_false];exact wpAny_pure fi
theorem aZ6 {l:Addr}{u v:Value}{lt:Bool}{Q:Value->Shared->Prop}(hl:s.heap.IsList l [u,v].toArray)
  (hy: ∀(h':Heap) (A:Around),(∀b o,s.heap.get? b=some o->h'.get? b=some o)-> ∃κ:SortKind,
   (∀Q:SortKind->Shared->Prop,Q κ {s with heap:=h'}->wpAny (model prog w) A (keyKind' [u,v].toArray) Q (λ_ _=>False) {s with heap:=h'})/\
   (∀Q:Bool->Shared->Prop,Q lt {s with heap:=h'}->wpAny (model prog w) A (keyLt' κ v u) Q (λ_ _=>False) {s with heap:=h'}))
  (fi:Q (.ref (s.heap.objs.size+1)) {s with heap:=sortedAll s.heap [u,v] (if lt=true then [v,u].toArray else [u,v].toArray)}) :
  wpAny (model prog w) A (call (.builtin "sorted") [.ref l]) Q E s:=by
 refine Calls.call_function_entry kind_sorted plain_sorted entry_sorted (args_sorted1 _) ?_
 unfold Builtin.«sorted»;refine wpAny_bind (m:=checkCount "sorted" 1 1 _) (wpAny_pure ?_);refine wpAny_bind (collect_list hl ?_ (show 2<=sizeLine by decide))
 refine wpAny_bind (wpAny_newList ?_ (show 2<=sizeLine by decide))
 have hz:((s.heap.push (seqObj "list" #[] 0)).update s.heap.objs.size (Obj.mapSeq (· ++[u,v].toArray))).objs.size=s.heap.objs.size+1:=by rw[size_update,size_push']
 have hL:(((s.heap.push (seqObj "list" #[] 0)).update s.heap.objs.size (Obj.mapSeq (· ++[u,v].toArray))).push (seqObj "list" [u,v].toArray 0)).get? (s.heap.objs.size+1)=some (seqObj "list" [u,v].toArray 0):=by
  rw[<-hz];exact get?_push_size _ rfl
 have kp: ∀b o,s.heap.get? b=some o->(((s.heap.push (seqObj "list" #[] 0)).update s.heap.objs.size (Obj.mapSeq (· ++[u,v].toArray))).push (seqObj "list" [u,v].toArray 0)).get? b=some o:=λb o q=>by
  have lb:b<s.heap.objs.size:=lt_size q;rw[get?_push_ne _ _ _ (by rw[hz];exact ne_of_lt (lt_succ_of_lt lb))]
  rw[get?_update_ne _ _ _ _ (ne_of_lt lb),get?_push_ne _ _ _ (ne_of_lt lb)];exact q
 show wpAny _ _ _ _ _ {s with heap:=((s.heap.push (seqObj "list" #[] 0)).update s.heap.objs.size (Obj.mapSeq (· ++[u,v].toArray))).push (seqObj "list" [u,v].toArray 0)}
 rw[hz];refine wpAny_bind (wpAny_holding (wpAny_call_entry slot_list_sort ⟨_,hL,rfl⟩ entry_list_sort (bI6 (lt:=lt) hL (λh' k=> ?_) ⟨_,rfl,?_⟩) (args_list_sort _)))
 ·exact hy h' _ λb o q=>k b o (ne_of_lt (lt_succ_of_lt (lt_size q))) (kp b o q)
 ·exact wpAny_pure ⟨_,rfl,fi⟩
theorem aS1 {Q:Bool->Shared->Prop}{fin:Bool}: ∀(us ws:List Int) (x y:List Value) (i:Nat),Vals (us.map V.int) x->Vals (ws.map V.int) y->fin=decide (us.length<ws.length)->Q (ltL us ws) s->PySem.W.KatLex prog w A true fin Q (x.zip y) i s
 | [],[],x,y,i,hx,hy,hf,q=>by
  cases hx;cases hy;rw[hf];exact q
 | [],b::ws,x,y,i,hx,hy,hf,q=>by
  cases hx;rw[hf];exact q
 | a::us,[],x,y,i,hx,hy,hf,q=>by
  cases hx;cases hy;rw[hf];exact q
 | a::us,b::ws,x,y,i,hx,hy,hf,q=>by
  rw[map_cons]at hx hy;cases hx with
  | cons r1 hx=>
   cases hy with
   | cons r2 hy=>
    obtain⟨t1,rfl⟩:=r1;obtain⟨t2,rfl⟩:=r2;rw[zip_cons_cons];refine PySem.W.kat_cons (wpAny_eqBool_int ?_)
    by_cases c:a=b
    ·subst c;rw[beq_self_eq_true];refine PySem.W.kat_yes (aS1 us ws _ _ (i+1) hx hy (by rw[hf];simp) ?_)
     unfold ltL at q;rw[if_pos rfl]at q;exact q
    ·rw[show(a==b)=false by simpa using c]
     refine PySem.W.kat_no ?_
     unfold ltL at q;rw[if_neg c]at q;cases e:(true&&i==0)
     ·exact PySem.W.kat_one _ _ (lt_int q)
     ·exact oneLt_int q
end
section
variable {X:Cx}
theorem aZ7:iC X (.builtin "sorted") (λxs H Q=> ∃(p a1 a2:Addr) (i j:Int) (us ws:List Int),xs=[.ref p]/\SqL X.K H p [.ref a1,.ref a2]/\SqT X.K H a1 ((i::us).map V.int)/\SqT X.K H a2 ((j::ws).map V.int)/\
  ∀l,H l=none->Q (.ref l) (upd H l (.lst (if ltL (j::ws) (i::us)=true then [.ref a2,.ref a1]else [.ref a1,.ref a2])))):=by
 intro pins s σ H xs us' Q I r h;obtain⟨p,a1,a2,i,j,us,ws,rfl,hq,t1,t2,q⟩:=h;obtain⟨u,rfl,rx⟩:=vals1 r;cases rx;obtain⟨its,rv,pl,hz⟩:=I.list hq;obtain⟨x1,r1,k1,z1⟩:=I.tuple t1;obtain⟨x2,r2,k2,z2⟩:=I.tuple t2;cases rv with
 | cons g1 rv=>
 cases rv with
 | cons g2 rv=>
 cases rv;cases g1;cases g2;refine aZ6 (lt:=ltL (j::ws) (i::us)) pl.isList (λh' A kp=> ?_) ?_
 ·obtain⟨o1,ho1,hc1,n1,hd1⟩:=k1;obtain⟨o2,ho2,hc2,n2,hd2⟩:=k2;rw[map_cons]at r1 r2;cases r1 with
  | cons f1 r1=>
  cases r2 with
  | cons f2 r2=>
  have v1:Vals ((i::us).map V.int) _:= .cons f1 r1;have v2:Vals ((j::ws).map V.int) _:= .cons f2 r2;obtain⟨t1,rfl⟩:=f1;obtain⟨t2,rfl⟩:=f2;refine⟨tuples' (Value.type "int" != Value.type "tuple"),λQ' q'=> ?_,λQ' q'=> ?_⟩
  ·refine PySem.W.kat_kind (fs:=[.int i t1,.int j t2]) (T:= .type "int") (.cons (kp _ _ ho1) hc1 hd1 rfl (.cons (kp _ _ ho2) hc2 hd2 rfl .nil)) (zero_lt_succ _) (λv hv=> ?_) (by decide) q'
   rcases List.mem_cons.mp hv with rfl|hv
   ·exact .now
   ·rw[List.mem_singleton.mp hv];exact .now
  ·have e:(Value.type "int" != Value.type "tuple")=true:=by decide
   rw[e];refine PySem.W.kat_lt (kp _ _ ho2) hd2 (kp _ _ ho1) hd1 (aS1 _ _ _ _ 0 (by simpa using v2) (by simpa using v1) ?_ q')
   have l1:=v1.length;have l2:=v2.length;simp only[length_map]at l1 l2;simp only[size_toArray];rw[<-l1,<-l2]
 ·refine⟨.ref (s.heap.objs.size+1),_,?_,rfl,q (s.heap.objs.size+1) (I.hok.fresh (le_succ _))⟩
  obtain⟨c,hc⟩:=sortedAll_at s.heap [Value.ref a1,Value.ref a2] (if ltL (j::ws) (i::us)=true then [Value.ref a2,Value.ref a1].toArray else [Value.ref a1,Value.ref a2].toArray);refine I.laid (t':=s.toks) (λb o e=>sortedAll_old e) (le_succ _) ?_
  by_cases e:ltL (j::ws) (i::us)=true
  ·rw[if_pos e]at hc⊢;exact⟨show 2<=sizeLine by decide,[.ref a2,.ref a1],c,.cons rfl (.cons rfl .nil),by rw[if_pos e];exact hc⟩
  ·rw[if_neg e]at hc⊢;exact⟨show 2<=sizeLine by decide,[.ref a1,.ref a2],c,.cons rfl (.cons rfl .nil),by rw[if_neg e];exact hc⟩
def aZ8:List D->(B->Prop)->Prop:=g1 λd Q=> ∃(i j:Int) (us ws:List Int),d= .lst [.tup ((i::us).map D.int),.tup ((j::ws).map D.int)]/\
 Q (.ow (if ltL (j::ws) (i::us)=true then [.tup ((j::ws).map D.int),.tup ((i::us).map D.int)]else [.tup ((i::us).map D.int),.tup ((j::ws).map D.int)]))
theorem bI7:pB X (.builtin "sorted") aZ8:=by
 intro A H ds vs Q0 Q hA r g k;obtain⟨d,v,rfl,rfl,rv,i,j,us,ws,rfl,g'⟩:=xW g r;simp only[Rep]at rv;obtain⟨p,xs,rfl,np,hp,rl⟩:=rv;obtain⟨y1,yr,rfl,s1,rl⟩:=rl.uncons;obtain⟨y2,yr,rfl,s2,rl⟩:=rl.uncons;have:=rl.unnil;subst this;have s1':=s1;have s2':=s2;simp only[Rep]at s1 s2;obtain⟨a1,w1,rfl,c1,q1⟩:=s1;obtain⟨a2,w2,rfl,c2,q2⟩:=s2;have e1:=aQ.unints q1;have e2:=aQ.unints q2;subst e1 e2
 refine⟨_,aZ7,p,a1,a2,i,j,us,ws,rfl,.inl (.inl hp),c1.imp And.right id,c2.imp And.right id,λl hl=>k _ _ _ g' (bN hl _) ?_⟩
 cases ltL (j::ws) (i::us)
 ·exact cW (.refl _) hl (.cons s1' (.cons s2' .nil))
 ·exact cW (.refl _) hl (.cons s2' (.cons s1' .nil))
end
section
variable {prog:Program}{w:World}{A:Around}{E:Value->Shared->Prop}{s:Shared}
def aG6 (prog:Program)(w:World)(A:Around)(E:Value->Shared->Prop)(fin:Bool)(Q:Value->Shared->Prop):List (Value×Value)->Shared->Prop
 | [],s=>Q (.bool fin) s
 | (p,q)::r,s=>wpAny (model prog w) A (eqBool p q) (λe s'=>if e=true then aG6 prog w A E fin Q r s' else wpAny (model prog w) A (richCompare .LtE p q) Q E s') E s
theorem aG6.mono {fin:Bool}{Q Q':Value->Shared->Prop}(k: ∀v s,Q v s->Q' v s): ∀(l:List (Value×Value)) (s:Shared),aG6 prog w A E fin Q l s->aG6 prog w A E fin Q' l s
 | [],s,h=>k _ s h
 | (p,q)::r,s,h=>by
  have h':wpAny (model prog w) A (eqBool p q) (λe s'=>if e=true then aG6 prog w A E fin Q r s' else wpAny (model prog w) A (richCompare .LtE p q) Q E s') E s:=h
  refine wpAny_mono h' (λe s' he=> ?_) λ_ _ z=>z
  cases e
  ·rw[if_neg (by decide)]at he⊢
   exact wpAny_mono he k λ_ _ z=>z
  ·rw[if_pos rfl]at he⊢;exact aG6.mono k r s' he
end
end M
end
section
namespace L2
open PySem PySem.Spec PyProof.Rows
end L2
namespace M
open PySem PySem.Spec PyProof.Rows L2
section
variable {X:Cx}{a:Expr}{pos:Pos}{ta:UE}
def uIsB (n c:Bool)(t:UE):UE:=λρ Q=>t ρ λb ρ1=>match b.d with
 | .bl k=>Q (.pu (.bl (n ^^ (k==c)))) ρ1
 | _=>False
end
end M
end
section
namespace L2
open PySem PySem.Spec PyProof.Rows
end L2
namespace M
open PySem PySem.Spec PyProof.Rows L2
section
variable {X:Cx}{a b:Expr}
def rngD (i:Int)(n:Nat):List D:=(List.range n).map λk:Nat=> .int (i+(k:Int))
def uLR (ta:UA):UE:=λρ Q=>ta ρ λds ρ1=>match ds with
 | [.int i,.int j]=>(-(2^62)<=i/\i<2^62/\ -(2^62)<=j/\j<2^62)/\(j-i).toNat<=1000/\Q (.ow (rngD i (j-i).toNat)) ρ1
 | _=>False
end
end M
end
section
namespace L2
open PySem PySem.Spec PyProof.Rows
end L2
namespace M
open PySem PySem.Spec PyProof.Rows L2
section
variable {X:Cx}{K:PySem.W.Frag}{A:AS}{H:Hp}{e e3:Expr}{t3:UE}{pos p2:Pos}
def uRevL (t:UV)(t3:UE):UE:=λρ Q=>t ρ λd ρ1=>t3 ρ1 λb ρ2=>b.d= .int (-1)/\match d with
 | .lst l=>Q (.ow l.reverse) ρ2
 | _=>False
end
end M
end
section
namespace M
open PySem PySem.Spec PyProof.Rows L2
section
variable {X:Cx}{e:Expr}{es:List Expr}{pos:Pos}{te:UE}
theorem ilB {i:Nat}(h:Nat.ble (i+1) X.N.length=true): ∀pins σ H s,Inv X pins σ H s->i<σ.length:=il rfl (Nat.le_of_ble_eq_true h)
theorem aM (i:Nat){x:Str}{pos:Pos}(h:PE X (.Name x pos) (sD i):=by exact pv _):PU X (.Name x pos) (a9 i):=bX i h
theorem bC (i:Nat){x:Str}{pos:Pos}(h:PE X (.Name x pos) (sD i):=by exact pv _):PUV X (.Name x pos) (aN i):=pS i h
theorem bV {x:Str}{pos':Pos}(i:Nat)(hN:X.N.Nodup)(he:PU X e te)(hi:X.N[i]? =some x:=by rfl)(hx:Loc X.env.scope x:=by first|exact Or.inl rfl|exact Or.inr rfl)(hs:swapsWith e (some (.Name x pos')) pos.line X.env=pure false:=by rfl)(hf:X.fn x=true\/X.env.scope.names.lookup x=some .local:=by first|exact .inl rfl|exact .inr rfl|assumption)
  (hl: ∀pins σ H s,Inv X pins σ H s->i<σ.length:=by exact ilB rfl):PUS X (.Assign [.Name x pos'] e pos) (b9 i te):=pV i hN hi hx he hs hf hl
theorem us_g {x:Str}{pos':Pos}{op:Operator}{g:D->D->(B->Prop)->Prop}(i:Nat)(hN:X.N.Nodup)(he:PU X e te)(ho:IpU X op g)(hi:X.N[i]? =some x:=by rfl)(hx:Loc X.env.scope x:=by first|exact Or.inl rfl|exact Or.inr rfl)(hf:X.fn x=true\/X.env.scope.names.lookup x=some .local:=by first|exact .inl rfl|exact .inr rfl|assumption)
  (hl: ∀pins σ H s,Inv X pins σ H s->i<σ.length:=by exact ilB rfl):PUS X (.AugAssign (.Name x pos') op e pos) (aQ8 i g te):=bF4 i hN hi hx he ho hf hl
theorem cU {a b:Expr}{ti:UE}{t:UV}(ha:PUV X a t)(hb:PU X b ti)(hs:a12 b:=by exact λ_ _=>rfl):PU X (.Subscript a b pos) (uIx t ti):=zB ha hb hs
theorem d7 {k k':Nat}{ps:List Str}{φ:Φ}{x:Str}{p:Pos}{t:UA}(F:Fn X.prog X.w X.K X.mg X.base x ps k φ)(hr:dA k' X.A)(ha:PUA X (e::es) t)(hk:k<=k':=by decide)(hg:Gl X x:=by rfl)(hdb:(x==("__debug__":Str))=false:=by decide)
  (he:starEach (e::es) X.env=(false,eval e X.env)::starEach es X.env:=by rfl) (hpl:(backTo pos (starEach es X.env)).any (·.1)=false:=by rfl):PU X (.Call (.Name x p) (e::es) [] pos) (aI φ t):=wJ F hr hk hg ha hdb he hpl
end
section
variable {X:Cx}{es:List Expr}{t:UA}
theorem cO {i:Int}{j}{p:Pos}(h:PUA X es t):PUA X (.Constant (.int i) j p::es) (a6 (uC (.int i)) t):=aA aC h rfl
theorem sL {fs:List Expr}{j}{p:Pos}{ta:UE}(a:PU X (.Tuple fs j p) ta)(h:PUA X es t):PUA X (.Tuple fs j p::es) (a6 ta t):=aA a h rfl
theorem bI8 {o:UnaryOp}{e:Expr}{p:Pos}{ta:UE}(a:PU X (.UnaryOp o e p) ta)(h:PUA X es t):PUA X (.UnaryOp o e p::es) (a6 ta t):=aA a h rfl
theorem aJ (i:Nat){x:Str}{p:Pos}(h:PUA X es t)(a:PE X (.Name x p) (sD i):=by exact pv _):PUA X (.Name x p::es) (a6 (a9 i) t):=aA (bX i a) h rfl
structure WA (X:Cx)(es:List Expr)(t:UA):Prop where
 out:PUA X es t
theorem iN:WA X [] aE:=⟨a7⟩
theorem hX {i:Int}{j}{p:Pos}(h:WA X es t):WA X (.Constant (.int i) j p::es) (a6 (uC (.int i)) t):=⟨cO h.out⟩
theorem bV3 {i:Int}{j}{p q:Pos}(h:WA X es t):WA X (.UnaryOp .USub (.Constant (.int i) j p) q::es) (a6 (vE (uC (.int i))) t):=⟨bI8 (pX aC) h.out⟩
theorem zW {fs:List Expr}{j}{p:Pos}{tf:UA}(a:WA X fs tf)(h:WA X es t):WA X (.Tuple fs j p::es) (a6 (eC tf) t):=⟨sL (cQ a.out) h.out⟩
structure WS (X:Cx)(sts:List Stmt)(t:US):Prop where
 out:sF X sts t
theorem c06 {sts:List Stmt}{u:US}(h:sF X sts u):WS X sts u:=⟨h⟩
theorem ws_lw {x:Str}{pos pos' p:Pos}{i:Nat}{sts:List Stmt}{u:US}(h:WA X es t)(r:WS X sts u)(hN:X.N.Nodup)(hi:X.N[i]? =some x:=by rfl)(hx:Loc X.env.scope x:=by first|exact Or.inl rfl|exact Or.inr rfl)(hf:X.fn x=true\/X.env.scope.names.lookup x=some .local:=by first|exact .inl rfl|exact .inr rfl|assumption)
  (hl: ∀pins σ H s,Inv X pins σ H s->i<σ.length:=by exact ilB rfl):WS X (.Assign [.Name x pos'] (.List es p) pos::sts) (aK (b9 i (iL t)) u):=⟨aB (pV i hN hi hx (dO h.out) rfl hf hl) r.out⟩
theorem ws_lx {x:Str}{pos pos' p q:Pos}{i:Nat}{ix:Expr}{ti:UE}{sts:List Stmt}{u:US}(h:WA X es t)(a:PU X ix ti)(r:WS X sts u)(hN:X.N.Nodup)(hs:a12 ix:=by exact λ_ _=>rfl)(hi:X.N[i]? =some x:=by rfl)(hx:Loc X.env.scope x:=by first|exact Or.inl rfl|exact Or.inr rfl)(hf:X.fn x=true\/X.env.scope.names.lookup x=some .local:=by first|exact .inl rfl|exact .inr rfl|assumption)
  (hl: ∀pins σ H s,Inv X pins σ H s->i<σ.length:=by exact ilB rfl):WS X (.Assign [.Name x pos'] (.Subscript (.List es p) ix q) pos::sts) (aK (b9 i (uIx (uV (iL t)) ti)) u):=⟨aB (pV i hN hi hx (zB (a35 (dO h.out)) a hs) rfl hf hl) r.out⟩
end
end M
end
section
namespace L2
open PySem PySem.Spec PyProof.Rows
def Calm (f:Obj->Obj):Prop:= ∀o,(f o).dict=o.dict/\(o.isFreed=false->(f o).isFreed=false)
def jA {α:Type}:Sem α->Prop
 | .pure _=>True
 | .raise _=>True
 | .unsupported _=>True
 | .finish _=>True
 | .rule _ k=>jA (k ())
 | .at _ k=>jA (k ())
 | .load _ _ k=> ∀o,jA (k o)
 | .update _ _ f k=>Calm f/\jA (k ())
 | .alloc _ k=> ∀a,jA (k a)
 | .loadIfAlive _ k=> ∀o,jA (k o)
 | .point _ k=>jA (k ())
 | .register _ _=>True
 | .stack k=> ∀l,jA (k l)
 | _=>False
def DK (h h':Heap):Prop:= ∀b o,h.get? b=some o-> ∃o',h'.get? b=some o'/\o'.dict=o.dict
theorem DK.refl (h:Heap):DK h h:=λb o q=>⟨o,q,rfl⟩
theorem DK.trans {h h' h'':Heap}(a:DK h h')(b:DK h' h''):DK h h'':=λc o q=>by
 obtain⟨o',q',e⟩:=a c o q;obtain⟨o'',q'',e'⟩:=b c o' q';exact⟨o'',q'',e'.trans e⟩
theorem DK.update {h:Heap}{a:Addr}{f:Obj->Obj}(c:Calm f):DK h (h.update a f):=λb o q=>by
 by_cases e:a=b
 ·subst e;exact⟨f o,get?_update_self f q ((c o).2 (Heap.get?_some_iff.mp q).2),(c o).1⟩
 ·exact⟨o,(Heap.get?_update_other _ _ e).trans q,rfl⟩
theorem bV4 {α:Type}{M:Model}{Γ:PySem.Ctx}: ∀{t:Sem α} {Q:α->Pos->Shared->Prop} {E:Value->Pos->Shared->Prop} {p:Pos} {s:Shared},jA t->Sem.wp M Γ t Q E p s->Sem.wp M Γ t (λa p' s'=>Q a p' s'/\DK s.heap s'.heap) (λe p' s'=>E e p' s'/\DK s.heap s'.heap) p s:=by
 intro t
 induction t with
 | pure a=>intro Q E p s _ h;exact⟨h,.refl _⟩
 | raise e=>intro Q E p s _ h;exact⟨h,.refl _⟩
 | rule _ k ih=>intro Q E p s t h;exact ih () t h
 | «at» _ k ih=>intro Q E p s t h;exact ih () t h
 | load a _ k ih=>intro Q E p s t ⟨o,q,h⟩;exact⟨o,q,ih o (t o) h⟩
 | update a _ f k ih=>
  intro Q E p s t ⟨q,h⟩;refine⟨q,?_⟩;have:=ih () t.2 h;exact Sem.wp_mono _ _ _ (λa p' s' z=>⟨z.1,(DK.update t.1).trans z.2⟩) (λa p' s' z=>⟨z.1,(DK.update t.1).trans z.2⟩) _ _ this
 | alloc o k ih=>
  intro Q E p s t h;have:=ih _ (t _) h;have pu:DK s.heap (s.heap.push o):=λb o' q=>⟨o',get?_push_of_some _ q,rfl⟩
  exact Sem.wp_mono _ _ _ (λa p' s' z=>⟨z.1,pu.trans z.2⟩) (λa p' s' z=>⟨z.1,pu.trans z.2⟩) _ _ this
 | loadIfAlive a k ih=>intro Q E p s t h;exact ih _ (t _) h
 | point _ k ih=>intro Q E p s t h;exact ih () t h
 | stack k ih=>intro Q E p s t h;exact ih _ (t _) h
 | unsupported _=>intro Q E p s _ h;exact h.elim
 | finish _=>intro Q E p s _ h;exact h.elim
 | register _ _=>intro Q E p s _ h;exact h.elim
 | _=>intro Q E p s t h;exact False.elim t
theorem aV {α β:Type}{f:α->Sem β}: ∀{t:Sem α},jA t->(∀a,jA (f a))->jA (t.bind f):=by
 intro t
 induction t with
 | pure a=>intro _ h;exact h a
 | raise e=>intro _ _;exact trivial
 | unsupported _=>intro _ _;exact trivial
 | finish _=>intro _ _;exact trivial
 | rule _ k ih=>intro t h;exact ih () t h
 | «at» _ k ih=>intro t h;exact ih () t h
 | load a _ k ih=>intro t h o;exact ih o (t o) h
 | update a _ f k ih=>intro t h;exact⟨t.1,ih () t.2 h⟩
 | alloc o k ih=>intro t h a;exact ih a (t a) h
 | loadIfAlive a k ih=>intro t h o;exact ih o (t o) h
 | point _ k ih=>intro t h;exact ih () t h
 | register _ _=>intro _ _;exact trivial
 | stack k ih=>intro t h l;exact ih l (t l) h
 | _=>intro t _;exact False.elim t
theorem qB {α:Type}{M:Model}{A:Around}{t:Sem α}{Q:α->Shared->Prop}{E:Value->Shared->Prop}{s:Shared}(c:jA t)(h:wpAny M A t Q E s):wpAny M A t (λa s'=>Q a s'/\DK s.heap s'.heap) (λe s'=>E e s'/\DK s.heap s'.heap) s:=λΓ p hin=>bV4 c (h Γ p hin)
theorem aG7 {a:Addr}{part:Option Value}:jA (loadPart a part):=λ_=>trivial
theorem aS2 (v:Value):jA (fieldsOf v):=by
 unfold fieldsOf;split
 ·refine aV aG7 λo=> ?_
  split<;>exact trivial
 ·exact trivial
theorem qC (v:Value)(i:Nat):jA (PySem.field v i):=aV (aS2 v) λvs=>by
 split<;>exact trivial
theorem aS3 (f:Array Value->Array Value):Calm (Obj.mapFields f):=λo=>by
 obtain⟨c,d,dt,sl⟩:=o;cases dt<;>exact⟨rfl,λh=>h⟩
theorem nX (v:Value)(i:Nat)(x:Value):jA (setField v i x):=by
 unfold setField;split
 ·unfold updateField;refine aV aG7 λo=> ?_
  split
  ·split
   ·exact⟨aS3 _,trivial⟩
   ·exact trivial
  ·exact trivial
 ·exact trivial
theorem sM (e:Value)(f:Option Addr):jA (setFlight e f):=aV (qC _ _) λtb=>by
 split
 ·exact nX _ _ _
 ·exact trivial
theorem vH:jA stack:=λ_=>trivial
theorem aZ9 (f:Addr)(b:Bool):jA (entryPlaceOf f b):=aV vH λl=>by
 split<;>exact trivial
theorem bI9 (cls:Value)(data:Data)(d:Option Addr):jA (newObj cls data d):=by
 have as:jA (newObjAsIs cls data d):=by
  unfold newObjAsIs;refine aV (λ_=>trivial) λa=> ?_
  split
  ·refine aV ?_ λb=> ?_
   ·unfold classHasDel;refine aV (λ_=>trivial) λo=> ?_
    split<;>exact trivial
   ·split<;>exact trivial
  ·exact trivial
 unfold newObj;split<;>first|exact as| (split<;>first|exact as|exact trivial| (refine aV trivial λ_=>as))
theorem b00 (a b c d e:Value)(pl:List Value):jA (EntryCells.newEntry a b c d e pl):=by
 unfold EntryCells.newEntry newFields;exact bI9 _ _ _
theorem a47: ∀l:List Env,jA (readyFrames l)
 | []=>trivial
 | env::outer=>by
  unfold readyFrames;split
  ·refine aV (λ_=>trivial) λo=> ?_
   split
   ·exact trivial
   ·refine aV ?_ λb=> ?_
    ·unfold behindIsImport;split
     ·exact trivial
     ·split
      ·exact trivial
      ·exact aV (qC _ _) λ_=>trivial
    ·refine aV ?_ λv=> ?_
     ·unfold keptBack;split
      ·split
       ·exact trivial
       ·exact aV (aV vH λ_=>trivial) λ_=>trivial
      ·exact trivial
     ·exact⟨λo=>⟨rfl,λh=>by obtain⟨c,d,dt,sl⟩:=o;cases dt<;>exact h⟩,a47 outer⟩
  ·exact trivial
theorem b01 (env:Env):jA (PySem.frameOf env):=by
 unfold PySem.frameOf;refine aV (aV vH λ_=>trivial) λl=>aV ?_ λo=> ?_
 ·unfold frameObject;split
  ·exact trivial
  ·exact aV (a47 _) λ_=>trivial
 ·split<;>exact trivial
theorem aG8 (e:Value)(env:Env):jA (noteFrame e env):=by
 have last: ∀h f,jA (do setField e 1 (<-EntryCells.newEntry h (<-PySem.frameOf env) .none (rawInt f) .none (<-entryPlaceOf f (h != .none)))):=λh f=>
  aV (b01 env) λa=>aV (aZ9 _ _) λb=>aV (b00 _ _ _ _ _ _) λc=>nX _ _ _
 unfold noteFrame;split
 ·refine aV (qC _ _) λh=> ?_
  split
  ·refine aV (qC _ _) λx=> ?_
   split
   ·exact trivial
   ·exact aV (nX _ _ _) λ_=>last _ _
  ·exact last _ _
 ·exact trivial
theorem wN (env:Env)(e:Value):jA (leaving env e):=aV (aG8 e env) λ_=>sM e none
def Tr (h:Heap)(e T:Addr):Prop:= ∃oe vs,h.get? e=some oe/\oe.data= .fields vs/\vs[1]? =some (.ref T)
theorem Tr.one {h:Heap}{e T T':Addr}(a:Tr h e T)(b:Tr h e T'):T=T':=by
 obtain⟨o,vs,h1,h2,h3⟩:=a;obtain⟨o',vs',g1,g2,g3⟩:=b;rw[h1]at g1;cases g1;rw[h2]at g2;cases g2;rw[h3]at g3;cases g3;rfl
structure uT (fs:List Addr)(e:Addr)(h h':Heap):Prop where
 keep: ∀b o,h.get? b=some o->b ∉ fs->b≠e-> ¬Tr h e b->h'.get? b=some o
 slot:h.UpToSlots h'
 tr: ∀T,Tr h' e T->T∈fs\/T=e\/Tr h e T\/h.get? T=none
 rcd: ∀T,Tr h' e T-> ∃o vs,h'.get? T=some o/\o.data= .fields vs
structure aC1 (fs:List Addr)(e:Addr)(h h':Heap):Prop extends uT fs e h h' where
 dk:DK h h'
theorem aL1 {h base:Heap}{e:Addr}{cls a0 fl:Value}(t:h.TracedAtW base e cls a0 fl): ∃T,Tr h e T/\base.get? T=none/\T≠e/\ ∃o vs,h.get? T=some o/\o.data= .fields vs:=by
 obtain⟨oe,vs,T,oT,ts,he,_,hd,h1,hb,hne,hT,hdT,_⟩:=t;exact⟨T,⟨oe,vs,he,hd,h1⟩,hb,hne,oT,ts,hT,hdT⟩
theorem jF {h base B:Heap}{e T:Addr}{cls a0 fl:Value}(t:h.TracedAtW base e cls a0 fl)(x:Tr h e T)(hn:B.get? T=none):h.TracedAtW B e cls a0 fl:=by
 obtain⟨oe,vs,T',oT,ts,he,hc,hd,h1,hb,hne,hT,hdT,h3⟩:=t;obtain rfl:=x.one ⟨oe,vs,he,hd,h1⟩;exact⟨oe,vs,T,oT,ts,he,hc,hd,h1,hn,hne,hT,hdT,h3⟩
section
variable {base h:Heap}{l:List Env}{e T:Addr}{cls a0 fl:Value}
def hid (h:Heap)(l:List Env)(e T:Addr):Heap:=PySem.W.hideAll h (frs l++[e,T])
theorem pF {b:Addr}(hb:b∈frs l\/b=e\/b=T):(hid h l e T).get? b=none:=PySem.W.hideAll_none _ (by
 rcases hb with z|z|z
 ·exact List.mem_append.mpr (.inl z)
 ·exact List.mem_append.mpr (.inr (by simp[z]))
 ·exact List.mem_append.mpr (.inr (by simp[z])))
theorem wO {b:Addr}{o:Obj}(q:h.get? b=some o)(h1:b ∉ frs l)(h2:b≠e)(h3:b≠T):(hid h l e T).get? b=some o:=PySem.W.hideAll_get _ q (by
 intro z;rcases List.mem_append.mp z with z|z
 ·exact h1 z
 ·simp at z
  exact z.elim h2 h3)
theorem qD (f:h.FunFrames base l):h.FunFrames (hid h l e T) l:=PySem.W.funFrames_hide f λenv he b hb=>List.mem_append.mpr (.inl (List.mem_filterMap.mpr ⟨env,he,hb⟩))
theorem uD (st:base.StaysIn h)(f:h.FunFrames base l)(he:base.get? e=none)(hT:base.get? T=none):base.StaysIn (hid h l e T):=λb o q=>wO (st b o q) (λz=>by rw[(f.mem z).1]at q;cases q) (λz=>by rw[z,he]at q;cases q) λz=>by rw[z,hT]at q;cases q
theorem pG {B h':Heap}(st:base.StaysIn B): ∀{l:List Env},h'.FunFrames B l->h'.FunFrames base l
 | [],_=>trivial
 | env::_,⟨hk,⟨L,o,hf,hn,ho,hd⟩,hr⟩=>⟨hk,⟨L,o,hf,(by
   cases q:base.get? L with
   | none=>rfl
   | some u=>have:=st L u q;rw[hn]at this;cases this),ho,hd⟩,pG st hr⟩
theorem none_of {B:Heap}(st:base.StaysIn B){b:Addr}(q:B.get? b=none):base.get? b=none:=by
 cases z:base.get? b with
 | none=>rfl
 | some u=>have:=st b u z;rw[q]at this;cases this
theorem aL2 {l':List Env}{h':Heap}(x:Tr h e T)(st:(hid h l e T).StaysIn h')(t:h'.TracedAtW (hid h l e T) e cls a0 fl)(up:h.UpToSlots h'):uT (frs l) e h h':=by
 refine⟨λb o q h1 h2 h3=>st b o (wO q h1 h2 λz=>h3 (by rw[z];exact x)),up,λT' x'=> ?_,λT' x'=> ?_⟩
 ·obtain⟨T2,y,hn,_,_⟩:=aL1 t;obtain rfl:=x'.one y
  by_cases c1:T'∈frs l
  ·exact .inl c1
  by_cases c2:T'=e
  ·exact .inr (.inl c2)
  by_cases c3:T'=T
  ·exact .inr (.inr (.inl (by rw[c3];exact x)))
  refine .inr (.inr (.inr ?_))
  cases q:h.get? T' with
  | none=>rfl
  | some o=>rw[wO q c1 c2 c3]at hn;cases hn
 ·obtain⟨T2,y,_,_,z⟩:=aL1 t;obtain rfl:=x'.one y;exact z
end
section
variable {M:Model}{A:Around}{E:Value->Shared->Prop}{s:Shared}{base:Heap}{env:Env}{outer:List Env}{L e:Addr}{cls a0:Value}{Q:Unit->Shared->Prop}
theorem b02 (hfr:A.frames=some (env::outer))(hf:env.frame=some L)(F:FlyingW base (env::outer) e cls a0 s.heap)
  (hQ: ∀h',FlyingW base outer e cls a0 h'->uT (frs (env::outer)) e s.heap h'->Q () {s with heap:=h'}):wpAny M A (leaving env (.ref e)) Q E s:=by
 obtain⟨f1,f2,f3,f4⟩:=F;obtain⟨T,x,hT,_,_⟩:=aL1 (fl:= .none) f4;have stB:=uD (T:=T) f1 f3 f2 hT;refine wpAny_leaves_onW (base:=hid s.heap (env::outer) e T) hfr hf ⟨λb o q=>of_hideAll _ q,pF (.inr (.inl rfl)),qD f3,jF (fl:= .none) f4 x (pF (.inr (.inr rfl)))⟩ λh' F' up=> ?_
 obtain⟨g1,g2,g3,g4⟩:=F';obtain⟨T',x',hT',_,_⟩:=aL1 (fl:= .none) g4;exact hQ h' ⟨λb o q=>g1 b o (stB b o q),f2,pG stB g3,jF (fl:= .none) g4 x' (none_of stB hT')⟩ (aL2 (l':=outer) x g1 g4 up)
theorem b88 (hfr:A.frames=some (env::outer))(hf:env.frame=some L)(F:FlyingW base (env::outer) e cls a0 s.heap)
  (hQ: ∀h',HeldW base (env::outer) e cls a0 L h'->uT (frs (env::outer)) e s.heap h'->Q () {s with heap:=h'}):wpAny M A (noteFrame (.ref e) env) Q E s:=by
 obtain⟨f1,f2,f3,f4⟩:=F;obtain⟨T,x,hT,_,_⟩:=aL1 (fl:= .none) f4;have stB:=uD (T:=T) f1 f3 f2 hT;refine wpAny_looks_onW (base:=hid s.heap (env::outer) e T) hfr hf ⟨λb o q=>of_hideAll _ q,pF (.inr (.inl rfl)),qD f3,jF (fl:= .none) f4 x (pF (.inr (.inr rfl)))⟩ λh' F' up=> ?_
 obtain⟨g1,g2,g3,g4⟩:=F';obtain⟨T',x',hT',_,_⟩:=aL1 g4;exact hQ h' ⟨λb o q=>g1 b o (stB b o q),f2,pG stB g3,jF g4 x' (none_of stB hT')⟩ (aL2 (l':=outer) x g1 g4 up)
theorem b89 {l:List Env}{fl:Value}(F:base.StaysIn s.heap/\base.get? e=none/\s.heap.FunFrames base l/\s.heap.TracedAtW base e cls a0 fl)
  (hQ: ∀h',FlyingW base l e cls a0 h'->uT (frs l) e s.heap h'->Q () {s with heap:=h'}):wpAny M A (setFlight (.ref e) none) Q E s:=by
 obtain⟨f1,f2,f3,f4⟩:=F;obtain⟨T,x,hT,_,_⟩:=aL1 f4;have stB:=uD (T:=T) f1 f3 f2 hT;refine wpAny_setFlight_noneW (base:=hid s.heap l e T) (λb o q=>of_hideAll _ q) (qD f3) (jF f4 x (pF (.inr (.inr rfl)))) λh' g1 g3 g4 up=> ?_
 obtain⟨T',x',hT',_,_⟩:=aL1 (fl:= .none) g4;exact hQ h' ⟨λb o q=>g1 b o (stB b o q),f2,pG stB g3,jF (fl:= .none) g4 x' (none_of stB hT')⟩ (aL2 (l':=l) (fl:= .none) x g1 g4 λb o q n=>⟨o.slots,up b o q n⟩)
theorem aL3 {oe:Obj}{vs:Array Value}(hfr:A.frames=some (env::outer))(hl:s.heap.FunFrames base (env::outer))(hf:env.frame=some L)(he:s.heap.get? e=some oe)(hkb:base.StaysIn s.heap)(hen:base.get? e=none)(hd:oe.data= .fields vs)(h1:vs[1]? =some .none)(h0:vs[0]? =some a0)
  (hQ: ∀h',FlyingW base outer e oe.cls a0 h'->uT (frs (env::outer)) e s.heap h'->Q () {s with heap:=h'}):wpAny M A (leaving env (.ref e)) Q E s:=by
 have stB:=uD (e:=e) (T:=e) hkb hl hen hen;have nt: ∀T,¬Tr s.heap e T:=by
  rintro T ⟨o,ws,k1,k2,k3⟩;rw[he]at k1;cases k1;rw[hd]at k2;cases k2;rw[h1]at k3;cases k3
 refine wpAny_leaving_firstW (base:=hid s.heap (env::outer) e e) hfr (qD hl) hf he (λb o q=>of_hideAll _ q) (pF (.inr (.inl rfl))) hd h1 h0 λh' F'=> ?_
 obtain⟨g1,⟨_,_,g3⟩,g4,up⟩:=F';obtain⟨T',x',hT',hne,hrec⟩:=aL1 (fl:= .none) g4;refine hQ h' ⟨λb o q=>g1 b o (stB b o q),hen,pG stB g3,jF (fl:= .none) g4 x' (none_of stB hT')⟩ ⟨λb o q k1 k2 _=>g1 b o (wO q k1 k2 k2),up,λT x2=> ?_,λT x2=> ?_⟩
 ·obtain rfl:=x2.one x'
  by_cases c1:T∈frs (env::outer)
  ·exact .inl c1
  refine .inr (.inr (.inr ?_))
  cases q:s.heap.get? T with
  | none=>rfl
  | some o=>rw[wO q c1 hne hne]at hT';cases hT'
 ·obtain rfl:=x2.one x';exact hrec
theorem b90 (hfr:A.frames=some (env::outer))(hf:env.frame=some L)(F:FlyingW base (env::outer) e cls a0 s.heap)
  (hQ: ∀h',FlyingW base outer e cls a0 h'->aC1 (frs (env::outer)) e s.heap h'->Q () {s with heap:=h'}):wpAny M A (leaving env (.ref e)) Q E s:=
 wpAny_mono (qB (wN env (.ref e)) (b02 (Q:=λ_ s'=> ∃h',s'={s with heap:=h'}/\FlyingW base outer e cls a0 h'/\uT (frs (env::outer)) e s.heap h') hfr hf F λh' a b=>⟨h',rfl,a,b⟩)) (λ_ s' ⟨⟨h',q,a,b⟩,dk⟩=>by subst q;exact hQ h' a ⟨b,dk⟩) λ_ _ z=>z.1
theorem bJ0 (hfr:A.frames=some (env::outer))(hf:env.frame=some L)(F:FlyingW base (env::outer) e cls a0 s.heap)
  (hQ: ∀h',HeldW base (env::outer) e cls a0 L h'->aC1 (frs (env::outer)) e s.heap h'->Q () {s with heap:=h'}):wpAny M A (noteFrame (.ref e) env) Q E s:=
 wpAny_mono (qB (aG8 (.ref e) env) (b88 (Q:=λ_ s'=> ∃h',s'={s with heap:=h'}/\HeldW base (env::outer) e cls a0 L h'/\uT (frs (env::outer)) e s.heap h') hfr hf F λh' a b=>⟨h',rfl,a,b⟩)) (λ_ s' ⟨⟨h',q,a,b⟩,dk⟩=>by subst q;exact hQ h' a ⟨b,dk⟩) λ_ _ z=>z.1
theorem a48 {l:List Env}{fl:Value}(F:base.StaysIn s.heap/\base.get? e=none/\s.heap.FunFrames base l/\s.heap.TracedAtW base e cls a0 fl)
  (hQ: ∀h',FlyingW base l e cls a0 h'->aC1 (frs l) e s.heap h'->Q () {s with heap:=h'}):wpAny M A (setFlight (.ref e) none) Q E s:=
 wpAny_mono (qB (sM (.ref e) none) (b89 (Q:=λ_ s'=> ∃h',s'={s with heap:=h'}/\FlyingW base l e cls a0 h'/\uT (frs l) e s.heap h') F λh' a b=>⟨h',rfl,a,b⟩)) (λ_ s' ⟨⟨h',q,a,b⟩,dk⟩=>by subst q;exact hQ h' a ⟨b,dk⟩) λ_ _ z=>z.1
theorem aS4 {oe:Obj}{vs:Array Value}(hfr:A.frames=some (env::outer))(hl:s.heap.FunFrames base (env::outer))(hf:env.frame=some L)(he:s.heap.get? e=some oe)(hkb:base.StaysIn s.heap)(hen:base.get? e=none)(hd:oe.data= .fields vs)(h1:vs[1]? =some .none)(h0:vs[0]? =some a0)
  (hQ: ∀h',FlyingW base outer e oe.cls a0 h'->aC1 (frs (env::outer)) e s.heap h'->Q () {s with heap:=h'}):wpAny M A (leaving env (.ref e)) Q E s:=
 wpAny_mono (qB (wN env (.ref e)) (aL3 (Q:=λ_ s'=> ∃h',s'={s with heap:=h'}/\FlyingW base outer e oe.cls a0 h'/\uT (frs (env::outer)) e s.heap h') hfr hl hf he hkb hen hd h1 h0 λh' a b=>⟨h',rfl,a,b⟩)) (λ_ s' ⟨⟨h',q,a,b⟩,dk⟩=>by subst q;exact hQ h' a ⟨b,dk⟩) λ_ _ z=>z.1
end
structure Fly (base:Heap)(l:List Env)(e C:Addr)(H:Hp)(h:Heap):Prop where
 fl: ∃a0,FlyingW base l e (.ref C) a0 h
 he:H e=none
 ht: ∀T,Tr h e T->H T=none
structure aG9 (g:Heap)(e:Addr)(h:Heap):Prop where
 he:g.get? e=none
 ht: ∀T,Tr h e T->g.get? T=none
def XAt (h:Heap)(a:Addr)(o:Option Addr):Prop:= ∀d,o=some d-> ∃oe,h.get? a=some oe/\oe.dict=some d
theorem XAt.dk {h h':Heap}{a:Addr}{o:Option Addr}(x:XAt h a o)(k:DK h h'):XAt h' a o:=λd q=>by
 obtain⟨oe,e1,e2⟩:=x d q;obtain⟨o',e3,e4⟩:=k a oe e1;exact⟨o',e3,e4.trans e2⟩
def CXr (P:Program)(w:World)(base:Heap):CXT:=λouter H s E e s'=> ∃a C o H',e= .ref a/\s'.os=s.os/\AllBare s'.gens/\Un (frs outer) [] H H' s.heap s'.heap/\HOk P w H' s'.heap/\Fly base outer a C H' s'.heap/\aG9 s.heap a s'.heap/\XAt s'.heap a o/\E (.ref C) o H'
section
variable {P:Program}{w:World}{H H0:Hp}{h h':Heap}{fs:List Addr}{e:Addr}
theorem HOk.past (x:HOk P w H h)(p:aC1 fs e h h')(hf: ∀b∈fs,H b=none)(he:H e=none)(ht: ∀T,Tr h e T->H T=none):HOk P w H h':=λa o q=>
 (x a o q).stay (λb u hb r=>by
  have tracked:H b≠none:=by
   rcases hb with rfl|hb
   ·rw[q];simp
   ·rw[hb];simp
  exact p.keep b u r (λz=>tracked (hf b z)) (λz=>tracked (by rw[z];exact he)) λz=>tracked (ht b z)) (λ_ q=>q) λ_ _ q=>q
theorem HOk.there (x:HOk P w H h){b:Addr}(n:h.get? b=none):H b=none:=by
 cases q:H b with
 | none=>rfl
 | some o=>
  exfalso
  have hh: ∃ob,h.get? b=some ob:=by
   have y:=x b o q;cases o with
   | lst xs=>obtain⟨_,_,_,_,e⟩:=y;exact⟨_,e⟩
   | tup xs=>obtain⟨_,_,_,ob,e,_⟩:=y;exact⟨_,e⟩
   | dK kvs=>obtain⟨_,_,_,_,o,_,_,e,_⟩:=y;exact⟨_,e⟩
   | dT kvs=>obtain⟨_,_,_,_,o,_,_,e,_⟩:=y;exact⟨_,e⟩
   | set S n=>obtain⟨o,_,_,_,e,_⟩:=y;exact⟨_,e⟩
   | ins C dx fs=>obtain⟨_,_,_,e,_⟩:=y;exact⟨_,e⟩
   | own y'=>exact y
   | xd fs=>obtain⟨_,⟨_,_,_,e,_⟩,_⟩:=y;exact⟨_,e⟩
   | rng lo hi=>obtain⟨_,_,_,e⟩:=y;exact⟨_,e⟩
   | frz ob u=>obtain⟨e,_⟩:=y;exact⟨_,e⟩
   | tbl ps=>exact⟨_,(show h.get? b=some _ from y)⟩
   | met f y'=>exact⟨_,(show h.get? b=some _ from y)⟩
   | ext φ=>obtain⟨_,e,_⟩:=y;exact e
  obtain⟨ob,e⟩:=hh;rw[n]at e;cases e
theorem a16 (x:HOk P w H h)(p:aC1 fs e h h')(hf: ∀b∈fs,H b=none)(he:H e=none)(ht: ∀T,Tr h e T->H T=none): ∀T,Tr h' e T->H T=none:=λT q=>by
 rcases p.tr T q with z|z|z|z
 ·exact hf T z
 ·rw[z];exact he
 ·exact ht T z
 ·exact x.there z
end
section
variable {X:Cx}{pins:List (Addr×Obj)}{σ:St}{H:Hp}{s:Shared}{h':Heap}{e:Addr}
theorem Un.past {fs fs':List Addr}{H0:Hp}{g:Heap}{L:Addr}(u:Un fs [] H0 H g s.heap)(p:aC1 fs' e s.heap h')(hfs: ∀b∈fs',b=L\/b∈fs)(hL:g.get? L=none)(ne:g.get? e=none)(nt: ∀T,Tr s.heap e T->g.get? T=none)(hd: ∀b∈fs,∀o,s.heap.get? b=some o-> ∀vs,o.data≠ .fields vs):Un fs [] H0 H g h' where
 keep:=λb o q n hb hx=>p.keep b o (u.keep b o q n hb hx) (λz=>by
  rcases hfs b z with z|z
  ·rw[z,hL]at q;cases q
  ·exact hb z) (λz=>by rw[z,ne]at q;cases q) λz=>by rw[nt b z]at q;cases q
 slot:=λb o q n hb hx=>by
  obtain⟨sl,e1⟩:=u.slot b o q n hb hx;obtain⟨sl',e2⟩:=p.slot b _ e1 (hd b hb _ e1);exact⟨sl',e2⟩
 free:=u.free
 there:=λb o q hx=>by
  obtain⟨o',e1⟩:=u.there b o q hx
  by_cases c:b∈fs
  ·obtain⟨sl,e2⟩:=p.slot b _ e1 (hd b c _ e1);exact⟨_,e2⟩
  ·exact⟨o',p.keep b o' e1 (λz=>by
    rcases hfs b z with z|z
    ·rw[z,hL]at q;cases q
    ·exact c z) (λz=>by rw[z,ne]at q;cases q) λz=>by rw[nt b z]at q;cases q⟩
 tups:=u.tups
 frzs:=u.frzs
 tbls:=u.tbls
end
section
variable {P:Program}{w:World}{K:PySem.W.Frag}{mg:Str->Option Value}{base:Heap}{N:List Str}{qual:Str}{scope:Scope}{f:Addr}{cd:Value}{A:Around}{outer:List Env}{s0:Shared}{H0:Hp}{E:XK}{CX:CXT}
theorem bJ1 {pins:List (Addr×Obj)}{σ:St}{H:Hp}{s':Shared}{a C:Addr}{o:Option Addr}(I:Inv (nU (CXr P w base) P w K mg base N qual scope f cd A outer s0 H0 E) pins σ H s')(F:Fly base (envOfC qual scope s0.heap.objs.size f cd::outer) a C H s'.heap)(nw:aG9 s0.heap a s'.heap)(xa:XAt s'.heap a o)(hE:E (.ref C) o H) :
  (nU (CXr P w base) P w K mg base N qual scope f cd A outer s0 H0 E).xe (.ref a) s':=by
 obtain⟨⟨a0,fl⟩,he,ht⟩:=F;have fr:(A.deeper (envOfC qual scope s0.heap.objs.size f cd)).frames=some (envOfC qual scope s0.heap.objs.size f cd::outer):=I.ok.frames;have sf: ∀b∈frs (envOfC qual scope s0.heap.objs.size f cd::outer),H b=none:=I.stkFree;have fm: ∀b∈frs (envOfC qual scope s0.heap.objs.size f cd::outer),b=s0.heap.objs.size\/b∈frs outer:=λb hb=>by
  unfold frs at hb⊢;rw[filterMap_cons]at hb;have e:(envOfC qual scope s0.heap.objs.size f cd).frame=some s0.heap.objs.size:=rfl;rw[e]at hb;exact List.mem_cons.mp hb
 show wpAny _ _ (leaving _ (.ref a)) _ _ s'
 refine b90 fr (L:=s0.heap.objs.size) rfl fl λh' fl' p=> ?_
 have hd: ∀b∈frs outer,∀o,s'.heap.get? b=some o-> ∀vs,o.data≠ .fields vs:=λb hb o q=>by
  obtain⟨_,o',q',n⟩:=fl.2.2.1.mem (b:=b) (by
   unfold frs at hb;rw[filterMap_cons];have e:(envOfC qual scope s0.heap.objs.size f cd).frame=some s0.heap.objs.size:=rfl;rw[e];exact List.mem_cons.mpr (.inr hb))
  rw[q]at q';cases q';exact n
 have un:Un (frs outer) [] H0 H s0.heap h':=I.base.past p fm (get?_none_of_le (le_refl _)) nw.he nw.ht hd;refine⟨a,C,o,H,rfl,I.os,I.bare,un,I.hok.past p sf he ht,⟨⟨a0,fl'⟩,he,a16 I.hok p sf he ht⟩,⟨nw.he,λT q=> ?_⟩,xa.dk p.dk,hE⟩
 rcases p.tr T q with z|z|z|z
 ·rcases fm T z with z|z
  ·rw[z];exact get?_none_of_le (le_refl _)
  ·exfalso
   obtain⟨o,vs,q1,q2⟩:=p.rcd T q;obtain⟨_,o',q',n⟩:=fl'.2.2.1.mem (b:=T) z;rw[q1]at q';cases q';exact n vs q2
 ·rw[z];exact nw.he
 ·exact nw.ht T z
 ·cases r:s0.heap.get? T with
  | none=>rfl
  | some o=>
   obtain⟨o',q'⟩:=I.base.there T o r (show T ∉ ([]:List Addr)by simp)
   rw[z]at q';cases q'
theorem c07:vA (CXr P w base) (nU (CXr P w base) P w K mg base N qual scope f cd A outer s0 H0 E) E:=by
 rintro pins σ H s e s' I ⟨a,C,o,H',rfl,ho,hb,un,hok,F,nw,xa,hE⟩;have I':=I.call' (s':=s') ho un hok hb (λb z=>absurd z (by simp))
 refine bJ1 I' F ⟨?_,λT q=> ?_⟩ xa hE
 ·cases r:s0.heap.get? a with
  | none=>rfl
  | some o=>
   obtain⟨o',q'⟩:=I.base.there a o r (show a ∉ ([]:List Addr)by simp)
   rw[nw.he]at q';cases q'
 ·have:=nw.ht T q;cases r:s0.heap.get? T with
  | none=>rfl
  | some o=>
   obtain⟨o',q'⟩:=I.base.there T o r (show T ∉ ([]:List Addr)by simp)
   rw[this]at q';cases q'
end
structure XCls (h:Heap)(C:Addr)(bmB bm:List Value)(newId:String):Prop where
 ex: ∃(nm q:Str) (N:Addr) (bs:List Value) (hd:Bool) (sn:List Str) (sub:List Value) (ab:Bool) (col:Option Bool) (dd:Option Addr) (k0 k1 k2 k3 k5:Option Value) (mN:Str->Option Value),
  h.get? C=some (excClassObj nm q C N bs bm hd sn sub ab col dd k0 k1 k2 k3 k5 newId)/\h.Ns N mN/\mN "__init__"=none
 tl:OwnTail h bmB bm
theorem aL4 {K:PySem.W.Frag}{h:Heap}{C:Addr}{bmB:List Value}{newId:String}(X:K.In h)(q:excIn K C bmB newId=true): ∃bm,XCls h C bmB bm newId:=by
 unfold excIn at q;split at q
 ·rename_i od ck slots look
  split at q
  ·rename_i C2 tail a0 a1 a2 a3 nid a5 em es
   simp only[and_eq_true,beq_iff_eq,Bool.not_eq_true']at q;obtain⟨⟨⟨⟨⟨rfl,rfl⟩,nodel⟩,tk⟩,nk⟩,ni⟩:=q;obtain⟨c1,c2,c3,c4,c5,c6,c7,c8,c9,c10,c11⟩:=ck;dsimp only at em nodel nk ni;subst em nodel;obtain⟨sll⟩:=slots;simp only at es;subst es;exact⟨tail,⟨⟨_,_,_,_,_,_,_,_,_,_,_,_,_,_,_,_,X _ _ look,.of_isNs (PySem.W.isNs_of_in X nk),PySem.W.nsMap_none_of_in X nk ni⟩,PySem.W.tail_of_in X tk⟩⟩
  ·cases q
 ·cases q
section
variable {X:Cx}{E:XK}{C:Addr}
def a49 (X:Cx)(E:XK)(C:Addr):Prop:= ∀(pins:List (Addr×Obj)) (σ:St) (H:Hp) (s:Shared) (a:Addr) (oe:Obj) (vs:Array Value) (a0:Value) (o:Option Addr),Inv X pins σ H s->s.heap.get? a=some oe->oe.cls= .ref C->oe.data= .fields vs->vs[0]? =some a0->vs[1]? =some .none->H a=none->X.s₀.heap.get? a=none->XAt s.heap a o->E (.ref C) o H->X.xe (.ref a) s
theorem b03 {P:Program}{w:World}{K:PySem.W.Frag}{mg:Str->Option Value}{base:Heap}{N:List Str}{qual:Str}{scope:Scope}{f:Addr}{cd:Value}{A:Around}{outer:List Env}{s0:Shared}{H0:Hp} :
  a49 (nU (CXr P w base) P w K mg base N qual scope f cd A outer s0 H0 E) E C:=by
 intro pins σ H s a oe vs a0 o I he hc hd h0 h1 nH n0 xa hE;have fr:(A.deeper (envOfC qual scope s0.heap.objs.size f cd)).frames=some (envOfC qual scope s0.heap.objs.size f cd::outer):=I.ok.frames;have sf: ∀b∈frs (envOfC qual scope s0.heap.objs.size f cd::outer),H b=none:=I.stkFree;have fl0:s.heap.FunFrames base (envOfC qual scope s0.heap.objs.size f cd::outer):=I.stack
 have fe:(envOfC qual scope s0.heap.objs.size f cd).frame=some s0.heap.objs.size:=rfl;have fm: ∀b∈frs (envOfC qual scope s0.heap.objs.size f cd::outer),b=s0.heap.objs.size\/b∈frs outer:=λb hb=>by
  unfold frs at hb⊢;rw[filterMap_cons,fe]at hb;exact List.mem_cons.mp hb
 have nt: ∀T,¬Tr s.heap a T:=by
  rintro T ⟨o,ws,k1,k2,k3⟩;rw[he]at k1;cases k1;rw[hd]at k2;cases k2;rw[h1]at k3;cases k3
 have nb:base.get? a=none:=by
  cases q:base.get? a with
  | none=>rfl
  | some o=>rw[(I.ok.bs a o q).1]at n0;cases n0
 have st:base.StaysIn s.heap:=I.bk;show wpAny _ _ (leaving _ (.ref a)) _ _ s;refine aS4 fr fl0 (L:=s0.heap.objs.size) rfl he st nb hd h1 h0 λh' fl' p=> ?_
 rw[hc]at fl';have hdf: ∀b∈frs outer,∀o,s.heap.get? b=some o-> ∀vs,o.data≠ .fields vs:=λb hb o q=>by
  obtain⟨_,o',q',n⟩:=fl0.mem (b:=b) (by
   unfold frs at hb;rw[filterMap_cons,fe];exact List.mem_cons.mpr (.inr hb))
  rw[q]at q';cases q';exact n
 have un:Un (frs outer) [] H0 H s0.heap h':=I.base.past p fm (get?_none_of_le (le_refl _)) n0 (λT q=>absurd q (nt T)) hdf
 have ht: ∀T,Tr s.heap a T->H T=none:=λT q=>absurd q (nt T)
 refine⟨a,C,o,H,rfl,I.os,I.bare,un,I.hok.past p sf nH ht,⟨⟨a0,fl'⟩,nH,a16 I.hok p sf nH ht⟩,⟨n0,λT q=> ?_⟩,xa.dk p.dk,hE⟩
 rcases p.tr T q with z|z|z|z
 ·rcases fm T z with z|z
  ·rw[z];exact get?_none_of_le (le_refl _)
  ·exfalso
   obtain⟨o,ws,q1,q2⟩:=p.rcd T q;obtain⟨_,o',q',n⟩:=fl'.2.2.1.mem (b:=T) z;rw[q1]at q';cases q';exact n ws q2
 ·rw[z];exact n0
 ·exact absurd z (nt T)
 ·cases r:s0.heap.get? T with
  | none=>rfl
  | some o=>
   obtain⟨o',q'⟩:=I.base.there T o r (show T ∉ ([]:List Addr)by simp)
   rw[z]at q';cases q'
def bJ2 (C:Addr)(E:XK)(ta:TA):TS:=λ_ σ H=>ta σ H λvs H1=>vs.length<=sizeLine/\E (.ref C) none H1
theorem bJ3 {x:Str}{np cpos pos:Pos}{e:Expr}{es:List Expr}{ta:TA}{B newId initId:String}{bmB:List Value}(FB:ExcBaseFacts B newId initId bmB)(q:excIn X.K C bmB newId=true)(hg:Gl X x)(hm:X.mg x=some (.ref C))(hc:X.calm=true)(ha:PA X (e::es) ta)(th:a49 X E C)
  (he:starEach (e::es) X.env=(false,eval e X.env)::starEach es X.env:=by rfl) (hpl:(backTo cpos (starEach es X.env)).any (·.1)=false:=by rfl) (hd:(x==("__debug__":Str))=false:=by decide) (hex:X.ex=[]:=by rfl) :
  PS X (.Raise (some (.Call (.Name x np) (e::es) [] cpos)) none pos) (bJ2 C E ta):=by
 intro pins s σ H D I h;obtain⟨bm,⟨⟨nm,qn,N,bs,hdd,sn,sub,ab,col,dd,k0,k1,k2,k3,k5,mN,hC,hN,hni⟩,tl⟩⟩:=aL4 I.mod.kin q;have keepS: ∀{pins:List (Addr×Obj)} {σ:St} {H:Hp} {s2:Shared},Inv X pins σ H s2-> ∀b o,X.base.get? b=some o->s2.heap.get? b=some o:=λJ=>J.bk
 refine wpAny_Raise_call_subT (C:=C) (nm:=nm) (q:=qn) (N:=N) (bs:=bs) (bm:=bm) (hdct:=hdd) (sn:=sn) (sub:=sub) (ab:=ab) (col:=col) (dd:=dd) (k0:=k0) (k1:=k1) (k2:=k2) (k3:=k3) (k5:=k5) FB (mN:=mN) (tl.hasType FB.hasBase) (I.ok.hd hc) ?_ hni (l6 I hg hm ⟨rfl,?_⟩ hd)
 ·rw[he];show(false||(backTo cpos (starEach es X.env)).any (·.1))=false;rw[hpl];rfl
 ·have hh:=ha cpos pins s σ H _ I h;rw[he]at hh⊢;refine Calls.evalArgs_plain (wpAny_mono hh (λus s2 ⟨vs,H1,I1,r1,q1⟩=>⟨rfl,by rw[<-r1.length];exact q1.1,keepS I1 _ _ hC,hN.keeps (keepS I1),tl.keeps (keepS I1),λh' a mk=> ?_⟩) λ_ _ y=>y)
  obtain⟨t,m1,m2,m3⟩:=mk.there;have I2:Inv X pins σ H1 {s2 with heap:=h'}:=I1.kept mk.keeps;refine th pins σ H1 _ a _ _ (.ref t) none I2 m1 rfl rfl rfl rfl (I1.hok.there mk.new) ?_ (λd z=>by cases z) q1.2
  cases r:X.s₀.heap.get? a with
  | none=>rfl
  | some o=>
   obtain⟨o',q'⟩:=I1.base.there a o r (by rw[hex];simp)
   rw[mk.new]at q';cases q'
end
section
variable {prog:Program}{w:World}{A:Around}{E:Value->Shared->Prop}{hp:Heap}{gn:Array GenState}{dr:Drawn}{tn:Nat}{os:OsState}
variable {nm qn:Str}{C N:Addr}{bs bm bmB:List Value}{hdd:Bool}{sn:List Str}{sub:List Value}{ab:Bool}{col:Option Bool}{dd:Option Addr}{k0 k1 k2 k3 k5:Option Value}{B newId initId:String}
theorem b04 (F:ExcBaseFacts B newId initId bmB)(T:OwnTail hp bmB bm){mN:Str->Option Value}{us:List Value}{fI:Addr}{oI:Obj}{Q:Fin->Shared->Prop}
  (hC:hp.get? C=some (excClassObj nm qn C N bs bm hdd sn sub ab col dd k0 k1 k2 k3 k5 newId)) (hN:hp.Ns N mN) (hini:mN "__init__"=some (.ref fI)) (hfun:hp.get? fI=some oI) (hcls:oI.cls= .type "function")
  (hgo: ∀h' e,MadeExcOf hp h' e (.ref C) us->wpAny (model prog w) A (call (.ref fI) (.ref e::us)) (λr s'=>r= .none/\Q (.done (.ret (.ref e))) s') E ⟨h',gn,dr,tn,os⟩) (hus:us.length<=sizeLine) :
  wpAny (model prog w) A (Builtin.«type.__call__» ⟨.ref C::us,[]⟩) Q E ⟨hp,gn,dr,tn,os⟩:=by
 repeat (first
  | with_reducible refine wpAny_loadPart_at hC ?_
  | with_reducible refine wpAny_madeBy_exc hC ?_
  | wp_step)
 refine codeAny_call_builtin_code (Code.quiet_builtin _ F.quiet) (wpAny_check_new_subT F T hC ?_)
 refine codeAny_exc_new_subT F T hC ?_ hus
 show wpAny _ _ _ _ _ _
 generalize ea:({cls:= .type "tuple",data:= .seq us.toArray}:Obj)=oa;generalize eb:({cls:= .ref C,data:= .fields #[.ref hp.objs.size,.none,.none,.none,.bool false,.none]}:Obj)=ob;have up: ∀b o,hp.get? b=some o->((hp.push oa).push ob).get? b=some o:=λb o q=>get?_push_of_some _ (get?_push_of_some _ q)
 have g1:=up _ _ hC;have g2:=up _ _ hfun;have g3:=hN.keeps up;have g4:((hp.push oa).push ob).get? (hp.objs.size+1)=some ob:=by
  subst ea eb
  heap_get
 have g5:((hp.push oa).push ob).get? hp.objs.size=some oa:=by
  subst ea;exact get?_push_of_some _ (Heap.get?_push_at rfl rfl)
 have g6:=T.keeps up;have me:(Value.ref C::bm).contains (.ref C)=true:=by simp
 have ec:ob.cls= .ref C:=by rw[<-eb]
 unfold isInstance
 repeat (first
  | (with_reducible refine wpAny_loadPart_at g4 ?_;rw[ec])
  | (with_reducible refine wpAny_isSubtype_exc g1 ?_;rw[me])
  | wp_step)
 show wpAny _ _ (typeLookup (.ref C) _) _ _ _
 refine wpAny_typeLookup_tail g1 g3 g6 F.mroIs F.init.lookup ?_
 rw[hini];refine wpAny_holding (wpAny_bind ?_);unfold bindSpecial;refine wpAny_bind (wpAny_typeOf (T:="function") ⟨_,g2,hcls⟩ ?_);rw[if_pos (by decide)]
 have mk:MadeExcOf hp ((hp.push oa).push ob) (hp.objs.size+1) (.ref C) us:=⟨up,get?_none_of_le (le_succ _),hp.objs.size,by rw[g4,<-eb],get?_none_of_le (le_refl _),by rw[g5,<-ea]⟩
 refine wpAny_pure (wpAny_bind (wpAny_mono (hgo _ _ mk) (λr s' z=> ?_) λ_ _ z=>z))
 obtain⟨rfl,z⟩:=z
 wp_walk
 exact z
theorem xcall (F:ExcBaseFacts B newId initId bmB)(T:OwnTail hp bmB bm){mN:Str->Option Value}{us:List Value}{fI:Addr}{oI:Obj}{Q:Value->Shared->Prop}
  (hC:hp.get? C=some (excClassObj nm qn C N bs bm hdd sn sub ab col dd k0 k1 k2 k3 k5 newId)) (hN:hp.Ns N mN) (hini:mN "__init__"=some (.ref fI)) (hfun:hp.get? fI=some oI) (hcls:oI.cls= .type "function")
  (hgo: ∀h' e,MadeExcOf hp h' e (.ref C) us->wpAny (model prog w) (A.under (.builtin "type.__call__" ⟨.ref C::us,[]⟩)) (call (.ref fI) (.ref e::us)) (λr s'=>r= .none/\Q (.ref e) s') E ⟨h',gn,dr,tn,os⟩) (hus:us.length<=sizeLine) :
  wpAny (model prog w) A (call (.ref C) us) Q E ⟨hp,gn,dr,tn,os⟩:=by
 have t1:=tc_lookup;have t2:=tc_bind (.ref C);have t3:(⟨hp,gn,dr,tn,os⟩:Shared).TypeIs (.ref C) "type":=⟨_,hC,rfl⟩;refine wpAny_call (codeAny_of_tree ?_);show wpAny _ _ (callAny (.ref C) _) _ _ _
 repeat (any_goals (first
  | assumption
  | with_reducible refine wpAny_loadPart_at hC ?_
  | wp_step))
 refine⟨rfl,?_⟩
 exact codeAny_call_builtin_at (Code.quiet_builtin _ (by decide +kernel)) entry_typeCall (wpAny_check_type_call_sub hC (b04 F T hC hN hini hfun hcls (λh' e mk=>hgo h' e mk) hus))
end
end L2
end
section
namespace L2
open PySem PySem.Spec PyProof.Rows
open Builtin Builtin.ObjectAttr
def veMro:List Value:=[.type "ValueError",.type "Exception",.type "BaseException",.type "object"]
def m8:List Value->Bool
 | []=>false
 | v::r=>(v::r)==veMro||match v with
  | .ref _=>m8 r
  | _=>false
theorem zD (self:Value): ∀{l:List Value},m8 l=true->refuseLoop self "__setattr__" l=pure ()
 | v::r,e=>by
  unfold m8 at e;rcases Bool.or_eq_true_iff.mp e with q|q
  ·rw[beq_iff_eq.mp q];exact PySem.F.store_ValueError.passes self
  ·split at q
   ·rw[refuseLoop_ref];exact zD self q
   ·cases q
theorem a50: ∀{l:List Value},m8 l=true->l.contains (.type "object")=true/\l.isEmpty=false
 | v::r,e=>by
  refine⟨?_,rfl⟩
  unfold m8 at e;rcases Bool.or_eq_true_iff.mp e with q|q
  ·rw[beq_iff_eq.mp q];decide
  ·split at q
   ·rw[contains_cons,(a50 q).1,Bool.or_true]
   ·cases q
section
variable {K:PySem.W.Frag}{prog:Program}{w:World}{A:Around}{E:Value->Shared->Prop}{s:Shared}{x C:Addr}{mA:Str->Option Value}{ns:List Str}{name:Str}{v:Value}{cd:ClassData}
theorem xosa {R:Result->Shared->Prop}{tk:Tok}(X:K.In s.heap)(hc:PySem.W.clsIn K C=some cd)(hm:m8 cd.mro=true)(hdct:cd.hasDict=true)(ht:PySem.W.findIn K (.ref C) name=some none)
  (I:s.heap.Inst x C mA) (hw:Within mA ns) (hsz:ns.length<=100) {od:Option Obj} {o:Obj} (hx:s.heap.get? x=some o) (J:PySem.W.InstAt s.heap x o C od)
  (hq: ∀h' tk,h'.Inst x C (λy=>if y=name then some v else mA y)->(∀b o,b≠x->(∀o0 dx,s.heap.get? x=some o0->o0.dict=some dx->b≠dx)->s.heap.get? b=some o->h'.get? b=some o)->
   (∀o0,s.heap.get? x=some o0-> ∃o1,h'.get? x=some o1/\o1.cls=o0.cls/\o1.data=o0.data/\ ∀dx,o1.dict=some dx->o0.dict=some dx\/(s.heap.objs.size<=dx))->R (.ok (.ret .none)) {s with heap:=h',toks:=tk}) :
  codeAny (model prog w) A (.call (.builtin "object.__setattr__") ⟨[.ref x,.str name tk,v],[]⟩) R s:=by
 have SF:=PySem.F.store_ValueError;have sub:PySem.W.Looks (model prog w) s.heap (isInstance (.ref x) (.type "object")) true:=J.type.andThen (PySem.W.looks_mroIn X (by unfold PySem.W.mroIn;rw[hc,bind_some,if_neg (by rw[(a50 hm).2];decide),(a50 hm).1]))
 refine codeAny_call_builtin SF.slot.plain SF.entry (@PySem.W.check_slot (model prog w) _ _ s "object.__setattr__" "object" "__setattr__" (.ref x) [.str name tk,v] [] _ SF.kind SF.split sub (SF.args (.ref x) (.str name tk) v) ?_)
 have hmr:PySem.W.Looks (model prog w) s.heap (mroOf (.ref C)) cd.mro:=(looks_clsIn X hc).andThen .now;rw[PySem.W.osa_eq,refuse_eq];refine wpAny_bind (wpAny_bind (J.type.here (wpAny_bind (hmr.here ?_))));rw[zD _ hm];refine wpAny_pure (wpAny_bind (J.type.here (wpAny_bind ((PySem.W.looks_findIn X ht).here (wpAny_bind (wpAny_pure ?_))))));have lc:=looks_clsIn (M:=model prog w) X hc
 obtain⟨o',hx',hcl,hnc,hdd⟩:=I;rw[hx]at hx';cases hx';refine wpAny_bind (wpAny_pure ?_);refine wpAny_bind ?_;show wpAny _ _ (instanceDict x true) _ _ s;unfold instanceDict;refine wpAny_bind (wpAny_loadPart hx ?_);rw[hcl];dsimp only;refine wpAny_bind (lc.here ?_);rw[hdct];rw[if_neg (by decide)]
 clear sub hmr lc;obtain⟨hp,gn,dr,tn,os⟩:=s;dsimp only at *;have put: ∀(h1:Heap) (dx:Addr) (o1:Obj),h1.get? x=some o1->o1.cls= .ref C->(∀c,o1.data≠ .cls c)->o1.dict=some dx->dx≠x->h1.Ns1 dx mA->o1.data=o.data->(∀b ob,b≠x->hp.get? b=some ob->h1.get? b=some ob)->(o.dict=some dx\/hp.objs.size<=dx)->
   wpAny (model prog w) A.in1 (storeInDict dx (.str name tk) name v) (λfin s'=>match fin with| .done f=>R (.ok f) s'| .again c'=>c'.quiet=true/\codeAny (model prog w) A c' R s') (λe s'=>R (.error e) s') ⟨h1,gn,dr,tn,os⟩:=by
  intro h1 dx o1 g1 g2 g3 g4 g5 g6 g7 g8 g9;unfold storeInDict newKeyGuard;refine wpAny_bind (wpAny_pure (wpAny_bind (wpAny_nsSet1 g6 λh' n' sb=> ?_)))
  obtain⟨oD,eD,pD,q1,q2,q3⟩:=n'.count (Within.cons name v hw);have few:eD.size<=sizeLine:=by
   refine le_trans q3 ?_
   rw[length_cons,sizeLine_eq]
   lia
  refine wpAny_bind (wpAny_lookBehind q1 (by rw[q2];exact pastItsLine_dict (Nat.le_succ_of_le few)) ?_)
  have gx:h'.get? x=some o1:=(sb.2 x (Ne.symm g5)).trans g1;refine wpAny_pure (hq h' _ ⟨o1,gx,g2,g3,.inr ⟨dx,g4,g5,n'⟩⟩ (λb ob k1 k2 k3=> ?_) λo0 k1=> ?_)
  ·have nb:b≠dx:=by
    rcases g9 with z|z
    ·exact k2 o dx hx z
    ·intro q;have:=lt_size k3;rw[q]at this;exact absurd (lt_of_lt_of_le this z) (lt_irrefl _)
   exact(sb.2 b nb).trans (g8 b ob k1 k3)
  ·rw[hx]at k1;cases k1;exact⟨o1,gx,by rw[g2,hcl],g7,λdx' z=>by rw[g4]at z;cases z;exact g9⟩
 rcases hdd with⟨hn,hmA⟩| ⟨dx,hdx,hne,hns⟩
 ·rw[hn];dsimp only;rw[if_neg (by simp[typeHasDict])]
  have ex: ∀d':Data,d'=o.data->wpAny (model prog w) A.in1 (match d' with
     | .cls c=>pure none
     | _=>do
      let d<-alloc {cls:=Value.type "dict",data:=Data.dict #[]}
      update x λo=>{cls:=o.cls,dict:=some d,data:=o.data,slots:=o.slots}
      dictMade (Value.ref C) x d) (λa s'=>wpAny (model prog w) A.in1 (match a with|some d=>storeInDict d (.str name tk) name v|none=>noDictFor (.ref x) (.ref C) name (none:Option Value).isSome) (λfin s'=>match fin with| .done f=>R (.ok f) s'| .again c'=>c'.quiet=true/\codeAny (model prog w) A c' R s') (λe s'=>R (.error e) s') s') (λe s'=>R (.error e) s') ⟨hp,gn,dr,tn,os⟩:=by
   intro d' ed;split
   ·rename_i c
    exact absurd ed.symm (hnc c)
   ·have x1:(hp.push {cls:= .type "dict",data:= .dict #[]}).get? x=some o:=get?_push_of_some _ hx;have xs:x≠hp.objs.size:=ne_of_lt (lt_size hx);refine wpAny_bind (wpAny_alloc' (wpAny_bind (wpAny_update' x1 (wpAny_pure ?_))));have alive:Obj.isFreed {cls:=o.cls,dict:=some hp.objs.size,data:=o.data,slots:=o.slots}=false:=by
     have:=(Heap.get?_some_iff.mp hx).2;obtain⟨c1,c2,c3,c4⟩:=o;cases c3<;>first|rfl|exact this
    have gd:((hp.push {cls:= .type "dict",data:= .dict #[]}).update x λo=>{cls:=o.cls,dict:=some hp.objs.size,data:=o.data,slots:=o.slots}).get? hp.objs.size=some {cls:= .type "dict",data:= .dict #[]}:=
     (get?_update_ne _ _ _ _ (Ne.symm xs)).trans (Heap.get?_push_at rfl rfl)
    refine put _ hp.objs.size {cls:=o.cls,dict:=some hp.objs.size,data:=o.data,slots:=o.slots} (get?_update_self _ x1 alive) hcl hnc rfl (Ne.symm xs) ?_ rfl (λb ob k1 k2=>(get?_update_ne _ _ _ _ k1).trans (get?_push_of_some _ k2)) (.inr (le_refl _))
    have e0:mA=λ_=>none:=funext hmA
    rw[e0];exact Heap.Ns1.of_empty ⟨_,#[],_,gd,rfl,λe he=>absurd he (by simp),λ_=>rfl⟩
  exact ex o.data rfl
 ·rw[hdx];exact wpAny_pure (put hp dx o hx hcl hnc hdx hne hns rfl (λb ob _ k=>k) (.inl hdx))
theorem xset {Q:Unit->Shared->Prop}(X:K.In s.heap)(hc:PySem.W.clsIn K C=some cd)(hm:m8 cd.mro=true)(hdct:cd.hasDict=true)(hsa:PySem.W.findIn K (.ref C) "__setattr__"=some (some (.builtin "object.__setattr__")))(ht:PySem.W.findIn K (.ref C) name=some none)
  (I:s.heap.Inst x C mA) (hw:Within mA ns) (hsz:ns.length<=100)
  (hq: ∀h' tk,h'.Inst x C (λy=>if y=name then some v else mA y)->(∀b o,b≠x->(∀o0 dx,s.heap.get? x=some o0->o0.dict=some dx->b≠dx)->s.heap.get? b=some o->h'.get? b=some o)->
   (∀o0,s.heap.get? x=some o0-> ∃o1,h'.get? x=some o1/\o1.cls=o0.cls/\o1.data=o0.data/\ ∀dx,o1.dict=some dx->o0.dict=some dx\/(s.heap.objs.size<=dx))->Q () {s with heap:=h',toks:=tk}) :
  wpAny (model prog w) A (setAttr (.ref x) name v) Q E s:=by
 have I':=I;obtain⟨o,hx,hcl,hnc,hdd⟩:=I;have J: ∃od,PySem.W.InstAt s.heap x o C od:=by
  rcases hdd with⟨e,_⟩| ⟨dx,e,_,od,es,ep,ge,_⟩
  ·exact⟨none,hx,hcl,(by unfold notCls;split<;>first|rfl| (rename_i c q;exact absurd q (hnc c))),by rw[e];trivial⟩
  ·exact⟨some od,hx,hcl,(by unfold notCls;split<;>first|rfl| (rename_i c q;exact absurd q (hnc c))),by rw[e];exact ge⟩
 obtain⟨od,J⟩:=J;refine PySem.W.set_plain X J hsa ?_;exact xosa (s:={s with toks:=s.toks+1}) X hc hm hdct ht I' hw hsz hx J λh' tk a b c=>hq h' tk a b c
end
end L2
end
section
namespace L2
open PySem PySem.Spec PyProof.Rows
structure aC2 (K:PySem.W.Frag)(C fI:Addr)(fd:FuncData)(f1 f2:Str):Prop where
 ex: ∃(oc:Value) (od:Option Addr) (nm qual:Str) (params:Arguments) (scope:Scope) (kV doc pm:Value) (an:Option Addr) (cdv ct:Value) (osl:Array (Option Value)) (x0 x1 x2:Str) (p1 p2 p3 p4 p5 p6 p7 p8:Pos),
  fd=fnOf nm qual params [.Assign [.Attribute (.Name x0 p1) f1 p2] (.Name x1 p3) p4,.Assign [.Attribute (.Name x0 p5) f2 p6] (.Name x2 p7) p8] scope .none kV doc pm an cdv ct/\
  K.lookup fI=some ⟨oc,od,.func fd,osl⟩/\oc= .type "function"/\codeIn K cdv qual=true/\aP [x0,x1,x2] [x0,x1,x2] scope/\
  scope.names.lookup x0=some .local/\scope.names.lookup x1=some .local/\scope.names.lookup x2=some .local/\(x0==("__debug__":Str))=false/\(x1==("__debug__":Str))=false/\(x2==("__debug__":Str))=false/\Binds K fd [x0,x1,x2] []
 cls: ∃cd,PySem.W.clsIn K C=some cd/\m8 cd.mro=true/\cd.hasDict=true
 sa:PySem.W.findIn K (.ref C) "__setattr__"=some (some (.builtin "object.__setattr__"))
 n1:PySem.W.findIn K (.ref C) f1=some none
 n2:PySem.W.findIn K (.ref C) f2=some none
def Laid (C e:Addr)(f1 f2:Str)(v1 v2:V)(s s':Shared):Prop:=s'.os=s.os/\AllBare s'.gens/\(∀b o,s.heap.get? b=some o->s'.heap.get? b=some o)/\
 ∃oe t d w1 w2,s'.heap.get? e=some oe/\oe.cls= .ref C/\oe.data= .fields #[.ref t,.none,.none,.none,.bool false,.none]/\oe.dict=some d/\d≠e/\s.heap.get? d=none/\RelV v1 w1/\RelV v2 w2/\s'.heap.Ns1 d (λy=>if y=f2 then some w2 else if y=f1 then some w1 else none)
section
variable {X:Cx}{pins:List (Addr×Obj)}{σ:St}{H:Hp}{s:Shared}{C fI e:Addr}{fd:FuncData}{f1 f2:Str}{h1:Heap}{u1 u2:Value}{v1 v2:V}{E:Value->Shared->Prop}{k:Nat}
theorem b91 (T:aC2 X.K C fI fd f1 f2)(I:Inv X pins σ H s)(hr:dA (k+1) X.A)(mk:MadeExcOf s.heap h1 e (.ref C) [u1,u2])(r1:RelV v1 u1)(r2:RelV v2 u2) :
  wpAny (model X.prog X.w) (X.A.under (.builtin "type.__call__" ⟨.ref C::[u1,u2],[]⟩)) (call (.ref fI) (.ref e::[u1,u2])) (λr s'=>r= .none/\Laid C e f1 f2 v1 v2 s s') E {s with heap:=h1}:=by
 obtain⟨oc,od,nm,qual,params,scope,kV,doc,pm,an,cdv,ct,osl,x0,x1,x2,p1,p2,p3,p4,p5,p6,p7,p8,rfl,lk,_,hcd,S,l0,l1,l2,d0,d1,d2,hb⟩:=T.ex;obtain⟨cd,hc,hm,hdct⟩:=T.cls;have I1:Inv X pins σ H {s with heap:=h1}:=I.kept mk.keeps;have e0:=I1.env0.make C [u1,u2] [];have rm:=hr.make C [u1,u2] [];have KX:=I1.kIn;have lim:=I1.nolimit
 have us:Vals [V.ref e,v1,v2] [Value.ref e,u1,u2]:= .cons rfl (.cons r1 (.cons r2 .nil));have hkind: ∀y∈[x0,x1,x2].zip [Value.ref e,u1,u2],scope.names.lookup y.1=some .local\/(scope.names.lookup y.1=some .cell/\((cellsFrom (h1.objs.size+1) scope.names []).lookup y.1).isSome=true):=λ⟨n,v⟩ hy=>by
  have:=(of_mem_zip hy).1;simp at this;rcases this with rfl|rfl|rfl
  ·exact .inl l0
  ·exact .inl l1
  ·exact .inl l2
 refine wpAny_call ?_
 have bd:=hb {s with heap:=h1} [Value.ref e,u1,u2] KX rfl;rw[append_nil]at bd;refine codeAny_call_function rm.depth (KX _ _ lk) rfl S.co S.gen rfl (PySem.W.codeRec_of KX hcd) (bd _ _ _ _ ?_);refine wpAny_newFunctionEnv_cells S.kind hkind λenv he s2 x=> ?_
 subst he;refine⟨lim.keeps x.toInCall.keep,codeAny_func ?_⟩;have J:Inv (nU CX0 X.prog X.w X.K X.mg X.base [x0,x1,x2] qual scope fI cdv (X.A.under (.builtin "type.__call__" ⟨.ref C::[u1,u2],[]⟩)) X.stack {s with heap:=h1} H E0) [] (start [x0,x1,x2] [V.ref e,v1,v2]) H s2:=aF3 S rm.hd e0 rfl us x;obtain⟨m,hn,hl⟩:=J.loc
 have look: ∀(i:Nat) (y:Str) (v:V),[x0,x1,x2][i]? =some y->(start [x0,x1,x2] [V.ref e,v1,v2])[i]? =some (some v)->scope.names.lookup y=some .local-> ∃u,RelV v u/\m y=some u:=λi y v q1 q2 q3=>by
  obtain⟨u,r,lo⟩:=hl i y v q1 q2 (.inl q3);rcases lo with⟨_,hm⟩| ⟨z,_⟩
  ·exact⟨u,r,hm⟩
  ·have z':scope.names.lookup y=some .cell\/scope.names.lookup y=some .free:=z;rw[q3]at z';rcases z' with z'|z'<;>cases z'
 obtain⟨w0,q0,m0⟩:=look 0 x0 (.ref e) rfl rfl l0;obtain⟨w1,q1,m1⟩:=look 1 x1 v1 rfl rfl l1;obtain⟨w2,q2,m2⟩:=look 2 x2 v2 rfl rfl l2;obtain rfl:w0=Value.ref e:=q0;have kk:=J.ok.kind;have kin:X.K.In s2.heap:=KX.keeps x.toInCall.keep;obtain⟨t,t1,t2,t3⟩:=mk.there;have ge:s2.heap.get? e=some {cls:= .ref C,data:= .fields #[.ref t,.none,.none,.none,.bool false,.none]}:=x.toInCall.keep _ _ t1
 have eL:e≠h1.objs.size:=ne_of_lt (lt_size t1);have in0:s2.heap.Inst e C (λ_=>none):=⟨_,ge,rfl,(λc z=>by cases z),.inl ⟨rfl,λ_=>rfl⟩⟩
 refine wpAny_execs_cons (plainObj_wpAny_Assign_Attribute (wpAny_Name (wpAny_loadName_local kk l1 hn m1 (wpAny_Name (wpAny_loadName_local kk l0 hn m0 ?_) d0)) d1))
 refine xset kin hc hm hdct T.sa T.n1 in0 (ns:=[]) (λn z=>absurd rfl z) (by simp) λh3 tk3 in3 kp3 ob3=> ?_
 obtain⟨o3,g3,c3,dt3,dd3⟩:=ob3 _ ge;have keep3: ∀b o,b≠e->s2.heap.get? b=some o->h3.get? b=some o:=λb o n q=>kp3 b o n (λo0 dx z1 z2=>by rw[ge]at z1;cases z1;cases z2) q
 have hn3:h3.Ns h1.objs.size m:=by
  obtain⟨o,es,ep,z1,z2⟩:=hn;exact⟨o,es,ep,keep3 _ _ (Ne.symm eL) z1,z2⟩
 have keep3': ∀b o,s.heap.get? b=some o->h3.get? b=some o:=λb o q=>keep3 b o (λz=>by rw[z,mk.new]at q;cases q) (x.toInCall.keep _ _ (mk.keeps b o q))
 have kin3:X.K.In h3:=I.kIn.keeps keep3';refine wpAny_execs_cons (plainObj_wpAny_Assign_Attribute (wpAny_Name (wpAny_loadName_local kk l2 hn3 m2 (wpAny_Name (wpAny_loadName_local kk l0 hn3 m0 ?_) d0)) d2));refine xset kin3 hc hm hdct T.sa T.n2 in3 (ns:=[f1]) (λn z=> ?_) (by simp) λh4 tk4 in4 kp4 ob4=> ?_
 ·by_cases c:n=f1
  ·simp[c]
  ·rw[if_neg c]at z;exact absurd rfl z
 obtain⟨o4,g4,c4,dt4,dd4⟩:=ob4 _ g3;refine wpAny_execs_nil ?_;obtain⟨o5,g5,_,_,dd5⟩:=in4;rw[g4]at g5;cases g5;rcases dd5 with⟨_,no⟩| ⟨d,ed,de,nd⟩
 ·have:=no f2;simp at this
 have dn:s.heap.get? d=none:=by
  cases q:s.heap.get? d with
  | none=>rfl
  | some o=>
   exfalso
   have a3:=lt_size (keep3' d o q);have a2:=lt_size (x.toInCall.keep _ _ (mk.keeps d o q));rcases dd4 d ed with z|z
   ·rcases dd3 d z with z|z
    ·cases z
    ·exact absurd (lt_of_lt_of_le a2 z) (lt_irrefl _)
   ·exact absurd (lt_of_lt_of_le a3 z) (lt_irrefl _)
 refine⟨rfl,J.os,J.bare,λb o q=> ?_,o4,t,d,w1,w2,g4,?_,?_,ed,de,dn,q1,q2,nd⟩
 ·refine kp4 b o (λz=>by rw[z,mk.new]at q;cases q) (λo0 dx z1 z2=> ?_) (keep3' b o q)
  rw[g3]at z1;cases z1;rcases dd3 dx z2 with z|z
  ·cases z
  ·intro z';have:=lt_size (x.toInCall.keep _ _ (mk.keeps b o q));rw[z']at this;exact absurd (lt_of_lt_of_le this z) (lt_irrefl _)
 ·rw[c4,c3]
 ·rw[dt4,dt3]
end
def nJ (K:PySem.W.Frag)(C fI:Addr)(bmB:List Value)(newId:String):Bool:=match K.lookup C with
 | some ⟨.type "type",_,.cls ck,sl⟩=>(match ck.mro,sl.toList with
  | .ref C2::tail,[_,_,_,_,some (.builtin nid),_]=>C2==C&&nid==newId&& !ck.hasDel&&PySem.W.tailIn K bmB tail&&PySem.W.nsOkIn K ck.ns&&nsIn K ck.ns "__init__"==some (some (.ref fI))
  | _,_=>false)
 | _=>false
theorem bV5 {K:PySem.W.Frag}{h:Heap}{N:Addr}{mg:Str->Option Value}{n:Str}{v:Value}(X:K.In h)(G:h.Ns N mg)(e:nsIn K N n=some (some v)):mg n=some v:=by
 obtain⟨ob,ents,np,look0,dat,_,find0⟩:=G;unfold nsIn at e;split at e
 ·rename_i look
  have same:=X _ _ look;rw[look0]at same;cases same;cases dat;split at e
  ·rename_i en found
   cases e;rw[<-find0];unfold nsFind findBy;rw[<-Array.find?_toList,found];rfl
  ·split at e<;>cases e
 ·cases e
structure XClsI (h:Heap)(C fI:Addr)(bmB bm:List Value)(newId:String):Prop where
 ex: ∃(nm q:Str) (N:Addr) (bs:List Value) (hd:Bool) (sn:List Str) (sub:List Value) (ab:Bool) (col:Option Bool) (dd:Option Addr) (k0 k1 k2 k3 k5:Option Value) (mN:Str->Option Value),
  h.get? C=some (excClassObj nm q C N bs bm hd sn sub ab col dd k0 k1 k2 k3 k5 newId)/\h.Ns N mN/\mN "__init__"=some (.ref fI)
 tl:OwnTail h bmB bm
theorem a51 {K:PySem.W.Frag}{h:Heap}{C fI:Addr}{bmB:List Value}{newId:String}(X:K.In h)(q:nJ K C fI bmB newId=true): ∃bm,XClsI h C fI bmB bm newId:=by
 unfold nJ at q;split at q
 ·rename_i od ck slots look
  split at q
  ·rename_i C2 tail a0 a1 a2 a3 nid a5 em es
   simp only[and_eq_true,beq_iff_eq,Bool.not_eq_true']at q;obtain⟨⟨⟨⟨⟨rfl,rfl⟩,nodel⟩,tk⟩,nk⟩,ni⟩:=q;obtain⟨c1,c2,c3,c4,c5,c6,c7,c8,c9,c10,c11⟩:=ck;dsimp only at em nodel nk ni;subst em nodel;obtain⟨sll⟩:=slots;simp only at es;subst es;have nsk:h.Ns c4 (h.nsMap c4):= .of_isNs (PySem.W.isNs_of_in X nk)
   exact⟨tail,⟨⟨_,_,_,_,_,_,_,_,_,_,_,_,_,_,_,_,X _ _ look,nsk,bV5 X nsk ni⟩,PySem.W.tail_of_in X tk⟩⟩
  ·cases q
 ·cases q
section
variable {M:Model}{A:Around}{E:Value->Shared->Prop}{s:Shared}{env:Env}
variable {nm qn:Str}{C N:Addr}{bs bm:List Value}{hdd:Bool}{sn:List Str}{sub:List Value}{ab:Bool}{col:Option Bool}{dd:Option Addr}{k0 k1 k2 k3 k5:Option Value}{newId:String}
theorem xraise {x:Sem Value}{Q:Flow->Shared->Prop}(hbase:bm.contains (.type "BaseException")=true)(hh:A.handled=none)
  (h:wpAny M A x (λv s1=> ∃e oe vs,v= .ref e/\s1.heap.get? C=some (excClassObj nm qn C N bs bm hdd sn sub ab col dd k0 k1 k2 k3 k5 newId)/\s1.heap.get? e=some oe/\oe.cls= .ref C/\oe.data= .fields vs/\vs[1]? =some .none/\E (.ref e) s1) E s) :
  wpAny M A (raiseStmt env (some x) none) Q E s:=by
 have has:(Value.ref C::bm).contains (.type "BaseException")=true:=by rw[contains_cons,hbase,Bool.or_true]
 unfold raiseStmt;refine wpAny_bind (wpAny_mono h (λv s1 z=> ?_) λ_ _ y=>y)
 obtain⟨e,oe,vs,rfl,hC,he,hcl,hdt,h1,hE⟩:=z;obtain⟨hp,gn,dr,tn,os⟩:=s1;obtain⟨oc,od,odt,osl⟩:=oe;dsimp only at hcl hdt;subst hcl hdt
 repeat (first
  | with_reducible refine wpAny_loadPart_at he ?_
  | with_reducible refine wpAny_loadPart_at hC ?_
  | (with_reducible refine wpAny_isSubtype_exc hC ?_;rw[has])
  | wp_step)
 rw[h1];refine wpAny_pure (wpAny_pure ?_);exact wpAny_raiseNew_none hh hE
end
section
variable {P:Program}{w:World}{H:Hp}{h h':Heap}{a:Addr}{o:HO}{fs ex:List Addr}
theorem HOk.laidN (x:HOk P w H h)(k: ∀b u,h.get? b=some u->h'.get? b=some u)(hn:H a=none)(new:jB P w (upd H a o) h' a o):HOk P w (upd H a o) h':=λb u e=>by
 by_cases hb:b=a
 ·subst hb;rw[dS]at e;cases e;exact new
 ·rw[aT hb]at e;exact(x b u e).stay (λc v _ q=>k c v q) (λc q=>by rw[aT (b4 q hn)];exact q) λc xs q=>by rw[aT (b4 q hn)];exact q
theorem Un.laidN (k: ∀b u,h.get? b=some u->h'.get? b=some u)(hp:h.get? a=none)(hn:H a=none):Un fs ex H (upd H a o) h h' where
 keep:=λb u q _ _ _=>k b u q
 slot:=λb u q _ _ _=>⟨u.slots,k b u q⟩
 free:=λb u q n _=>by rw[aT (λz=>by rw[z,hp]at q;cases q)];exact n
 there:=λb u q _=>⟨u,k b u q⟩
 tups:=λb xs q=>by rw[aT (b4 q hn)];exact q
 frzs:=λb u xs q=>by rw[aT (b4 q hn)];exact q
 tbls:=λb ps q=>⟨#[],by rw[aT (b4 q hn),q];simp⟩
end
section
variable {X:Cx}{E:XK}{C fI:Addr}
def bV6 (C:Addr)(f1 f2:Str)(E:XK)(ta:TA):TS:=λ_ σ H=>ta σ H λvs H1=> ∃v1 v2,vs=[v1,v2]/\ ∀d,H1 d=none->E (.ref C) (some d) (upd H1 d (.xd [(f1,v1),(f2,v2)]))
theorem b92 {x:Str}{np cpos pos:Pos}{e1 e2:Expr}{ta:TA}{B newId initId:String}{bmB:List Value}{fd:FuncData}{f1 f2:Str}{k:Nat}(FB:ExcBaseFacts B newId initId bmB)(q:nJ X.K C fI bmB newId=true)(T:aC2 X.K C fI fd f1 f2)(hr:dA (k+1) X.A)(hg:Gl X x)(hm:X.mg x=some (.ref C))(hc:X.calm=true)(ha:PA X [e1,e2] ta)(th:a49 X E C)(hne:f1≠f2)
  (he:starEach [e1,e2] X.env=(false,eval e1 X.env)::starEach [e2] X.env:=by rfl) (hpl:(backTo cpos (starEach [e2] X.env)).any (·.1)=false:=by rfl) (hd:(x==("__debug__":Str))=false:=by decide) (hex:X.ex=[]:=by rfl) :
  PS X (.Raise (some (.Call (.Name x np) [e1,e2] [] cpos)) none pos) (bV6 C f1 f2 E ta):=by
 intro pins s σ H D I h;obtain⟨bm,⟨⟨nm,qn,N,bs,hdd,sn,sub,ab,col,dd,k0,k1,k2,k3,k5,mN,hC,hN,hni⟩,tl⟩⟩:=a51 I.mod.kin q;have keepS: ∀{pins:List (Addr×Obj)} {σ:St} {H:Hp} {s2:Shared},Inv X pins σ H s2-> ∀b o,X.base.get? b=some o->s2.heap.get? b=some o:=λJ=>J.bk
 rw[arm_exec_Raise];refine wpAny_bind (wpAny_standAt (xraise (C:=C) (nm:=nm) (qn:=qn) (N:=N) (bs:=bs) (bm:=bm) (hdd:=hdd) (sn:=sn) (sub:=sub) (ab:=ab) (col:=col) (dd:=dd) (k0:=k0) (k1:=k1) (k2:=k2) (k3:=k3) (k5:=k5) (newId:=newId) (tl.hasType FB.hasBase) (I.ok.hd hc) ?_))
 refine wpAny_bind (wpAny_mono (wpAny_Call_ofName (l6 I hg hm ?_ hd)) (λv s3 h3=>wpAny_bind (wpAny_standAt (wpAny_pure h3))) λ_ _ z=>z)
 have plain:(backTo cpos (starEach [e1,e2] X.env)).any (·.1)=false:=by
  rw[he];show(false||(backTo cpos (starEach [e2] X.env)).any (·.1))=false;rw[hpl];rfl
 have hh:=ha cpos pins s σ H _ I h;unfold callWith;rw[he]at hh plain⊢;refine wpAny_bind (wpAny_holding (Calls.evalArgs_plain (wpAny_mono hh (λus s2 z=>wpAny_bind (wpAny_standAt ?_)) λ_ _ z=>z)))
 obtain⟨vs,H1,I1,r1,w1,w2,rfl,hE⟩:=z;simp only[plain];have hC2:=keepS I1 _ _ hC;obtain⟨u1,u2,rfl⟩: ∃u1 u2,us=[u1,u2]:=by
  have e:=r1.length
  match us,e with
  | [a,b],_=>exact⟨a,b,rfl⟩
 obtain⟨q1,q2⟩:RelV w1 u1/\RelV w2 u2:=by
  cases r1 with
  | cons a r=>
   cases r with
   | cons b _=>exact⟨a,b⟩
 obtain⟨oc,od,_,_,_,_,_,_,_,_,_,_,osl,_,_,_,_,_,_,_,_,_,_,_,efd,lk,oce,_⟩:=T.ex;have gf:=I1.kIn _ _ lk;obtain⟨hp,gn,dr,tn,os⟩:=s2;refine wpAny_bind (wpAny_keeperOf_exc hC2 ?_);refine wpAny_bind (xcall FB (tl.keeps (keepS I1)) hC2 (hN.keeps (keepS I1)) hni gf oce (λh' a mk=> ?_) (by simp;decide))
 refine wpAny_mono (b91 T I1 hr mk q1 q2) (λr s' z=> ?_) λ_ _ z=>z
 obtain⟨rfl,z1,z2,z3,oe,t,d,y1,y2,z4,z5,z6,ed,de,dn,x1,x2,nd⟩:=z;refine⟨rfl,wpAny_bind (wpAny_holding (wpAny_point (wpAny_pure ?_)))⟩;have dH:H1 d=none:=I1.hok.there dn;have I2:Inv X pins σ (upd H1 d (.xd [(f1,w1),(f2,w2)])) s':=by
  obtain⟨hp',gn',dr',tn',os'⟩:=s';obtain rfl:os'=os:=z1;refine I1.call (h':=hp') (g':=gn') (d':=dr') (t':=tn') (ch:=[]) (Un.laidN z3 dn dH) (I1.hok.laidN z3 dH ?_) z2 (λb z=>absurd z (by simp))
  refine⟨_,nd,λf=> ?_⟩
  simp only[lookup_cons,List.lookup_nil]
  by_cases c1:f=f1
  ·subst c1;rw[beq_self_eq_true,if_neg hne,if_pos rfl];exact x1
  ·rw[show(f==f1)=false from beq_eq_false_iff_ne.mpr c1]
   by_cases c2:f=f2
   ·subst c2;rw[beq_self_eq_true,if_pos rfl];exact x2
   ·rw[show(f==f2)=false from beq_eq_false_iff_ne.mpr c2,if_neg c2,if_neg c1]
    exact trivial
 refine⟨a,oe,_,rfl,z3 _ _ hC2,z4,z5,z6,rfl,?_⟩
 refine th pins σ _ s' a oe _ (.ref t) (some d) I2 z4 z5 z6 rfl rfl (by rw[aT (Ne.symm de)];exact I1.hok.there mk.new) ?_ (λd' e=>by cases e;exact⟨oe,z4,ed⟩) (hE d dH)
 cases r:X.s₀.heap.get? a with
 | none=>rfl
 | some o=>
  obtain⟨o',q'⟩:=I1.base.there a o r (by rw[hex];simp)
  rw[mk.new]at q';cases q'
end
end L2
end
section
namespace M
open PySem PySem.Spec PyProof.Rows L2
abbrev XP:=Str->List D->Prop
abbrev ΦX:=List D->(B->Prop)->XP->Prop
def sN (n:Str):List Str:=if n="FallsApart" then ["left","right"]else if n="NotWhole" then ["prime","number"]else []
def XR (K:PySem.W.Frag)(A:AS)(H:Hp)(n:Str)(ds:List D):Option Addr->Prop
 | none=>sN n=[]
 | some d=> ∃vs,¬A d/\H d=some (.xd ((sN n).zip vs))/\(sN n).length=vs.length/\aQ K A H ds vs
theorem XR.mono {K:PySem.W.Frag}{A A':AS}{H H':Hp}{n:Str}{ds:List D}(p:gE A H A' H'): ∀{o:Option Addr},XR K A H n ds o->XR K A' H' n ds o
 | none,h=>h
 | some d,⟨vs,h1,h2,h3,h4⟩=>⟨vs,(p d _ h1 h2).1,(p d _ h1 h2).2,h3,h4.mono p⟩
def spX (K:PySem.W.Frag)(mg:Str->Option Value)(φ:ΦX):Sp:=λvs H Q E=> ∃A ds Q0 Ex,(∀a,A a->H a≠none)/\aQ K A H ds vs/\φ ds Q0 Ex/\(∀b v H',Q0 b->cZ H H'->jW K A H H' b v->Q v H')/\ ∀n C es o H',Ex n es->mg n=some (.ref C)->cZ H H'->XR K A H' n es o->E (.ref C) o H'
structure FnX (P:Program)(w:World)(K:PySem.W.Frag)(mg:Str->Option Value)(base:Heap)(x:Str)(ps:List Str)(k:Nat)(φ:ΦX):Prop where
 ex: ∃f fd,kI P w K mg base (CXr P w base) k f fd ps (spX K mg φ)/\Binds K fd ps []/\keepIn K (.ref f)=true/\mg x=some (.ref f)
abbrev USX:=XP->US
def lSX (K:PySem.W.Frag)(mg:Str->Option Value)(E:XK)(t:USX):TS:=λD σ H=> ∃C ρ D0 Ex,EOk K C ρ σ H/\t Ex D0 ρ/\DOk K C D0 D/\ ∀n Cl es o H',Ex n es->mg n=some (.ref Cl)->cZ C.H0 H'->XR K C.A0 H' n es o->E (.ref Cl) o H'
def aL5 (X:Cx)(E:XK)(st:Stmt)(t:USX):Prop:=PS X st (lSX X.K X.mg E t)
def sO (X:Cx)(E:XK)(sts:List Stmt)(t:USX):Prop:=PSs X sts (lSX X.K X.mg E t)
section
variable {X:Cx}{E:XK}{st:Stmt}{sts:List Stmt}{t u:USX}{e:Expr}{es:List Expr}{pos:Pos}
theorem wP {t:US}(h:PUS X st t):aL5 X E st (λ_=>t):=kW h λD σ H ⟨C,ρ,D0,Ex,I,h,k,_⟩=>⟨C,ρ,D0,I,h,k⟩
theorem bJ4 {t:US}(h:sF X sts t):sO X E sts (λ_=>t):=a37 h λD σ H ⟨C,ρ,D0,Ex,I,h,k,_⟩=>⟨C,ρ,D0,I,h,k⟩
theorem aL6 (h1:aL5 X E st t)(h2:sO X E sts u):sO X E (st::sts) (λEx=>aK (t Ex) (u Ex)):=
 a37 (oZ h1 h2) λD σ H ⟨C,ρ,D0,Ex,I,h,k,kx⟩=>⟨C,ρ,{D0 with nx:=u Ex D0},Ex,I,h,⟨λρ' σ' H' q I'=>⟨C,ρ',D0,Ex,I',q,k,kx⟩,k.rt,k.bk,k.ct⟩,kx⟩
theorem a52 (h1:aL5 X E st t):sO X E [st] t:=aJ0 h1
theorem b05:sO X E [] (λ_=>cN):=bJ4 bU
theorem bJ5 {c:Expr}{a b:List Stmt}{tc:UT}(hc:PUT X c tc)(ha:sO X E a t)(hb:sO X E b u):aL5 X E (.If c a b pos) (λEx=>eW tc (t Ex) (u Ex)):=
 kW (bZ7 hc ha hb) λD σ H ⟨C,ρ,D0,Ex,I,h,k,kx⟩=>⟨C,ρ,_,I,h,λc ρ1 H1 q f s=>by
  have I1:=(I.frz f).same s;cases c with
  | true=>
   dsimp only at q⊢;rw[if_pos rfl]at q⊢;exact⟨C,ρ1,D0,Ex,I1,q,k,kx⟩
  | false=>
   dsimp only at q⊢;rw[if_neg (by decide)]at q⊢
   exact⟨C,ρ1,D0,Ex,I1,q,k,kx⟩⟩
def aL7 (φ:ΦX)(t:UA)(Ex:XP):UE:=λρ Q=>t ρ λds ρ1=>φ ds (λb=>Q b ρ1) Ex
theorem spX_of {φ:ΦX}{C:C0}{ρ ρ1:Ev}{σ:L2.St}{H H1:Hp}{ds:List D}{vs:List V}{Q0:B->Prop}{Ex:XP}{Q:VK}(I:EOk X.K C ρ σ H)(f:Frz ρ ρ1)(s:cZ H H1)(r:aQ X.K (Av C ρ1 σ) H1 ds vs)(q:φ ds Q0 Ex)(kq: ∀b v H',Q0 b->cZ H1 H'->jW X.K (Av C ρ1 σ) H1 H' b v->Q v H')(kx: ∀n Cl es o H',Ex n es->X.mg n=some (.ref Cl)->cZ C.H0 H'->XR X.K C.A0 H' n es o->E (.ref Cl) o H'):spX X.K X.mg φ (vs++[]) H1 Q E:=by
 have I1:=(I.frz f).same s;rw[append_nil];exact⟨Av C ρ1 σ,ds,Q0,Ex,λa z=>I1.avSome z,r,q,kq,λn Cl es o H' ex hm s' x=>kx n Cl es o H' ex hm (I1.ext.trans s') (x.mono (.sub (.refl _) λa z=> .inl z))⟩
theorem b39 {k k':Nat}{ps:List Str}{φ:ΦX}{x:Str}{p cpos:Pos}{t:UA}(F:FnX X.prog X.w X.K X.mg X.base x ps k φ)(hr:dA k' X.A)(hk:k<=k')(hp:vA (CXr X.prog X.w X.base) X E)(hg:Gl X x)(ha:PUA X (e::es) t)(hdb:(x==("__debug__":Str))=false:=by decide)
  (he:starEach (e::es) X.env=(false,eval e X.env)::starEach es X.env:=by rfl) (hpl:(backTo cpos (starEach es X.env)).any (·.1)=false:=by rfl) (hs:swapsWith (.Call (.Name x p) (e::es) [] cpos) none pos.line X.env=pure false:=by rfl) :
  aL5 X E (.Expr (.Call (.Name x p) (e::es) [] cpos) pos) (λEx=>sJ (aL7 φ t Ex)):=by
 obtain⟨f,fd,G,b,kp,m⟩:=F.ex;exact kW (aJ1 (b27 G (hr.mono hk) hg m kp b .nil hp ha hdb he hpl) hs) λD σ H ⟨C,ρ,D0,Ex,I,h,k,kx⟩=>⟨C,ρ,_,I,h,λds ρ1 vs H1 q f s r=>spX_of I f s r q (λb v H' q' s' r'=>k.nx _ _ _ q' (((I.frz f).same s).same s')) kx⟩
def aL8 (x:Str)(t:UA)(Ex:XP):US:=λ_ ρ=>t ρ λds _=>ds.length<=sizeLine/\Ex x []
theorem lRaise {x:Str}{C:Addr}{t:UA}(hm:X.mg x=some (.ref C))(hk:sN x=[])(D:xP)(σ:L2.St)(H:Hp)(h:lSX X.K X.mg E (λEx=>aL8 x t Ex) D σ H):bJ2 C E (lA X.K t) D σ H:=by
 obtain⟨C0,ρ,D0,Ex,I,h,k,kx⟩:=h;exact⟨C0,ρ,_,I,h,λds ρ1 vs H1 q f s r=>⟨by rw[<-r.length];exact q.1,kx x C [] none H1 q.2 hm (I.ext.trans s) hk⟩⟩
def wQ (x:Str)(t1 t2:UE)(Ex:XP):US:=λ_ ρ=>t1 ρ λa ρ1=>t2 ρ1 λb _=>Ex x [a.d,b.d]
theorem bJ6 {C:Addr}{x:Str}{np cpos:Pos}{t:UA}{B newId initId:String}{bmB:List Value}(FB:ExcBaseFacts B newId initId bmB)(q:excIn X.K C bmB newId=true)(hg:Gl X x)(hm:X.mg x=some (.ref C))(hc:X.calm=true)(ha:PUA X (e::es) t)(th:a49 X E C)(hk:sN x=[])
  (he:starEach (e::es) X.env=(false,eval e X.env)::starEach es X.env:=by rfl) (hpl:(backTo cpos (starEach es X.env)).any (·.1)=false:=by rfl) (hd:(x==("__debug__":Str))=false:=by decide) (hex:X.ex=[]:=by rfl) :
  aL5 X E (.Raise (some (.Call (.Name x np) (e::es) [] cpos)) none pos) (λEx=>aL8 x t Ex):=kW (bJ3 FB q hg hm hc ha th he hpl hd hex) (lRaise hm hk)
theorem aH0 {C fI:Addr}{x:Str}{np cpos:Pos}{e1 e2:Expr}{t1 t2:UE}{B newId initId:String}{bmB:List Value}{fd:FuncData}{f1 f2:Str}{k:Nat}(FB:ExcBaseFacts B newId initId bmB)(q:nJ X.K C fI bmB newId=true)(T:aC2 X.K C fI fd f1 f2)(hr:dA (k+1) X.A)(hg:Gl X x)(hm:X.mg x=some (.ref C))(hc:X.calm=true)(ha:PUA X [e1,e2] (a6 t1 (a6 t2 aE)))(th:a49 X E C)(hk:sN x=[f1,f2])(hne:f1≠f2)
  (he:starEach [e1,e2] X.env=(false,eval e1 X.env)::starEach [e2] X.env:=by rfl) (hpl:(backTo cpos (starEach [e2] X.env)).any (·.1)=false:=by rfl) (hd:(x==("__debug__":Str))=false:=by decide) (hex:X.ex=[]:=by rfl) :
  aL5 X E (.Raise (some (.Call (.Name x np) [e1,e2] [] cpos)) none pos) (λEx=>wQ x t1 t2 Ex):=by
 refine kW (b92 FB q T hr hg hm hc ha th hne he hpl hd hex) λD σ H ⟨C0,ρ,D0,Ex,I,h,k,kx⟩=> ?_
 refine⟨C0,ρ,λds _=> ∃a b,ds=[a,b]/\Ex x ds,I,?_,λds ρ' vs H' ⟨a,b,q1,q2⟩ f s r=> ?_⟩
 ·have e9: ∀(z y:M.B) (ρ2:Ev),(∃a b,[z.d,y.d]=[a,b]/\Ex x [z.d,y.d])=Ex x [z.d,y.d]:=λz y ρ2=>propext ⟨λ⟨_,_,_,w⟩=>w,λw=>⟨_,_,rfl,w⟩⟩
  show t1 ρ λz ρ1=>t2 ρ1 λy ρ2=> ∃a b,[z.d,y.d]=[a,b]/\Ex x [z.d,y.d]
  have:=h;unfold wQ at this;simp only[e9 _ _ ρ];exact this
 ·subst q1;obtain⟨v1,vr,rfl,r1,r2⟩:=r.uncons;obtain⟨v2,vr2,rfl,r3,r4⟩:=r2.uncons;cases r4.unnil;refine⟨v1,v2,rfl,λd hd=> ?_⟩
  have I1:=(I.frz f).same s;have s2:cZ H' (upd H' d (.xd [(f1,v1),(f2,v2)])):=λb o z=>by rw[aT (b4 z hd)];exact z
  have na: ∀a,C0.A0 a->a≠d:=λa z e=>I1.avSome (.inl z) (by rw[e];exact hd)
  refine kx x C _ (some d) _ q2 hm (I1.ext.trans s2) ⟨[v1,v2],λz=>na d z rfl,?_,by rw[hk];rfl,(aQ.cons r1 (.cons r3 .nil)).mono λb o n z=>⟨λw=>n (.inl w),s2 b o z⟩⟩
  rw[dS,hk];rfl
theorem bJ7 {P:Program}{w:World}{K:PySem.W.Frag}{mg:Str->Option Value}{base:Heap}{x qual:Str}{st:Stmt}{f:Addr}{fd:FuncData}{N ps:List Str}{k:Nat}{φ:ΦX}(F:Fun K x qual st f fd)(S:aP N ps (a8 st))
  (len: ∀ds Q Ex,φ ds Q Ex->ds.length=ps.length) {t:USX}
  (der: ∀(cdv:Value) (A:Around) (outer:List Env) (s:Shared) (H:Hp) (E:XK),dA k (A.deeper (envOfC qual (a8 st) s.heap.objs.size f cdv))->sO (nU (CXr P w base) P w K mg base N qual (a8 st) f cdv A outer s H E) E (bK st) t)
  (rd: ∀ds Q Ex,φ ds Q Ex->t Ex {nx:=λ_=>Q (.pu .non),rt:=Q} (init N ds)) :
  kI P w K mg base (CXr P w base) (k+1) f fd ps (spX K mg φ):=by
 obtain⟨oc,od,kV,doc,pm,an,cdv,ct,osl,rfl,lk,hcd⟩:=F.ex;refine bE2 lk hcd S (λvs H Q E h=> ?_) λA outer s H vs Q E hr h=> ?_
 ·obtain⟨A,ds,Q0,Ex,_,r,h,_⟩:=h;rw[<-r.length];exact len ds Q0 Ex h
 ·obtain⟨A',ds,Q0,Ex,hA,r,h,q,qx⟩:=h;refine⟨_,der cdv A outer s H E hr,⟨H,A'⟩,init N ds,_,Ex,aK6 hA r,rd ds Q0 Ex h,⟨λρ σ H' z I=> ?_,λb v H' z s r=>q b v H' z s r,λ_ _ _ z=>z.elim,λ_ _ _ z=>z.elim⟩,qx⟩
  exact q _ _ H' z I.ext (show Rep _ _ _ _ _ by simp only[Rep])
theorem FnX.mk' {P:Program}{w:World}{K:PySem.W.Frag}{mg:Str->Option Value}{base:Heap}{x qual:Str}{st:Stmt}{f:Addr}{fd:FuncData}{N ps:List Str}{k:Nat}{φ:ΦX}(F:Fun K x qual st f fd)(m:mg x=some (.ref f))(b:Binds K fd ps [])(S:aP N ps (a8 st))
  (len: ∀ds Q Ex,φ ds Q Ex->ds.length=ps.length) {t:USX}
  (der: ∀(cdv:Value) (A:Around) (outer:List Env) (s:Shared) (H:Hp) (E:XK),dA k (A.deeper (envOfC qual (a8 st) s.heap.objs.size f cdv))->sO (nU (CXr P w base) P w K mg base N qual (a8 st) f cdv A outer s H E) E (bK st) t)
  (rd: ∀ds Q Ex,φ ds Q Ex->t Ex {nx:=λ_=>Q (.pu .non),rt:=Q} (init N ds)):FnX P w K mg base x ps (k+1) φ:=
 ⟨f,fd,bJ7 F S len der rd,b,F.kp,m⟩
end
end M
end
section
namespace L2
open PySem PySem.Spec PyProof.Rows
section
variable {X:Cx}{pins:List (Addr×Obj)}{σ:St}{H:Hp}{s:Shared}{h':Heap}{e:Addr}
theorem Inv.past {g:Heap}(I:Inv X pins σ H s)(p:aC1 (frs X.stack) e s.heap h')(hstk:X.stack=X.env::X.outer)(hfr:X.env.frame=some X.env.locals)(hex:X.ex=[])(gs: ∀b o,X.s₀.heap.get? b=some o-> ∃o',g.get? b=some o')(gp: ∀q∈X.pn++pins,∃o',g.get? q.1=some o')(ne:g.get? e=none)(nt: ∀T,Tr s.heap e T->g.get? T=none)(he:H e=none)(ht: ∀T,Tr s.heap e T->H T=none):Inv X pins σ H {s with heap:=h'}:=by
 have none0: ∀b,g.get? b=none->X.s₀.heap.get? b=none:=λb q=>by
  cases r:X.s₀.heap.get? b with
  | none=>rfl
  | some o=>obtain⟨o',q'⟩:=gs b o r;rw[q]at q';cases q'
 have fm: ∀b∈frs X.stack,b=X.env.locals\/b∈X.fs:=λb hb=>by
  rw[hstk]at hb;unfold Cx.fs;unfold frs at hb⊢;rw[filterMap_cons,hfr]at hb;exact List.mem_cons.mp hb
 have hL:X.s₀.heap.get? X.env.locals=none:=get?_none_of_le I.ok.above;have hd: ∀b∈X.fs,∀o,s.heap.get? b=some o-> ∀vs,o.data≠ .fields vs:=λb hb o q=>by
  have fl:=I.stack;rw[hstk]at fl;obtain⟨_,o',q',n⟩:=fl.mem (b:=b) (by
   unfold Cx.fs frs at hb;rw[filterMap_cons,hfr];exact List.mem_cons.mpr (.inr hb))
  rw[q]at q';cases q';exact n
 have hb0:=I.base;rw[hex]at hb0;have un:=hb0.past p fm hL (none0 e ne) (λT q=>none0 T (nt T q)) hd
 have cellS: ∀c v,s.heap.IsCell c v->h'.IsCell c v:=λc v ⟨o,q1,q2⟩=>by
  obtain⟨sl,q3⟩:=p.slot c o q1 (λvs z=>by rw[q2]at z;cases z)
  exact⟨_,q3,q2⟩
 refine⟨I.ok,I.os,I.bare,by rw[hex];exact un,?_,λx c q=> ?_,I.free,I.freeC,λq hq=> ?_,I.hok.past p I.stkFree he ht,I.len⟩
 ·obtain⟨m,hn,hl⟩:=I.loc;refine⟨m,p.slot.ns hn,λi x v a b c=> ?_⟩
  obtain⟨u,r,lo⟩:=hl i x v a b c;refine⟨u,r,?_⟩;rcases lo with z| ⟨z1,c,z2,z3⟩
  ·exact .inl z
  ·exact .inr ⟨z1,c,z2,cellS c _ z3⟩
 ·obtain⟨v,z⟩:=I.cell x c q;exact⟨v,cellS c v z⟩
 ·obtain⟨z1,z2,z3,z4,z5⟩:=I.pin q hq;obtain⟨o',g1⟩:=gp q hq;refine⟨p.keep q.1 q.2 z1 (λz=> ?_) (λz=>by rw[z,ne]at g1;cases g1) (λz=>by rw[nt _ z]at g1;cases g1),z2,z3,z4,z5⟩
  rcases fm _ z with y|y
  ·exact z3 y
  ·exact z4 y
end
abbrev Cx.inX (X:Cx)(e:Addr):Cx:={X with A:=X.A.mark (some (.ref e)),calm:=false,xe:=λ_ _=>False}
theorem Cx.Ok.inX {X:Cx}(ok:X.Ok)(e:Addr):(X.inX e).Ok:=
 ⟨ok.mod,ok.kind,ok.glob,ok.blt,ok.above,ok.inj,ok.has,ok.cab,(λz=>by cases z),ok.frames,ok.stk,ok.exf,ok.bs,ok.bsz,ok.noex,ok.exfs,ok.funs,ok.frf⟩
section
variable {X:Cx}{pins:List (Addr×Obj)}{σ:St}{H:Hp}{s:Shared}{e:Addr}
theorem Inv.inX (I:Inv X pins σ H s)(e:Addr):Inv (X.inX e) pins σ H s:=⟨I.ok.inX e,I.os,I.bare,I.base,I.loc,I.cell,I.free,I.freeC,I.pin,I.hok,I.len⟩
theorem Cx.Ok.outX {X:Cx}{Y:Cx}(okY:Y.Ok){e:Addr}(ok:(X.inX e).Ok)(hd:X.calm=true->X.A.handled=none):X.Ok:=
 ⟨ok.mod,ok.kind,ok.glob,ok.blt,ok.above,ok.inj,ok.has,ok.cab,hd,ok.frames,ok.stk,ok.exf,ok.bs,ok.bsz,ok.noex,ok.exfs,ok.funs,ok.frf⟩
theorem Inv.outX (I:Inv (X.inX e) pins σ H s)(hd:X.calm=true->X.A.handled=none):Inv X pins σ H s:=⟨I.ok.outX I.ok hd,I.os,I.bare,I.base,I.loc,I.cell,I.free,I.freeC,I.pin,I.hok,I.len⟩
theorem SP.outX {D:xP}{f:Flow}{s':Shared}(h:SP (X.inX e) pins D f s')(hd:X.calm=true->X.A.handled=none):SP X pins D f s':=by
 cases f with
 | next=>obtain⟨σ',H',I,q⟩:=h;exact⟨σ',H',I.outX hd,q⟩
 | brk=>obtain⟨σ',H',I,q⟩:=h;exact⟨σ',H',I.outX hd,q⟩
 | cont=>obtain⟨σ',H',I,q⟩:=h;exact⟨σ',H',I.outX hd,q⟩
 | ret u=>obtain⟨v,σ',H',I,r,q⟩:=h;exact⟨v,σ',H',I.outX hd,r,q⟩
end
theorem aG9.past {g h h':Heap}{fs:List Addr}{e:Addr}(n:aG9 g e h)(p:aC1 fs e h h')(gh: ∀b o,g.get? b=some o-> ∃o',h.get? b=some o')(hf: ∀b∈fs,∀o,h'.get? b=some o-> ∀vs,o.data≠ .fields vs):aG9 g e h':=by
 refine⟨n.he,λT q=> ?_⟩
 rcases p.tr T q with z|z|z|z
 ·obtain⟨o,vs,q1,q2⟩:=p.rcd T q;exact absurd q2 (hf T z o q1 vs)
 ·rw[z];exact n.he
 ·exact n.ht T z
 ·cases r:g.get? T with
  | none=>rfl
  | some o=>obtain⟨o',q'⟩:=gh T o r;rw[z]at q';cases q'
theorem a53 {g h h':Heap}{fs:List Addr}{e:Addr}(n:aG9 g e h)(p:aC1 fs e h h')(gh: ∀b o,g.get? b=some o-> ∃o',h.get? b=some o')(hf: ∀b∈fs,∀o,h.get? b=some o-> ∀vs,o.data≠ .fields vs): ∀b o,g.get? b=some o-> ∃o',h'.get? b=some o':=λb o q=>by
 obtain⟨o',q'⟩:=gh b o q
 by_cases c:b∈fs
 ·obtain⟨sl,z⟩:=p.slot b o' q' (hf b c o' q');exact⟨_,z⟩
 ·exact⟨o',p.keep b o' q' c (λz=>by rw[z,n.he]at q;cases q) λz=>by rw[n.ht b z]at q;cases q⟩
theorem bV7 {h base:Heap}{l:List Env}(f:h.FunFrames base l): ∀b∈frs l,∀o,h.get? b=some o-> ∀vs,o.data≠ .fields vs:=λb hb o q=>by
 obtain⟨_,o',q',n⟩:=f.mem (b:=b) hb;rw[q]at q';cases q';exact n
def sP (CX:CXT)(X:Cx)(E:XK)(pins:List (Addr×Obj))(σ:St):Prop:= ∀(H:Hp) (s:Shared) (e:Value) (s':Shared),Inv X pins σ H s->CX X.stack H s E e s'->X.xe e s'
def qE (K:PySem.W.Frag)(R C:Addr)(bmB:List Value)(newId:String):Prop:=(excIn K C bmB newId=true\/ ∃fI,nJ K C fI bmB newId=true)/\ ∃cd,PySem.W.clsIn K C=some cd/\cd.mro.contains (.ref R)=true
end L2
end
section
namespace L2
open PySem PySem.Spec PyProof.Rows
section
variable {X:Cx}{CX:CXT}{k:Nat}{f C:Addr}{fd:FuncData}{ps:List Str}{sp:Sp}{dvs:List V}{ds:List Value}{E:XK}{x:Str}{p pos:Pos}{e:Expr}{es:List Expr}{t:TA}
theorem b93 {pins:List (Addr×Obj)}{σ:St}{H:Hp}{s:Shared}{Q:VK}{us:List Value}{vs:List V}(M:Mk X.K C f)(F:kI X.prog X.w X.K X.mg X.base CX k f fd ps sp)(hr:dA (k+1) X.A)(hb:Binds X.K fd ps [])
  (hx:sP CX X E pins σ) (I:Inv X pins σ H s) (r:Vals vs us)
  (h: ∀x dx,H x=none->H dx=none->dx≠x->sp (.ref x::vs) (upd (upd H dx (.own x)) x (.ins C dx [])) (λv H2=>v= .non/\Q (.ref x) H2) E) :
  wpAny (model X.prog X.w) X.A (call (.ref C) us) (EP X pins σ Q) X.xe s:=by
 have hq:=h (s.heap.objs.size+1) s.heap.objs.size (I.hok.fresh (le_succ _)) (I.hok.fresh (le_refl _)) (ne_of_lt (lt_succ_self _));have I2:=Inv.made (C:=C) I;have r2:Vals (V.ref (s.heap.objs.size+1)::vs) (Value.ref (s.heap.objs.size+1)::us):= .cons rfl r;have hl:(Value.ref (s.heap.objs.size+1)::us++[]).length=ps.length:=by
  have e:=r2.length;rw[F.len _ _ _ _ hq]at e;rw[append_nil];exact e.symm
 have bd:=hb (s:={s with heap:=(s.heap.push {cls:= .type "dict",data:= .dict #[]}).push (instObj C s.heap.objs.size)}) (Value.ref (s.heap.objs.size+1)::us) I2.kIn hl;rw[append_nil]at bd;refine wpAny_call (bD7 (f:=f) I.kIn M.makes M.init (beq_iff_eq.mp M.fn) (codeAny_mono (F.run _ X.stack _ _ ⟨Value.ref (s.heap.objs.size+1)::us,[]⟩ (Value.ref (s.heap.objs.size+1)::us) _ _ E (hr.make C us [])
  (I2.env0.make C us []) bd r2 hq) λr s' hq'=> ?_))
 cases r with
 | error e=>exact hx _ _ e s' I2 hq'
 | ok fl=>
  cases fl with
  | ret u=>
   obtain⟨v,H',I3,rv,ev,q3⟩:=I2.after hq';subst ev;exact⟨rv,⟨V.ref (s.heap.objs.size+1),H',I3,rfl,q3⟩⟩
  | next=>exact False.elim hq'
  | brk=>exact False.elim hq'
  | cont=>exact False.elim hq'
theorem bV8 {pins:List (Addr×Obj)}{σ:St}{H:Hp}{s:Shared}{Q:VK}(M:Mk X.K C f)(F:kI X.prog X.w X.K X.mg X.base CX k f fd ps sp)(hr:dA (k+1) X.A)(hg:Gl X x)(hm:X.mg x=some (.ref C))(hb:Binds X.K fd ps [])(hx:sP CX X E pins σ)
  (ha:PA X (e::es) t) (I:Inv X pins σ H s) (h:bZ8 C sp [] E t σ H Q) (hdb:(x==("__debug__":Str))=false) (he:starEach (e::es) X.env=(false,eval e X.env)::starEach es X.env) (hpl:(backTo pos (starEach es X.env)).any (·.1)=false) :
  wpAny (model X.prog X.w) X.A (eval (.Call (.Name x p) (e::es) [] pos) X.env) (EP X pins σ Q) X.xe s:=by
 refine wpAny_Call_Name_kw (l6 I hg hm ?_ hdb)
 refine PySem.W.callWith_K (h₀:=X.base) I.ok.mod.kin M.kp (thn (ha pos pins s σ H _ I h) λus s1 ⟨vs,H1,I1,r,q⟩=>⟨I1.kIn,?_⟩) he hpl
 exact b93 M F hr hb hx I1 r λx dx a b c=>by have:=q x dx a b c;rw[append_nil]at this;exact this
end
end L2
namespace M
open PySem PySem.Spec PyProof.Rows L2
section
variable {X:Cx}{e:Expr}{es:List Expr}{pos:Pos}{te:UE}{K:PySem.W.Frag}{A:AS}{H:Hp}
theorem aQ.field {f:Str}{d:D}: ∀{ks:List Str} {l:List D} {vs:List V},aQ K A H l vs->(ks.zip l).lookup f=some d-> ∃v,(ks.zip vs).lookup f=some v/\Rep K A H d v/\f∈ks
 | [],_,_,_,h=>by simp at h
 | _::_,[],_,_,h=>by simp at h
 | q::ks,a::l,vs,r,h=>by
  obtain⟨v,vr,rfl,r1,r2⟩:=r.uncons;rw[zip_cons_cons,lookup_cons]at h;rw[zip_cons_cons,lookup_cons];cases c:f==q with
  | true=>
   rw[c]at h;cases h;exact⟨v,rfl,r1,by rw[beq_iff_eq.mp c];simp⟩
  | false=>
   rw[c]at h;obtain⟨w,h1,h2,h3⟩:=aQ.field r2 h;exact⟨w,h1,h2,mem_cons_of_mem _ h3⟩
abbrev ΦM:=List D->(List D->Prop)->XP->Prop
def spI (K:PySem.W.Frag)(mg:Str->Option Value)(C:Addr)(ks:List Str)(φ:ΦM):Sp:=λvs H Q E=> ∃(x dx:Addr) (vs':List V) (A:AS) (ds:List D) (Q0:List D->Prop) (Ex:XP),vs=V.ref x::vs'/\H x=some (.ins C dx [])/\H dx=some (.own x)/\ ¬A x/\ ¬A dx/\(∀a,A a->H a≠none)/\aQ K (λb=>A b\/b=x) H ds vs'/\φ ds Q0 Ex/\
 (∀l ws H',Q0 l->(∀b o,b≠x->H b=some o->H' b=some o)->H' x=some (.ins C dx (ks.zip ws))->ks.length=ws.length->aQ K (λb=>A b\/b=x) H' l ws->Q .non H')/\
 ∀n Cl es o H',Ex n es->mg n=some (.ref Cl)->(∀b o,b≠x->H b=some o->H' b=some o)->XR K A H' n es o->E (.ref Cl) o H'
structure MkX (P:Program)(w:World)(K:PySem.W.Frag)(mg:Str->Option Value)(base:Heap)(x:Str)(k:Nat)(ks:List Str)(φ:ΦM):Prop where
 ex: ∃C f fd ps,Mk K C f/\OkC K C ks/\kI P w K mg base (CXr P w base) k f fd ps (spI K mg C ks φ)/\Binds K fd ps []/\mg x=some (.ref C)
theorem lMake {C:Addr}{ks:List Str}{φ:ΦM}{t:UA}{E:XK}{C0:C0}{ρ:Ev}{σ:L2.St}{Q:VK}{Q0:Ev->List D->Prop}{Ex:Ev->XP}(ok:OkC X.K C ks)(I:EOk X.K C0 ρ σ H)(h:t ρ λds ρ1=>φ ds (Q0 ρ1) (Ex ρ1))
  (kq: ∀l ρ1 v H',Q0 ρ1 l->Frz ρ ρ1->cZ H H'->Rep X.K (Av C0 ρ1 σ) H' (.obj C ks l) v->Q v H') (kx: ∀n Cl ρ1 es o H',Ex ρ1 n es->X.mg n=some (.ref Cl)->EOk X.K C0 ρ1 σ H'->XR X.K (Av C0 ρ1 σ) H' n es o->E (.ref Cl) o H') :
  bZ8 C (spI X.K X.mg C ks φ) [] E (lA X.K t) σ H Q:=by
 refine⟨C0,ρ,_,I,h,λds ρ1 vs H1 q f s r x dx nx nd ne=> ?_⟩
 have I1:=(I.frz f).same s;have hA: ∀a,Av C0 ρ1 σ a->H1 a≠none:=λa z=>I1.avSome z
 have s3:cZ H1 (upd (upd H1 dx (.own x)) x (.ins C dx [])):=λb o z=>by
  rw[aT (b4 z nx),aT (b4 z nd)];exact z
 have back: ∀H',(∀b o,b≠x->upd (upd H1 dx (.own x)) x (.ins C dx []) b=some o->H' b=some o)->cZ H1 H':=λH' z b o q'=>z b o (b4 q' nx) (s3 b o q')
 rw[append_nil];refine⟨x,dx,vs,Av C0 ρ1 σ,ds,Q0 ρ1,Ex ρ1,rfl,dS,by rw[aT ne];exact dS,λz=>hA x z nx,λz=>hA dx z nd,λa z q'=> ?_,r.mono (gE.fresh s3 nx),q,λl ws H' q0 kp hx hl rl=>⟨rfl,?_⟩,λn Cl es o H' ex hm kp xr=> ?_⟩
 ·cases e':H1 a with
  | none=>exact hA a z e'
  | some o=>rw[s3 a o e']at q';cases q'
 ·refine kq l ρ1 _ H' q0 f (s.trans (back H' kp)) ?_
  simp only[Rep];exact⟨x,dx,ws,rfl,λz=>hA x z nx,hx,hl,rl.mono (.sub (.refl _) λa z=> .inl z),ok⟩
 ·exact kx n Cl ρ1 es o H' ex hm (I1.same (back H' kp)) xr
end
end M
end
section
namespace M
open PySem PySem.Spec PyProof.Rows L2
section
variable {K:PySem.W.Frag}{C:C0}{ρ ρ':Ev}{σ:L2.St}{H H':Hp}
theorem EOk.poke {x:Addr}{o:HO}(I:EOk K C ρ σ H)(ax:C.A0 x)(hx: ∀vs,C.H0 x≠some (.lst vs)):EOk K ⟨λb=>if b=x then some o else C.H0 b,C.A0⟩ ρ σ (upd H x o):=by
 have ne: ∀a,C.H0 a=none->a≠x:=λa z e=>by subst e;exact I.a0 a ax z
 have P:gE (Av C ρ σ) H (Av ⟨λb=>if b=x then some o else C.H0 b,C.A0⟩ ρ σ) (upd H x o):=λb u nb e=>⟨nb,by rw[aT (λz=>nb (by subst z;exact .inl ax))];exact e⟩
 refine⟨I.len,?_,?_,I.inj,?_,?_,?_⟩
 ·intro i d h;obtain⟨v,h1,h2⟩:=I.pu i d h;exact⟨v,h1,h2.mono P⟩
 ·intro i l h;obtain⟨a,vs,h1,h2,h3,h4⟩:=I.ow i l h;have na:=ne a h3;exact⟨a,vs,h1,by rw[aT na];exact h2,by show(if a=x then some o else C.H0 a)=none;rw[if_neg na];exact h3,h4.mono P⟩
 ·intro i l h;obtain⟨a,vs,h1,h2,h3,h4⟩:=I.bo i l h;have na:a≠x:=λz=>by subst z;exact hx vs h3
  exact⟨a,vs,h1,h2,by show(if a=x then some o else C.H0 a)=_;rw[if_neg na];exact h3,h4.mono P⟩
 ·intro b u h
  by_cases c:b=x
  ·subst c;have h':(if b=b then some o else C.H0 b)=some u:=h;rw[if_pos rfl]at h';rw[dS];exact h'
  ·have h':(if b=x then some o else C.H0 b)=some u:=h;rw[if_neg c]at h';rw[aT c];exact I.ext b u h'
 ·intro a z;show(if a=x then some o else C.H0 a)≠none;split
  ·simp
  ·exact I.a0 a z
theorem a54 {x Cl dx:Addr}{fs:List (Str×V)}{f:Str}{te:UE}{Q0:B->Ev->Prop}{D:xP}(I:EOk K C ρ σ H)(ax:C.A0 x)(hx:H x=some (.ins Cl dx fs))(h0:ρ[0]? =some (some (.pu (.adr x))))(cl:Cls K Cl)(na:xT K Cl f)(hf:fs.length<1000)(h:te ρ Q0)
  (k: ∀b ρ1 w H',Q0 b ρ1->ρ1[0]? =some (some (.pu (.adr x)))->(∀a o,a≠x->H a=some o->H' a=some o)->H' x=some (.ins Cl dx (mZ f w fs))->(∃C1:C0,C1.A0=C.A0/\EOk K C1 ρ1 σ H')->Rep K C.A0 H' b.d w->(∀d v,Rep K C.A0 H d v->Rep K C.A0 H' d v)->D.nx σ H') :
  bD8 K (sD 0) (lE K te) f D σ H:=by
 refine⟨C,ρ,Q0,I,h,λb ρ1 w H1 q fz s r=> ?_⟩
 have I1:=(I.frz fz).same s;have h1:ρ1[0]? =some (some (.pu (.adr x))):=by
  rcases fz.2 0 with z| ⟨l,z,_⟩
  ·rw[z];exact h0
  ·rw[h0]at z;cases z
 obtain⟨v,e1,e2⟩:=I1.pu 0 _ h1;simp only[Rep]at e2;subst e2;have hx1:=s _ _ hx;have nl: ∀vs,C.H0 x≠some (.lst vs):=λvs z=>by
  have:=I.ext x _ z;rw[hx]at this;cases this
 have P:gE C.A0 H1 C.A0 (upd H1 x (.ins Cl dx (mZ f w fs))):=gE.upd ax;refine⟨.ref x,e1,x,Cl,dx,fs,rfl,hx1,cl,na,hf,k b ρ1 w _ q h1 (λa o ne e=>by rw[aT ne];exact s a o e) dS ⟨⟨λb=>if b=x then some (.ins Cl dx (mZ f w fs))else C.H0 b,C.A0⟩,rfl,I1.poke (o:= .ins Cl dx (mZ f w fs)) ax nl⟩ ?_ λd v r'=> ?_⟩
 ·exact((r.rep λa z=>I.avF fz z).mono (.sub (.refl _) λa z=> .inl z)).mono P
 ·exact(r'.mono (.same s)).mono P
end
section
variable {X:Cx}{E:XK}{st:Stmt}{sts:List Stmt}{t u:USX}{tS:TS}
theorem bV9 (h1:aL5 X E st t)(h2:PSs X sts tS):PSs X (st::sts) (λD=>lSX X.K X.mg E t {D with nx:=tS D}):=oZ h1 h2
theorem a17 (h1:aL5 X E st t)(h2:PSs X sts (λD=>lSX X.K X.mg E u {D with nx:=tS D})):PSs X (st::sts) (λD=>lSX X.K X.mg E (λEx=>aK (t Ex) (u Ex)) {D with nx:=tS D}):=
 a37 (oZ h1 h2) λD σ H ⟨C,ρ,D0,Ex,I,h,k,kx⟩=>⟨C,ρ,{D0 with nx:=u Ex D0},Ex,I,h,⟨λρ' σ' H' q I'=>⟨C,ρ',D0,Ex,I',q,k,kx⟩,k.rt,k.bk,k.ct⟩,kx⟩
def tS3 (K:PySem.W.Frag)(f1 f2 f3:Str)(t1 t2 t3:UE):TS:=tSeq (bD8 K (sD 0) (lE K t1) f1) (tSeq (bD8 K (sD 0) (lE K t2) f2) (bD8 K (sD 0) (lE K t3) f3))
end
theorem bJ8 {P:Program}{w:World}{K:PySem.W.Frag}{mg:Str->Option Value}{base:Heap}{x qual:Str}{st:Stmt}{f Cl:Addr}{fd:FuncData}{N ps:List Str}{k:Nat}{φ:ΦM}{f1 f2 f3:Str}{t1 t2 t3:UE}(F:Fun K x qual st f fd)(S:aP N ps (a8 st))(ok:OkC K Cl [f1,f2,f3])(n1:f1≠f2)(n2:f1≠f3)(n3:f2≠f3)
  (len: ∀ds Q Ex,φ ds Q Ex->ds.length+1=ps.length) (hN:N≠[]) {t:USX}
  (der: ∀(cdv:Value) (A:Around) (outer:List Env) (s:Shared) (H:Hp) (E:XK),dA k (A.deeper (envOfC qual (a8 st) s.heap.objs.size f cdv))->
   PSs (nU (CXr P w base) P w K mg base N qual (a8 st) f cdv A outer s H E) (bK st) (λD=>lSX K mg E t {D with nx:=tS3 K f1 f2 f3 t1 t2 t3 D}))
  (rd: ∀a ds Q Ex,φ ds Q Ex->t Ex {nx:=λρ=>ρ[0]? =some (some (.pu (.adr a)))/\t1 ρ λb1 ρ1=>t2 ρ1 λb2 ρ2=>t3 ρ2 λb3 _=>Q [b1.d,b2.d,b3.d],rt:=λ_=>False} (init N (.adr a::ds))) :
  kI P w K mg base (CXr P w base) (k+1) f fd ps (spI K mg Cl [f1,f2,f3] φ):=by
 obtain⟨oc,od,kV,doc,pm,an,cdv,ct,osl,rfl,lk,hcd⟩:=F.ex;refine bE2 lk hcd S (λvs H Q E h=> ?_) λA outer s H vs Q E hr h=> ?_
 ·obtain⟨x,dx,vs',A,ds,Q0,Ex,rfl,_,_,_,_,_,r,h,_⟩:=h;have:=len ds Q0 Ex h;rw[length_cons,<-r.length];exact this
 ·obtain⟨x,dx,vs',A',ds,Q0,Ex,rfl,hx,hdx,nx,nd,hA,r,h,q,qx⟩:=h;have hA2: ∀a,(A' a\/a=x)->H a≠none:=λa z=>by
   rcases z with z|rfl
   ·exact hA a z
   ·rw[hx];simp
  have r2:aQ K (λb=>A' b\/b=x) H (.adr x::ds) (.ref x::vs'):= .cons (by simp only[Rep]) r
  refine⟨_,der cdv A outer s H E hr,⟨H,λb=>A' b\/b=x⟩,init N (.adr x::ds),_,Ex,aK6 hA2 r2,rd x ds Q0 Ex h,⟨λρ σ H' z I=> ?_,λ_ _ _ z=>z.elim,λ_ _ _ z=>z.elim,λ_ _ _ z=>z.elim⟩,λn Cl' es o H' ex hm sm xr=>qx n Cl' es o H' ex hm (λb o _ e=>sm b o e) (xr.mono (.sub (.refl _) λa z=> .inl z))⟩
  obtain⟨z0,z⟩:=z;have hx':H' x=some (.ins Cl dx []):=I.ext x _ hx;refine a54 (C:=⟨H,λb=>A' b\/b=x⟩) I (.inr rfl) hx' z0 ok.1 (ok.2 f1 (by simp)) (by decide) z ?_
  rintro b1 ρ1 w1 H1 z1 z0 k1 x1 ⟨C1,a1,I1⟩ r1 m1;refine a54 (C:=C1) I1 (by rw[a1];exact .inr rfl) x1 z0 ok.1 (ok.2 f2 (by simp)) (show 1<1000 by decide) z1 ?_
  rintro b2 ρ2 w2 H2 z2 z0 k2 x2 ⟨C2,a2,I2⟩ r2 m2;refine a54 (C:=C2) I2 (by rw[a2,a1];exact .inr rfl) x2 z0 ok.1 (ok.2 f3 (by simp)) (by simp[mZ,n1]) z2 ?_
  rintro b3 ρ3 w3 H3 z3 z0 k3 x3 ⟨C3,a3,I3⟩ r3 m3;rw[a1]at m2 r2;rw[a2,a1]at m3 r3;refine q [b1.d,b2.d,b3.d] [w1,w2,w3] H3 z3 (λb o ne e=>k3 b o ne (k2 b o ne (k1 b o ne (I.ext b o e)))) ?_ rfl (.cons (m3 _ _ (m2 _ _ r1)) (.cons (m3 _ _ r2) (.cons r3 .nil)))
  rw[x3];simp[mZ,n1,n2,n3]
def aL9 (s:Stmt):List Stmt:=match s with
 | .ClassDef _ _ _ b _ _ _ _ _ _ _=>b
 | _=>[]
section
variable {P:Program}{w:World}{K:PySem.W.Frag}{mg:Str->Option Value}{base:Heap}
theorem b40 {C fI:Addr}{od an:Option Addr}{osl:Array (Option Value)}{kV doc pm cdv ct:Value}{nm qual:Str}{st:Stmt}{x0 x1 x2 f1 f2:Str}{p1 p2 p3 p4 p5 p6 p7 p8:Pos}
  (l:K.lookup fI=some ⟨.type "function",od,.func (fnOf nm qual (fL st) (bK st) (a8 st) .none kV doc pm an cdv ct),osl⟩) (c:codeIn K cdv qual=true) (k:keepIn K (.ref fI)=true)
  (hb:bK st=[.Assign [.Attribute (.Name x0 p1) f1 p2] (.Name x1 p3) p4,.Assign [.Attribute (.Name x0 p5) f2 p6] (.Name x2 p7) p8]) (S:aP [x0,x1,x2] [x0,x1,x2] (a8 st))
  (l0:(a8 st).names.lookup x0=some .local) (l1:(a8 st).names.lookup x1=some .local) (l2:(a8 st).names.lookup x2=some .local) (d0:(x0==("__debug__":Str))=false) (d1:(x1==("__debug__":Str))=false) (d2:(x2==("__debug__":Str))=false)
  (bd: ∀(kV doc pm:Value) (an:Option Addr) (cdv ct:Value) (us:List Value),us.length=[x0,x1,x2].length->bindArgs (fnOf nm qual (fL st) (bK st) (a8 st) .none kV doc pm an cdv ct) ⟨us,[]⟩=pure ([x0,x1,x2].zip us))
  {cd:ClassData} (hc:PySem.W.clsIn K C=some cd) (hm:m8 cd.mro=true) (hd:cd.hasDict=true) (sa:PySem.W.findIn K (.ref C) "__setattr__"=some (some (.builtin "object.__setattr__"))) (n1:PySem.W.findIn K (.ref C) f1=some none) (n2:PySem.W.findIn K (.ref C) f2=some none) :
  aC2 K C fI (fnOf nm qual (fL st) (bK st) (a8 st) .none kV doc pm an cdv ct) f1 f2:=
 ⟨⟨_,od,nm,qual,fL st,a8 st,kV,doc,pm,an,cdv,ct,osl,x0,x1,x2,p1,p2,p3,p4,p5,p6,p7,p8,by rw[hb],l,rfl,c,S,l0,l1,l2,d0,d1,d2,(aY (st:=st) l c k).binds bd⟩,⟨cd,hc,hm,hd⟩,sa,n1,n2⟩
theorem y9 {R C:Addr}{bmB:List Value}{newId:String}{cd:ClassData}(h:excIn K C bmB newId=true\/ ∃fI,nJ K C fI bmB newId=true)(hc:PySem.W.clsIn K C=some cd)(hm:cd.mro.contains (.ref R)=true):qE K R C bmB newId:=⟨h,cd,hc,hm⟩
theorem Fn.mkA {x y qual:Str}{st:Stmt}{f:Addr}{fd:FuncData}{N ps:List Str}{k:Nat}{φ:Φ}(F:Fun K y qual st f fd)(m:mg x=some (.ref f))(b:Binds K fd ps [])(S:aP N ps (a8 st))
  (len: ∀ds Q,φ ds Q->ds.length=ps.length) {t:US}
  (der: ∀(cdv:Value) (A:Around) (outer:List Env) (s:Shared) (H:Hp) (E:XK),dA k (A.deeper (envOfC qual (a8 st) s.heap.objs.size f cdv))->sF (nU CX0 P w K mg base N qual (a8 st) f cdv A outer s H E).nox (bK st) t)
  (rd: ∀ds Q,φ ds Q->t {nx:=λ_=>Q (.pu .non),rt:=Q} (init N ds)):Fn P w K mg base x ps (k+1) φ:=
 ⟨f,fd,aK7 F S len λcdv A outer s H E hr=>⟨t,der cdv A outer s H E hr,rd⟩,b,F.kp,m⟩
end
end M
end
section
namespace L2
open PySem PySem.Spec PySem.W PySem.Calls PyProof.Rows Builtin Builtin.ObjectAttr Builtin.Getset_descriptor
section
variable {prog:Program}{w:World}{A:Around}{E:Value->Shared->Prop}{s:Shared}{K:Frag}{x D:Addr}{ox:Obj}{a g:Value}{name:Str}
theorem b41 {M:Model}{h:Heap}(hx:h.get? x=some ox)(hc:ox.cls= .ref D):Looks M h (typeOf (.ref x)) (.ref D):=by
 rw[<-hc];exact(Looks.ld hx).andThen .now
theorem bW0 {M:Model}{h:Heap}(X:K.In h)(ha:findIn K (.ref D) name=some (some a))(hg:specialIn K a "__get__"=some (some g))(ht:takesIn K a=some true):Looks M h (find (.ref x) (.ref D) name) (.bind g a):=by
 have u3:Looks M h (dataDescriptor? (some a) (some g)) (some (g,a)):=(looks_takesIn X ht).andThen .now;have u2:Looks M h (getOf (some a)) (some g):=looks_specialIn X hg;exact(looks_findIn X ha).andThen (u2.andThen (u3.andThen (Looks.tag .now)))
theorem bW1 {Q:Option Value->Shared->Prop}(X:K.In s.heap)(hx:s.heap.get? x=some ox)(hc:ox.cls= .ref D)(hg:findIn K (.ref D) "__getattribute__"=some (some (.builtin "BaseException.__getattribute__")))(hh:findIn K (.ref D) "__getattr__"=some none)(ha:findIn K (.ref D) "__class__"=some (some (.builtin "object.__class__")))
  (hn:specialIn K (.builtin "object.__class__") "__get__"=some (some (.builtin "getset_descriptor.__get__"))) (ht:takesIn K (.builtin "object.__class__")=some true) (hm:mroIn K D (.type "object")=some true) (hb:mroIn K D (.type "BaseException")=some true) (h:Q (some (.ref D)) {s with toks:=s.toks+1}) :
  wpAny (model prog w) A (getAttr? (.ref x) "__class__") Q E s:=by
 obtain⟨hp,gn,dr,tn,os⟩:=s;have v0:=b41 (M:=model prog w) hx hc;have v1:=looks_findIn (M:=model prog w) X hg;have v2:=bW0 (M:=model prog w) (x:=x) X ha hn ht;have v3:=looks_findIn (M:=model prog w) X hh;have v4:=looks_mroIn (M:=model prog w) X hm;have v5:=looks_mroIn (M:=model prog w) X hb
 have v6:Looks (model prog w) hp (bindSpecial (.builtin "BaseException.__getattribute__") (.ref x)) (.builtin "BaseException.__getattribute__",[.ref x]):=Looks.of_pure (PySem.F.excAttr_ValueError.ga.bind (.ref x));unfold getAttr? getAttrBy?;unfold getAttrBy;refine wpAny_bind (wpAny_mkText (wpAny_bind (wpAny_attempt (wpAny_holding (wpAny_bind (v0.at (wpAny_bind (v1.at ?_))))))))
 show wpAny _ _ (getAttrByItsOwn _ _ _ _ _ _) _ _ _
 unfold getAttrByItsOwn hookBefore;refine wpAny_bind (v3.at (wpAny_bind (wpAny_attempt (wpAny_holding ?_))));show wpAny _ _ (boundAndCalled _ _ _) _ _ _;unfold boundAndCalled;refine wpAny_bind (v6.at ?_);have bk:builtinKind "BaseException.__getattribute__"=some .slot:=by decide +kernel
 have hsp:splitId "BaseException.__getattribute__"=some ("BaseException","__getattribute__"):=by decide +kernel
 have har:=F.args_bexc_ga (.ref x) (.str "__class__" tn);refine wpAny_call (codeAny_call_builtin PySem.F.excAttr_ValueError.ga.plain F.entry_bexc_ga ?_);simp only[checkBuiltinCall,bk,hsp];refine wpAny_bind ?_;unfold isInstance;have w1:=looks_findIn (M:=model prog w) X ha
 have w2:Looks (model prog w) hp (getOf (some (.builtin "object.__class__"))) (some (.builtin "getset_descriptor.__get__")):=looks_specialIn X hn;have w3:Looks (model prog w) hp (dataDescriptor? (some (.builtin "object.__class__")) (some (.builtin "getset_descriptor.__get__"))) (some (.builtin "getset_descriptor.__get__",.builtin "object.__class__")):=(looks_takesIn X ht).andThen .now
 repeat (any_goals (first|assumption|with_reducible refine v0.at ?_|with_reducible refine v5.at ?_|with_reducible refine w1.at ?_|with_reducible refine w2.at ?_|with_reducible refine w3.at ?_|wp_step))
 refine codeAny_call_builtin KF.slot_gs.plain KF.entry_gs ?_
 refine KF.slot_gs.check _ _ _ _ _ _ _ _ KF.type_class (KF.args_gs _ _ _) ?_
 unfold Builtin.«getset_descriptor.__get__»; unfold descrGet;rw[dga_obj];refine wpAny_bind ?_;refine wpAny_pure ?_;unfold descrGetter;unfold descrCheckInstance descrNameAndClass;unfold isInstance;simp only[KF.owner_class]
 repeat lk
 refine⟨Code.quiet_builtin _ (by decide +kernel),?_⟩
 refine codeAny_builtin KF.entry_class ?_
 unfold Builtin.«object.__class__»; unfold shownTypeOf
 repeat lk
 repeat (first|exact h|wp_step)
theorem x_attr {expr:Bool}{f:Str}{od:Obj}{v:Value}{Q:Value->Shared->Prop}(X:K.In s.heap)(I:InstAt s.heap x ox D (some od))(hg:findIn K (.ref D) "__getattribute__"=some (some (.builtin "BaseException.__getattribute__")))(hh:findIn K (.ref D) "__getattr__"=some none)(hd:hasDictIn K D=true)(ha:findIn K (.ref D) f=some none)
  (hl:lookIn f od=some (some v)) (hv:handedIn v=true) (hb:mroIn K D (.type "BaseException")=some true) (h:Q v {s with toks:=s.toks+1}):wpAny (model prog w) A (getAttr (.ref x) f expr) Q E s:=by
 obtain⟨hp,gn,dr,tn,os⟩:=s;have v0:=I.type (M:=model prog w);have v1:=looks_findIn (M:=model prog w) X hg;have v2:=looks_find (M:=model prog w) X I (findObj_own hd ha rfl hl);have v3:=looks_findIn (M:=model prog w) X hh;have v5:=looks_mroIn (M:=model prog w) X hb
 have v6:Looks (model prog w) hp (bindSpecial (.builtin "BaseException.__getattribute__") (.ref x)) (.builtin "BaseException.__getattribute__",[.ref x]):=Looks.of_pure (PySem.F.excAttr_ValueError.ga.bind (.ref x));have v7:Looks (model prog w) hp (handedOut v) v:=Looks.of_pure (handedOut_of hv);have nx:(expr&&onTheHeap (Value.builtin "BaseException.__getattribute__"))=false:=by cases expr<;>rfl
 unfold getAttr;unfold getAttrBy;refine wpAny_bind (wpAny_mkText (wpAny_holding (wpAny_bind (v0.at (wpAny_bind (v1.at ?_))))));show wpAny _ _ (getAttrByItsOwn _ _ _ _ _ _) _ _ _;unfold getAttrByItsOwn hookBefore;refine wpAny_bind (v3.at (wpAny_bind (wpAny_attempt (wpAny_holding ?_))));unfold callGetattribute;rw[nx,if_neg (by decide)]
 unfold boundAndCalled;refine wpAny_bind (v6.at ?_);have bk:builtinKind "BaseException.__getattribute__"=some .slot:=by decide +kernel
 have hsp:splitId "BaseException.__getattribute__"=some ("BaseException","__getattribute__"):=by decide +kernel
 have har:=F.args_bexc_ga (.ref x) (.str f tn);refine wpAny_call (codeAny_call_builtin PySem.F.excAttr_ValueError.ga.plain F.entry_bexc_ga ?_);simp only[checkBuiltinCall,bk,hsp];refine wpAny_bind ?_;unfold isInstance
 repeat (any_goals (first|assumption|with_reducible refine v0.at ?_|with_reducible refine v5.at ?_|with_reducible refine v2.at ?_|with_reducible refine v7.at ?_|wp_step))
structure XKit (K:Frag)(C:Addr):Prop where
 ci:(clsIn K C).isSome=true
 ga:findIn K (.ref C) "__getattribute__"=some (some (.builtin "BaseException.__getattribute__"))
 gh:findIn K (.ref C) "__getattr__"=some none
 ha:findIn K (.ref C) "__class__"=some (some (.builtin "object.__class__"))
 hn:specialIn K (.builtin "object.__class__") "__get__"=some (some (.builtin "getset_descriptor.__get__"))
 tk:takesIn K (.builtin "object.__class__")=some true
 hm:mroIn K C (.type "object")=some true
 hb:mroIn K C (.type "BaseException")=some true
structure bJ9 (K:Frag)(C:Addr)(fs:List Str):Prop extends XKit K C where
 dd:hasDictIn K C=true
 nf: ∀f∈fs,findIn K (.ref C) f=some none
theorem bK0 {C:Addr}(k:XKit K C):KitX K (.ref x) (.ref C) (λh=> ∃o,h.get? x=some o/\o.cls= .ref C) where
 ty:=λ_ _ _ ⟨_,h1,h2⟩=>b41 h1 h2
 it:=λM h X _=>by
  obtain⟨cd,e⟩:=Option.isSome_iff_exists.mp k.ci;unfold clsIn at e;split at e
  ·rename_i look
   intro A' Q' E' s' keep q;unfold isType loadHead;exact wpAny_bind (wpAny_loadPart (keep _ _ (X _ _ look)) (wpAny_pure q))
  ·cases e
 ne:=λh tp dd its n sl X at_=>by
  obtain⟨cd,e⟩:=Option.isSome_iff_exists.mp k.ci;rw[Bool.eq_false_iff];intro q;cases (beq_iff_eq.mp q:Value.ref C= .ref tp);unfold clsIn at e;split at e
  ·rename_i look
   cases (X _ _ look).symm.trans at_
  ·cases e
 ca:=λX ⟨_,h1,h2⟩ q=>bW1 X h1 h2 k.ga k.gh k.ha k.hn k.tk k.hm k.hb q
end
end L2
namespace M
open PySem PySem.Spec PyProof.Rows L2
def XD (a:Addr)(oe:Obj)(x:D):Prop:=x= .adr a\/ ∃d ks l,x= .xob a d ks l/\oe.dict=some d/\ ∀c,oe.data≠ .cls c
theorem XD.rep {K:PySem.W.Frag}{A:AS}{H:Hp}{a:Addr}{oe:Obj}{x:D}{v:V}(h:XD a oe x)(r:Rep K A H x v):v= .ref a:=by
 rcases h with rfl| ⟨d,ks,l,rfl,_⟩
 ·simpa only[Rep]using r
 ·simp only[Rep]at r;obtain⟨vs,e,_⟩:=r;exact e
def gIs (x d:D)(b:Bool):List D->(B->Prop)->Prop:=λds Q=>ds=[x,d]/\Q (.pu (.bl b))
def clsV:D->Option (V×Value)
 | .adr R=>some (.ref R,.ref R)
 | .ty T=>some (.ty T,.type T)
 | _=>none
section
variable {X:Cx}{a C:Addr}{oe:Obj}{e0 d:D}{v:V}{u:Value}{b:Bool}
theorem cu_is (k:XKit X.K C)(hp:(a,oe)∈X.pn)(hc:oe.cls= .ref C)(h0:XD a oe e0)(hd:clsV d=some (v,u))(e:kitOne X.K (.ref C) u=some b):pB X (.builtin "isinstance") (gIs e0 d b):=by
 intro A H ds vs Q0 Q hA r ⟨g1,g2⟩ q;subst g1;obtain⟨x,vr,rfl,r1,r2⟩:=r.uncons;obtain⟨y,vr2,rfl,r3,r4⟩:=r2.uncons;cases r4.unnil;have ex:x= .ref a:=h0.rep r1;have ey:y=v/\ ∀z,RelV v z->z=u:=by
  cases d with
  | adr R=>cases hd;exact⟨by simpa only[Rep]using r3,λz h=>h⟩
  | ty T=>cases hd;exact⟨by simpa only[Rep]using r3,λz h=>h⟩
  | _=>cases hd
 obtain⟨rfl,ey⟩:=ey;subst ex;refine⟨λxs H Q=>xs=[.ref a,y]/\Q (.bl b) H,?_,rfl,q _ _ H g2 (.refl _) hG⟩
 rintro pins s σ H' xs us Q' I rv ⟨rfl,hq⟩;obtain⟨w1,w2,rfl,q1,q2⟩:=vals2 rv;obtain rfl:w1=Value.ref a:=q1;obtain rfl:=ey _ q2;have pin:=I.pin (a,oe) (List.mem_append.mpr (.inl hp));exact PySem.W.kia_one (bK0 k) I.kIn ⟨_,pin.1,hc⟩ e (λz=>nomatch z) λtk=>⟨.bl b,H',I.tok _,rfl,hq⟩
end
end M
end
section
namespace L2
open PySem PySem.Spec PyProof.Rows
section
variable {X:Cx}{pins:List (Addr×Obj)}{σ:St}{H:Hp}{s:Shared}
theorem a18 {M:Model}{A:Around}{E:Value->Shared->Prop}{i:Nat}{y:Str}{pos:Pos}{Q:Unit->Shared->Prop}(I:Inv X pins σ H s)(hN:X.N.Nodup)(hi:X.N[i]? =some y)(hy:X.env.scope.names.lookup y=some .local)
  (h: ∀s',Inv X pins (σ.set i none) H s'->Q () s'):wpAny M A (do bindName X.env y .none;unbindBehindTheSuite X.env y pos) Q E s:=by
 obtain⟨m,hn,hl⟩:=id I.loc;have lt: ∀{b:Addr} {o:Obj},X.s₀.heap.get? b=some o->b≠X.env.locals:=λe=>ne_of_lt (lt_of_lt_of_le (lt_size e) I.ok.above)
 have iσ:i<σ.length:=by rw[I.len];exact(List.getElem?_eq_some_iff.mp hi).1
 refine wpAny_nameGoes_keeps hy hn (by rw[I.ok.kind];rfl) λh' v hn' hs=>h _ ⟨I.ok,I.os,I.bare,⟨λb o e n hb hx=>(hs.2 b (lt e)).trans (I.base.keep b o e n hb hx),λb o e n hb hx=> ?_,I.base.free,λb o e hx=> ?_,I.base.tups,I.base.frzs,I.base.tbls⟩,⟨_,hn',λj z v' e1 e2 e3=> ?_⟩,λz c e=> ?_,I.free,I.freeC,λp hp=> ?_,λb ob e=> ?_,by simpa using I.len⟩
 ·obtain⟨sl,e1⟩:=I.base.slot b o e n hb hx;exact⟨sl,(hs.2 b (lt e)).trans e1⟩
 ·obtain⟨o',e1⟩:=I.base.there b o e hx;exact⟨o',(hs.2 b (lt e)).trans e1⟩
 ·by_cases hj:j=i
  ·subst hj;rw[getElem?_set_self iσ]at e2;cases e2
  ·rw[getElem?_set_ne (Ne.symm hj)]at e2;obtain⟨u',r',q⟩:=hl j z v' e1 e2 e3;refine⟨u',r',?_⟩;rcases q with⟨k,e⟩| ⟨k,c,e,t⟩
   ·have ne:z≠y:=λe=>hj (a30 hN e1 (e▸hi))
    exact .inl ⟨k,by simp[ne,e]⟩
   ·exact .inr ⟨k,c,e,t.sameBut hs (I.cne z c e)⟩
 ·obtain⟨w',t⟩:=I.cell z c e;exact⟨w',t.sameBut hs (I.cne z c e)⟩
 ·obtain⟨e,n,ne,nf,d⟩:=I.pin p hp;exact⟨(hs.2 p.1 ne).trans e,n,ne,nf,d⟩
 ·refine(I.hok b ob e).stay (λc w' hc q=>(hs.2 c ?_).trans q) (λ_ q=>q) λ_ _ q=>q
  intro z;subst z;have fr:=I.free;rcases hc with hc|hc
  ·subst hc;rw[fr]at e;cases e
  ·rw[fr]at hc;cases hc
def qF (K:PySem.W.Frag)(R C:Addr)(bmB:List Value)(newId:String)(b:Bool):Prop:=(excIn K C bmB newId=true\/ ∃fI,nJ K C fI bmB newId=true)/\ ∃cd,PySem.W.clsIn K C=some cd/\cd.mro.contains (.ref R)=b
theorem qE.b {K:PySem.W.Frag}{R C:Addr}{bmB:List Value}{newId:String}(u:qE K R C bmB newId):qF K R C bmB newId true:=u
theorem bK1 {K:PySem.W.Frag}{h:Heap}{C N:Addr}{nm q:Str}{bs bm:List Value}{hd:Bool}{sn:List Str}{sub:List Value}{ab:Bool}{col:Option Bool}{dd:Option Addr}{k0 k1 k2 k3 k5:Option Value}{newId:String}{cd:ClassData}(X:K.In h)
  (hC:h.get? C=some (excClassObj nm q C N bs bm hd sn sub ab col dd k0 k1 k2 k3 k5 newId)) (hc:PySem.W.clsIn K C=some cd):cd.mro=Value.ref C::bm:=by
 unfold PySem.W.clsIn at hc;split at hc
 ·rename_i look
  have same:=X _ _ look;rw[hC]at same;cases hc
  injection same with same
  injection same with _ _ same _
  injection same with same
  rw[<-same]
 ·cases hc
theorem underB {K:PySem.W.Frag}{h:Heap}{R C:Addr}{bmB:List Value}{newId:String}{b:Bool}(X:K.In h)(u:qF K R C bmB newId b): ∃(nm q:Str) (N:Addr) (bs bm:List Value) (hd:Bool) (sn:List Str) (sub:List Value) (ab:Bool) (col:Option Bool) (dd:Option Addr) (k0 k1 k2 k3 k5:Option Value),
  h.get? C=some (excClassObj nm q C N bs bm hd sn sub ab col dd k0 k1 k2 k3 k5 newId)/\(Value.ref C::bm).contains (.ref R)=b:=by
 obtain⟨a,cd,hc,hr⟩:=u;rcases a with a| ⟨fI,a⟩
 ·obtain⟨bm,⟨⟨nm,qn,N,bs,hdd,sn,sub,ab,col,dd,k0,k1,k2,k3,k5,mN,hC,_⟩,_⟩⟩:=aL4 X a;exact⟨nm,qn,N,bs,bm,hdd,sn,sub,ab,col,dd,k0,k1,k2,k3,k5,hC,by rw[<-bK1 X hC hc];exact hr⟩
 ·obtain⟨bm,⟨⟨nm,qn,N,bs,hdd,sn,sub,ab,col,dd,k0,k1,k2,k3,k5,mN,hC,_⟩,_⟩⟩:=a51 X a;exact⟨nm,qn,N,bs,bm,hdd,sn,sub,ab,col,dd,k0,k1,k2,k3,k5,hC,by rw[<-bK1 X hC hc];exact hr⟩
def XOk (K:PySem.W.Frag)(C:Addr)(bmB:List Value)(newId:String):Prop:=excIn K C bmB newId=true\/ ∃fI,nJ K C fI bmB newId=true
theorem xok_of {K:PySem.W.Frag}{h:Heap}{C:Addr}{bmB:List Value}{newId:String}(X:K.In h)(a:XOk K C bmB newId): ∃(nm q:Str) (N:Addr) (bs bm:List Value) (hd:Bool) (sn:List Str) (sub:List Value) (ab:Bool) (col:Option Bool) (dd:Option Addr) (k0 k1 k2 k3 k5:Option Value),
  h.get? C=some (excClassObj nm q C N bs bm hd sn sub ab col dd k0 k1 k2 k3 k5 newId)/\OwnTail h bmB bm:=by
 rcases a with a| ⟨fI,a⟩
 ·obtain⟨bm,⟨⟨nm,qn,N,bs,hdd,sn,sub,ab,col,dd,k0,k1,k2,k3,k5,mN,hC,_⟩,tl⟩⟩:=aL4 X a;exact⟨nm,qn,N,bs,bm,hdd,sn,sub,ab,col,dd,k0,k1,k2,k3,k5,hC,tl⟩
 ·obtain⟨bm,⟨⟨nm,qn,N,bs,hdd,sn,sub,ab,col,dd,k0,k1,k2,k3,k5,mN,hC,_⟩,tl⟩⟩:=a51 X a;exact⟨nm,qn,N,bs,bm,hdd,sn,sub,ab,col,dd,k0,k1,k2,k3,k5,hC,tl⟩
theorem aM0 {M:Model}{A:Around}{E:Value->Shared->Prop}{s:Shared}{e C R:Addr}{oe:Obj}{Q:Bool->Shared->Prop}{b:Bool}{K:PySem.W.Frag}{B newId initId:String}{bmB:List Value}(FB:ExcBaseFacts B newId initId bmB)(X:K.In s.heap)(u:qF K R C bmB newId b)(hR:XOk K R bmB newId)
  (he:s.heap.get? e=some oe) (hcl:oe.cls= .ref C) (hq:Q b s):wpAny M A (excMatches (.ref e) (.ref R)) Q E s:=by
 obtain⟨nm,qn,N,bs,bm,hdd,sn,sub,ab,col,dd,k0,k1,k2,k3,k5,hC,hin⟩:=underB X u;obtain⟨nm',qn',N',bs',bm',hdd',sn',sub',ab',col',dd',k0',k1',k2',k3',k5',hRo,tl'⟩:=xok_of X hR;have hb:=tl'.hasType FB.hasBase;obtain⟨hp,gn,dr,tn,os⟩:=s;have t1:(Value.ref R::bm').contains (.type "BaseException")=true:=by rw[contains_cons,hb,Bool.or_true]
 have t2:=tc_notTuple;unfold excMatches
 repeat (first
  | (with_reducible refine wpAny_loadPart_at he ?_;rw[hcl])
  | with_reducible refine wpAny_loadPart_at hRo ?_
  | (with_reducible refine wpAny_isSubtype_exc hRo ?_;rw[t1])
  | (with_reducible refine wpAny_isSubtype_exc hC ?_;rw[hin])
  | wp_step)
 cases b with
 | true=>repeat (first|exact hq|wp_step)
 | false=>repeat (first|exact hq|wp_step)
end
section
variable {X:Cx}
abbrev Cx.asX (X:Cx)(a:Addr)(oe:Obj):Cx:={X.inX a with pn:=(a,oe)::X.pn}
def aM1 (i:Nat)(D:xP):xP:={D with nx:=λσ H=>D.nx (σ.set i none) H,bk:=λσ H=>D.bk (σ.set i none) H,ct:=λσ H=>D.ct (σ.set i none) H}
def tTry2 (K:PySem.W.Frag)(C1 R1 R2:Addr)(bmB:List Value)(newId:String)(i:Nat)(tb:XK->TS)(th1:Addr->Option Addr->TS)(th2:TS):TS:=λD σ H=> ∃E,tb E D σ H/\ ∀C o H',E (.ref C) o H'->
 (C=C1/\ ∀a,th1 a o (aM1 i D) (σ.set i (some (.ref a))) H')\/(qF K R1 C bmB newId false/\qF K R2 C bmB newId true/\th2 D σ H')
theorem bW2 {body:List Stmt}{b0 c0:Stmt}{suite1 suite2:List Stmt}{r1 r2 y:Str}{rp1 rp2 hp1 hp2 pos:Pos}{C1 R1 R2:Addr}{B newId initId:String}{bmB:List Value}{tb:XK->TS}{th1:Addr->Option Addr->TS}{th2:TS}{i:Nat}(FB:ExcBaseFacts B newId initId bmB)(hstk:X.stack=X.env::X.outer)(hfr:X.env.frame=some X.env.locals)(hex:X.ex=[])(hc:X.calm=true)
  (hbody: ∀(xe:Value->Shared->Prop) (E:XK) (pins:List (Addr×Obj)) (s:Shared) (σ:St) (H:Hp) (D:xP),Inv (X.wish xe) pins σ H s->sP (CXr X.prog X.w X.base) (X.wish xe) E pins σ->tb E D σ H->wpAny (model X.prog X.w) X.A (execs body X.env) (SP (X.wish xe) pins D) xe s)
  (hs1: ∀a oe o,oe.cls= .ref C1->(∀d,o=some d->oe.dict=some d)->(∀c,oe.data≠ .cls c)->PSs (X.asX a oe) (b0::suite1) (th1 a o)) (hs2: ∀a,PSs (X.inX a) (c0::suite2) th2) (hg1:Gl X r1) (hm1:X.mg r1=some (.ref R1)) (hR1:XOk X.K R1 bmB newId) (hg2:Gl X r2) (hm2:X.mg r2=some (.ref R2)) (hR2:XOk X.K R2 bmB newId)
  (hu:qF X.K R1 C1 bmB newId true) (hN:X.N.Nodup) (hi:X.N[i]? =some y) (hy:X.env.scope.names.lookup y=some .local) (hd1:(r1==("__debug__":Str))=false:=by decide) (hd2:(r2==("__debug__":Str))=false:=by decide) :
  PS X (.Try body [.ExceptHandler (some (.Name r1 rp1)) (some y) (b0::suite1) hp1,.ExceptHandler (some (.Name r2 rp2)) none (c0::suite2) hp2] [] [] pos) (tTry2 X.K C1 R1 R2 bmB newId i tb th1 th2):=by
 rintro pins s σ H D I ⟨E,hb,hx⟩;refine wpAny_Try_except ?_
 have goX:sP (CXr X.prog X.w X.base) (X.wish λe s1=>wpAny (model X.prog X.w) X.A (noteFrame e X.env) (λ_ s2=>wpAny (model X.prog X.w) X.A (setFlight e none) (λ_ s3=>wpAny (model X.prog X.w) X.A (handleBy e X.env [.ExceptHandler (some (.Name r1 rp1)) (some y) (b0::suite1) hp1,.ExceptHandler (some (.Name r2 rp2)) none (c0::suite2) hp2]) (SP X pins D) X.xe s3) X.xe s2) X.xe s1) E pins σ:=by
  rintro H1 s1 e s' J ⟨a,C,o',H',rfl,ho,hbr,un,hok,⟨⟨a0,fl⟩,fe,ft⟩,nw,xa,hE⟩;have J0:=J.unwish;have J1:Inv X pins σ H' s':=J0.call' ho un hok hbr (λb z=>absurd z (by simp))
  have fl':FlyingW X.base X.stack a (.ref C) a0 s'.heap:=fl;have frs':=J1.ok.frames;have g0: ∀b o,s1.heap.get? b=some o-> ∃o',s'.heap.get? b=some o':=λb o q=>un.there b o q (by simp)
  have gs: ∀b o,X.s₀.heap.get? b=some o-> ∃o',s1.heap.get? b=some o':=λb o q=>J0.base.there b o q (by rw[hex];simp)
  have gp: ∀q∈X.pn++pins,∃o',s1.heap.get? q.1=some o':=λq hq=>⟨_,(J0.pin q hq).1⟩
  show wpAny _ _ (noteFrame (.ref a) X.env) _ _ s'
  rw[hstk]at fl' frs';refine bJ0 frs' hfr fl' λh2 held p2=> ?_
  rw[<-hstk]at p2 held fl';have J2:=J1.past (g:=s1.heap) p2 hstk hfr hex gs gp nw.he nw.ht fe ft;have n2:=nw.past p2 g0 (bV7 held.2.2.1);have g2:=a53 nw p2 g0 (bV7 fl'.2.2.1);have t2:=a16 J1.hok p2 J1.stkFree fe ft;refine a48 held λh3 fl3 p3=> ?_
  have J3:=J2.past (g:=s1.heap) p3 hstk hfr hex gs gp n2.he n2.ht fe t2;have n3:=n2.past p3 g2 (bV7 fl3.2.2.1);have g3:=a53 n2 p3 g2 (bV7 held.2.2.1);have t3:=a16 J2.hok p3 J2.stkFree fe t2;obtain⟨oe,he,hcl⟩:=fl3.there;rcases hx C o' H' hE with⟨rfl,hth⟩| ⟨nu,under,hth⟩
  ·refine wpAny_handleBy_cons (codeAny_handlers_test (l6 (X:=X.inX a) (J3.inX a) hg1 hm1 ?_ hd1)) (by intro q;cases q)
   refine aM0 FB J3.kIn hu hR1 he hcl ?_
   refine codeAny_handlers_suite_as (a48 fl3 λh4 fl4 p4=> ?_)
   have J4:=J3.past (g:=s1.heap) p4 hstk hfr hex gs gp n3.he n3.ht fe t3;obtain⟨oe4,he4,hcl4⟩:=fl4.there;have xa4: ∀d,o'=some d->oe4.dict=some d:=λd q=>by
    obtain⟨o5,e1,e2⟩:=((xa.dk p2.dk).dk p3.dk).dk p4.dk d q;rw[he4]at e1;cases e1;exact e2
   have nc4: ∀c,oe4.data≠ .cls c:=λc z=>by
    obtain⟨_,_,_,oe5,vs5,_,_,_,he5,_,hd5,_⟩:=fl4;rw[he5]at he4;cases he4;rw[hd5]at z;cases z
   have notF:a ∉ frs X.stack:=λz=>by
    obtain⟨_,o',q',n⟩:=fl4.2.2.1.mem (b:=a) z;obtain⟨_,_,_,oe5,vs5,_,_,_,he5,_,hd5,_⟩:=fl4;rw[he5]at q';cases q';exact n vs5 hd5
   have hin: ∀b,b∈frs X.stack↔b=X.env.locals\/b∈X.fs:=λb=>by
    rw[hstk];unfold Cx.fs frs;rw[filterMap_cons,hfr];exact mem_cons
   have J5:Inv (X.asX a oe4) pins σ H' {s' with heap:=h4}:=by
    have K4:=J4.inX a;refine⟨⟨K4.ok.mod,K4.ok.kind,K4.ok.glob,K4.ok.blt,K4.ok.above,K4.ok.inj,K4.ok.has,K4.ok.cab,K4.ok.hd,K4.ok.frames,K4.ok.stk,K4.ok.exf,K4.ok.bs,K4.ok.bsz,K4.ok.noex,K4.ok.exfs,K4.ok.funs,K4.ok.frf⟩,K4.os,K4.bare,K4.base,K4.loc,K4.cell,K4.free,K4.freeC,λp hp=> ?_,K4.hok,K4.len⟩
    rcases List.mem_cons.mp (show p∈(a,oe4)::(X.pn++pins)from hp)with rfl|hp
    ·refine⟨he4,fe,λz=>notF ((hin a).mpr (.inl z)),λz=>notF ((hin a).mpr (.inr z)),λv z=> ?_⟩
     obtain⟨_,_,_,oe5,vs5,_,_,_,he5,_,hd5,_⟩:=fl4;rw[he5]at he4;cases he4;rw[hd5]at z;cases z
    ·exact K4.pin p hp
   refine wD (X:=X.asX a oe4) J5 hN hi (.inl hy) (show RelV (.ref a) (.ref a)from rfl) (λs6 J6=> ?_) (.inr hy)
   have out: ∀{σ':St} {H2:Hp} {s7:Shared},Inv (X.asX a oe4) pins σ' H2 s7->Inv X pins σ' H2 s7:=λz=>
    Inv.outX (e:=a) ⟨⟨z.ok.mod,z.ok.kind,z.ok.glob,z.ok.blt,z.ok.above,z.ok.inj,z.ok.has,z.ok.cab,z.ok.hd,z.ok.frames,z.ok.stk,z.ok.exf,z.ok.bs,z.ok.bsz,z.ok.noex,z.ok.exfs,z.ok.funs,z.ok.frf⟩,z.os,z.bare,z.base,z.loc,z.cell,z.free,z.freeC,λp hp=>z.pin p (mem_cons_of_mem _ hp),z.hok,z.len⟩ λ_=>J4.ok.hd hc
   refine wpAny_mono (hs1 a oe4 o' hcl4 xa4 nc4 pins _ _ H' (aM1 i D) J6 (hth a)) (λf s7 q=> ?_) λ_ _ z=>z.elim
   show wpAny _ _ (do bindName X.env y .none;unbindBehindTheSuite X.env y hp1) _ _ s7
   cases f with
   | next=>obtain⟨σ',H2,I7,q⟩:=q;exact a18 (out I7) hN hi hy λs8 I8=>⟨_,H2,I8,q⟩
   | brk=>obtain⟨σ',H2,I7,q⟩:=q;exact a18 (out I7) hN hi hy λs8 I8=>⟨_,H2,I8,q⟩
   | cont=>obtain⟨σ',H2,I7,q⟩:=q;exact a18 (out I7) hN hi hy λs8 I8=>⟨_,H2,I8,q⟩
   | ret u=>obtain⟨v,σ',H2,I7,r,q⟩:=q;exact a18 (out I7) hN hi hy λs8 I8=>⟨v,_,H2,I8,r,q⟩
  ·refine wpAny_handleBy_cons (codeAny_handlers_test (l6 (X:=X.inX a) (J3.inX a) hg1 hm1 ?_ hd1)) (by intro q;cases q)
   refine aM0 FB J3.kIn nu hR1 he hcl ?_
   refine wpAny_handleBy_cons (codeAny_handlers_test (l6 (X:=X.inX a) (J3.inX a) hg2 hm2 ?_ hd2)) (by intro q;cases q)
   refine aM0 FB J3.kIn under hR2 he hcl ?_
   refine codeAny_handlers_suite (a48 fl3 λh4 fl4 p4=> ?_)
   have J4:=J3.past (g:=s1.heap) p4 hstk hfr hex gs gp n3.he n3.ht fe t3;exact wpAny_mono (hs2 a pins _ σ H' D (J4.inX a) hth) (λf s2 q=>q.outX λ_=>J4.ok.hd hc) λ_ _ z=>z.elim
 refine wpAny_mono (hbody _ E pins s σ H D (I.wish _) goX hb) (λf s1 q=> ?_) λ_ _ z=>z
 have q':=q.unwish;cases f with
 | next=>exact wpAny_execs_nil q'
 | ret v=>exact q'
 | brk=>exact q'
 | cont=>exact q'
end
end L2
end
section
namespace L2
open PySem PySem.Spec PyProof.Rows
end L2
namespace M
open PySem PySem.Spec PyProof.Rows L2
abbrev USY:=(Str->List D->Ev->Prop)->US
def lSY (K:PySem.W.Frag)(mg:Str->Option Value)(E:XK)(t:USY):TS:=λD σ H=> ∃C ρ D0 Ex,EOk K C ρ σ H/\t Ex D0 ρ/\DOk K C D0 D/\ ∀n Cl es o ρ1 H',Ex n es ρ1->mg n=some (.ref Cl)->EOk K C ρ1 σ H'->XR K (Av C ρ1 σ) H' n es o->E (.ref Cl) o H'
def PUY (X:Cx)(body:List Stmt)(t:USY):Prop:= ∀(xe:Value->Shared->Prop) (E:XK) (pins:List (Addr×Obj)) (s:Shared) (σ:L2.St) (H:Hp) (D:xP),Inv (X.wish xe) pins σ H s->sP (CXr X.prog X.w X.base) (X.wish xe) E pins σ->lSY X.K X.mg E t D σ H->wpAny (model X.prog X.w) X.A (execs body X.env) (SP (X.wish xe) pins D) xe s
def uCallY (φ:ΦX)(t:UA)(Ex:Str->List D->Ev->Prop):UE:=λρ Q=>t ρ λds ρ1=>φ ds (λb=>Q b ρ1) λn es=>Ex n es ρ1
def b06 (ks:List Str)(φ:ΦM)(t:UA)(Ex:Str->List D->Ev->Prop):UE:=λρ Q=>t ρ λds ρ1=>φ ds (λl=> ∀C,Q (.pu (.obj C ks l)) ρ1) λn es=>Ex n es ρ1
section
variable {X:Cx}{e c:Expr}{es:List Expr}{a b:List Stmt}{pos:Pos}{t u:USY}{tc:UT}{K:PySem.W.Frag}{C:C0}{ρ:Ev}{σ:L2.St}{H:Hp}
theorem bW3 {k k':Nat}{ks:List Str}{φ:ΦM}{x:Str}{p cpos:Pos}{t:UA}(F:MkX X.prog X.w X.K X.mg X.base x k ks φ)(hr:dA (k'+1) X.A)(hk:k<=k')(hg:Gl X x)(ha: ∀xe,PUA (X.wish xe) (e::es) t)(hdb:(x==("__debug__":Str))=false:=by decide)
  (he:starEach (e::es) X.env=(false,eval e X.env)::starEach es X.env:=by rfl) (hpl:(backTo cpos (starEach es X.env)).any (·.1)=false:=by rfl) (hs:swapsWith (.Call (.Name x p) (e::es) [] cpos) none pos.line X.env=pure false:=by rfl) :
  PUY X [.Expr (.Call (.Name x p) (e::es) [] cpos) pos] (λEx=>sJ (b06 ks φ t Ex)):=by
 rintro xe E pins s σ H D I pa ⟨C0,ρ,D0,Ex,I0,h,k,kx⟩;obtain⟨C,f,fd,ps,M,ok,G,b,m⟩:=F.ex;refine wpAny_execs_cons (wpAny_Expr_any (thn (bV8 (X:=X.wish xe) (Q:=λ_ H1=>D.nx σ H1) M (G.mono hk) hr hg m b pa (ha xe) I ?_ hdb he hpl) λv s1 ⟨_,H1,I1,_,q1⟩=>wpAny_execs_nil ⟨σ,H1,I1,q1⟩) I.quiet hs)
 exact lMake (Q0:=λρ1 l=> ∀C,D0.nx ρ1) (Ex:=λρ1 n es=>Ex n es ρ1) ok I0 h (λl ρ1 v H' q f s r=>k.nx _ _ _ (q C) ((I0.frz f).same s)) λn Cl ρ1 es o H' z hm' I' xr=>kx n Cl es o ρ1 H' z hm' I' xr
theorem EOk.gone (I:EOk K C ρ σ H)(i:Nat):EOk K C (ρ.set i none) (σ.set i none) H:=by
 have at_: ∀{j:Nat} {b:B},(ρ.set i none)[j]? =some (some b)->j≠i/\ρ[j]? =some (some b):=λ{j b} e=>by
  by_cases c:j=i
  ·subst c
   by_cases l:j<ρ.length
   ·rw[getElem?_set_self l]at e;cases e
   ·rw[getElem?_eq_none (by rw[length_set];omega)]at e;cases e
  ·rw[getElem?_set_ne (Ne.symm c)]at e;exact⟨c,e⟩
 have own: ∀a,Av C (ρ.set i none) (σ.set i none) a->Av C ρ σ a:=λa z=>by
  rcases z with z| ⟨j,l,e1,e2⟩
  ·exact .inl z
  ·obtain⟨n,e1⟩:=at_ e1;rw[getElem?_set_ne (Ne.symm n)]at e2;exact .inr ⟨j,l,e1,e2⟩
 have pr:gE (Av C ρ σ) H (Av C (ρ.set i none) (σ.set i none)) H:=λb o n q=>⟨λz=>n (own b z),q⟩
 have sg: ∀{j:Nat},j≠i->(σ.set i none)[j]? =σ[j]? :=λn=>getElem?_set_ne (Ne.symm n)
 refine⟨by simpa using I.len,λj d e=> ?_,λj l e=> ?_,λj j' l l' a e1 e2 e3 e4=> ?_,λj l e=> ?_,I.ext,I.a0⟩
 ·obtain⟨n,e⟩:=at_ e;obtain⟨v,e1,r⟩:=I.pu j d e;exact⟨v,by rw[sg n];exact e1,r.mono pr⟩
 ·obtain⟨n,e⟩:=at_ e;obtain⟨a,vs,e1,e2,e3,r⟩:=I.ow j l e;exact⟨a,vs,by rw[sg n];exact e1,e2,e3,r.mono pr⟩
 ·obtain⟨n1,e1⟩:=at_ e1;obtain⟨n2,e2⟩:=at_ e2;rw[sg n1]at e3;rw[sg n2]at e4;exact I.inj j j' l l' a e1 e2 e3 e4
 ·obtain⟨n,e⟩:=at_ e;obtain⟨a,vs,e1,e2,e3,r⟩:=I.bo j l e;exact⟨a,vs,by rw[sg n];exact e1,e2,e3,r.mono pr⟩
def a55 (i:Nat)(E:UD):UD:={E with nx:=λρ=>E.nx (ρ.set i none),bk:=λρ=>E.bk (ρ.set i none),ct:=λρ=>E.ct (ρ.set i none)}
def mkX (n:Str)(mk:Addr->Addr->List D->D):Prop:=(sN n=[]/\mk=λa _ _=> .adr a)\/(sN n≠[]/\mk=λa d es=> .xob a d (sN n) es)
def bK2 (i:Nat)(n1:Str)(mk:Addr->Addr->List D->D)(names:List Str)(tb:USY)(th1:D->US)(th2:US):US:=λE ρ=>tb (λn es ρ1=>(n=n1/\ ∀a d,th1 (mk a d es) (a55 i E) (ρ1.set i (some (.pu (mk a d es)))))\/(n∈names/\th2 E ρ1)) E ρ
theorem bW4 {body:List Stmt}{b0 c0:Stmt}{suite1 suite2:List Stmt}{r1 r2 y:Str}{rp1 rp2 hp1 hp2:Pos}{R1 R2:Addr}{B newId initId:String}{bmB:List Value}{tb:USY}{th1:D->US}{th2:US}{mk:Addr->Addr->List D->D}(i:Nat)(names:List Str)(hmk:mkX r1 mk)(FB:ExcBaseFacts B newId initId bmB)(hstk:X.stack=X.env::X.outer)(hfr:X.env.frame=some X.env.locals)(hex:X.ex=[])(hc:X.calm=true)
  (hbody:PUY X body tb) (hs1: ∀a oe x,oe.cls= .ref R1->XD a oe x->sF (X.asX a oe) (b0::suite1) (th1 x)) (hs2: ∀a,sF (X.inX a) (c0::suite2) th2) (hg1:Gl X r1) (hm1:X.mg r1=some (.ref R1)) (hR1:XOk X.K R1 bmB newId) (hg2:Gl X r2) (hm2:X.mg r2=some (.ref R2)) (hR2:XOk X.K R2 bmB newId)
  (hu:qE X.K R1 R1 bmB newId) (hn: ∀n∈names,∀C,X.mg n=some (.ref C)->qF X.K R1 C bmB newId false/\qE X.K R2 C bmB newId) (hN:X.N.Nodup) (hi:X.N[i]? =some y) (hy:X.env.scope.names.lookup y=some .local) (hl: ∀pins σ H s,Inv X pins σ H s->i<σ.length) (hd1:(r1==("__debug__":Str))=false:=by decide) (hd2:(r2==("__debug__":Str))=false:=by decide) :
  PUS X (.Try body [.ExceptHandler (some (.Name r1 rp1)) (some y) (b0::suite1) hp1,.ExceptHandler (some (.Name r2 rp2)) none (c0::suite2) hp2] [] [] pos) (bK2 i r1 mk names tb th1 th2):=by
 intro pins s σ H D J ⟨C0,ρ,D0,I,h,k⟩;refine bW2 (C1:=R1) (R1:=R1) (R2:=R2) (i:=i) (tb:=λE=>lSY X.K X.mg E tb) (th1:=λa o D σ H=> ∃x,(x= .adr a\/ ∃d ks l,x= .xob a d ks l/\o=some d)/\lS X.K (th1 x) D σ H) (th2:=lS X.K th2) FB hstk hfr hex hc hbody (λa oe o ho hod hnc=> ?_) hs2 hg1 hm1 hR1 hg2 hm2 hR2 hu hN hi hy hd1 hd2 pins s σ H D J ?_
 ·rintro pins s σ H D J ⟨x,hx,hl⟩;refine hs1 a oe x ho ?_ pins s σ H D J hl;rcases hx with rfl| ⟨d,ks,l,rfl,e⟩
  ·exact .inl rfl
  ·exact .inr ⟨d,ks,l,rfl,hod d e,hnc⟩
 refine⟨λcls o H'=> ∃n Cl es ρ1,cls=Value.ref Cl/\X.mg n=some (.ref Cl)/\((n=r1/\ ∀a d,th1 (mk a d es) (a55 i D0) (ρ1.set i (some (.pu (mk a d es)))))\/(n∈names/\th2 D0 ρ1))/\EOk X.K C0 ρ1 σ H'/\XR X.K (Av C0 ρ1 σ) H' n es o,?_,?_⟩
 ·exact⟨C0,ρ,D0,_,I,h,k,λn Cl es o ρ1 H' ex hm I' xr=>⟨n,Cl,es,ρ1,rfl,hm,ex,I',xr⟩⟩
 ·rintro Cl o H' ⟨n,Cl',es,ρ1,e1,hm,ex,I',xr⟩;cases e1;rcases ex with⟨rfl,ht⟩| ⟨hn',ht⟩
  ·rw[hm1]at hm;cases hm;refine .inl ⟨rfl,λa=> ?_⟩
   have fin:DOk X.K C0 (a55 i D0) (aM1 i D):=⟨λρ' σ' H2 q I2=>k.nx _ _ _ q (I2.gone i),k.rt,λρ' σ' H2 q I2=>k.bk _ _ _ q (I2.gone i),λρ' σ' H2 q I2=>k.ct _ _ _ q (I2.gone i)⟩
   rcases hmk with⟨hk,rfl⟩| ⟨hk,rfl⟩
   ·exact⟨.adr a,.inl rfl,C0,_,a55 i D0,I'.store (.refl _) (show jW X.K (Av C0 ρ1 σ) H' H' (.pu (.adr a)) (.ref a)from by simp only[jW,Rep]) (hl pins σ H s J),ht a a,fin⟩
   ·cases o with
    | none=>exact absurd xr hk
    | some d=>
     refine⟨.xob a d (sN n) es,.inr ⟨d,_,_,rfl,rfl⟩,C0,_,a55 i D0,I'.store (.refl _) (show jW X.K (Av C0 ρ1 σ) H' H' (.pu (.xob a d (sN n) es)) (.ref a)from ?_) (hl pins σ H s J),ht a d,fin⟩
     obtain⟨vs,x1,x2,x3,x4⟩:=xr;simp only[jW,Rep];exact⟨vs,trivial,x1,x2,x3,x4⟩
  ·obtain⟨u1,u2⟩:=hn n hn' Cl hm;exact .inr ⟨u1,u2,C0,ρ1,D0,I',ht,k⟩
theorem aC3:bootBuiltins "ValueError"=some (.type "ValueError"):=by decide +kernel
def b07 (x:D)(i:Nat)(b:Bool):UE:=λρ Q=>ρ[i]? =some (some (.pu x))/\Q (.pu (.bl b)) ρ
theorem aM2 {r:Str}{R:Addr}{p:Pos}(hg:Gl X r)(hm:X.mg r=some (.ref R))(hd:(r==("__debug__":Str))=false:=by decide):PU X (.Name r p) (uC (.adr R)):=a13 (aI9 (v:= .ref R) hg hm rfl hd) λA H=>by simp only[Rep]
theorem a56 {x:Addr}{e0:D}{C:Addr}{oe:Obj}{d:D}{v:V}{w:Value}{o:Bool}{y r:Str}{p py pr:Pos}(i:Nat)(k:XKit X.K C)(hp:(x,oe)∈X.pn)(hc:oe.cls= .ref C)(h0:XD x oe e0)(hy:PE X (.Name y py) (sD i))(hr:PU X (.Name r pr) (uC d))(hv:clsV d=some (v,w))(hk:kitOne X.K (.ref C) w=some o)
  (hg:Gl X "isinstance") (hm:X.mg "isinstance"=none) (he:starEach [.Name y py,.Name r pr] X.env=(false,eval (.Name y py) X.env)::starEach [.Name r pr] X.env:=by rfl) (he2:starEach [.Name r pr] X.env=(false,eval (.Name r pr) X.env)::starEach [] X.env:=by rfl) (hpl:(backTo pos (starEach [.Name r pr] X.env)).any (·.1)=false:=by rfl) :
  PU X (.Call (.Name "isinstance" p) [.Name y py,.Name r pr] [] pos) (b07 e0 i o):=
 eO (dB (cu_is k hp hc h0 hv hk) hg hm boot_isinstance (aA (bX i hy) (aA hr a7 he2) he) (by decide) (by decide) he hpl) λσ H Q ⟨C0,ρ,Q0,I,⟨h1,h2⟩,kk⟩=>⟨C0,ρ,Q0,I,by
  simp only[aI,a6,a9,yZ,h1,uC,aE,B.d]
  first|exact⟨rfl,h2⟩|exact⟨trivial,h2⟩,kk⟩
def b42 (x:D)(i:Nat)(f:Str):UE:=λρ Q=>ρ[i]? =some (some (.pu x))/\match x with
 | .xob _ _ ks l=>(match(ks.zip l).lookup f with
  | some d=>Q (.pu d) ρ
  | none=>False)
 | _=>False
theorem b43 {x:Addr}{e0:D}{C:Addr}{oe:Obj}{ks:List Str}{y f:Str}{py:Pos}(i:Nat)(k:bJ9 X.K C ks)(hp:(x,oe)∈X.pn)(hc:oe.cls= .ref C)(h0:XD x oe e0)(hf:f∈ks)(hy:PE X (.Name y py) (sD i))(hb:attributeBase (.Name y py) f X.env (eval (.Name y py) X.env)=eval (.Name y py) X.env:=by rfl) :
  PU X (.Attribute (.Name y py) f pos) (b42 e0 i f):=by
 intro pins s σ H Q I ⟨C0,ρ,Q0,I0,⟨h1,h2⟩,kk⟩;rcases h0 with rfl| ⟨d,ks',l,rfl,hd,hno⟩
 ·exact h2.elim
 dsimp only at h2;cases el:(ks'.zip l).lookup f with
 | none=>rw[el]at h2;exact h2.elim
 | some dd=>
  rw[el]at h2;obtain⟨v,g1,g2⟩:=I0.pu i _ h1;simp only[Rep]at g2;obtain⟨vs,rfl,nA,hx,hl,rl⟩:=g2;obtain⟨w,w1,w2,_⟩:=rl.field el;refine bR4 hb (hy pins s σ H (λv H1=>v= .ref x/\H1=H) I ⟨_,g1,rfl,rfl⟩ |> λz=>thn z λu s1 ⟨v,H1,I1,rv,e1,e2⟩=> ?_)
  subst e1;subst e2;obtain rfl:u=Value.ref x:=rv;obtain⟨mA,nd,rel⟩:=(show jB X.prog X.w H1 s1.heap d (.xd (ks'.zip vs))from I1.hok d _ hx)
  obtain⟨u,hu,ru⟩:=aI7.some_of (v:=w) (o:=mA f) (by rw[<-w1];exact rel f)
  obtain⟨od,ho,hlk⟩:=aE8 nd;have pin:=I1.pin (x,oe) (List.mem_append.mpr (.inl hp));refine x_attr (ox:=oe) (od:=od) I1.kIn ⟨pin.1,hc,?_,by rw[hd];exact ho⟩ k.ga k.gh k.dd (k.nf f hf) (by rw[hlk,hu]) (b72 ru) k.hb ⟨w,H1,I1.tok _,ru,kk _ ρ w H1 h2 (.refl _) (.refl _) w2⟩
  unfold notCls;split<;>first|rfl| (rename_i c q;exact absurd q (hno c))
end
end M
end
section
open PySem L2 M
local macro_rules| `(tactic| walk_at "u")=> `(tactic| simp only[uRev,gRev,uSlT,gSlT,uChain,uPop,bI2,b37,gAny,aR9,D.isN,gMaxL,uLook,uLR,uRevL,uIsB,uCallY,b06,b07,a55,uLookE,uAppZ,aZ8,aL8,wQ,b42,aL7,aK,b9,bQ,uRetN,rK,eW,bY,uOp,uC,a9,yZ,aN,a34,uV,uIx,gIx,hV,iD,aI,a6,aE,iL,eC,aB7,kX,vE,hJ,M.gSub,fQ,aB8,n5,bS8,gI2,nW,iK,isB,B.d,aY2,uOr,aK1,uP,uOrV,aF6,cE,cN,uPar,aQ8,uSl,nF,nE,gSl,bG0,gMax,gMin,gToInt,cS,a14,b76,g1,g2,bS9,b32,uIf,bG3,gSum,sJ,bF3,rM,dP,rL,jY,a40,uRngD,bH4,uZip,bH3,fM,bT3,nI,xZ,bT4,bind_some,Option.bind_none,Option.map_some,Option.map_none,Option.join,
 getElem?_cons_zero,getElem?_cons_succ,set_cons_zero,set_cons_succ,length_cons,List.length_nil,decide_eq_true_eq,false_xor,true_xor,Bool.not_eq_true',decide_eq_false_iff_not,if_true,if_false,reduceCtorEq])
namespace M
def sQ:Φ:=λds Q=> ∃c k p:Int,ds=[.int c,.int k,.int p]/\0<=k/\k<4294967296/\0<p/\ ∀r:Int,0<=r->r<p->Q (.pu (.int r))
def a57:US:=(aK (b9 3 (uOp n5 (uOp fQ (uOp hJ (uOp hJ (uOp hJ (a9 0) (uOp fQ (uOp fQ (uC (.int 7)) (a9 1)) (a9 1))) (uOp fQ (uC (.int 13)) (a9 1))) (uC (.int 5))) (uC (.int 48271))) (uC (.int 2147483647)))) (aK (b9 3 (uOp n5 (uOp fQ (a9 3) (a9 3)) (uC (.int 2147483629)))) (bQ (uOp n5 (uOp fQ (a9 3) (uC (.int 39373))) (a9 2)))))
theorem cI (i:Int){j:Int}(h:0<j):i.fmod j=i%j:=Int.fmod_eq_emod_of_nonneg i (Int.le_of_lt h)
theorem pH (i:Int){j:Int}(h:0<j):i.fdiv j=i/j:=Int.fdiv_eq_ediv_of_nonneg i (Int.le_of_lt h)
theorem cmR {i j:Int}(h1: -18446744073709551616<j)(h2:j<18446744073709551616):aX1 i j\/(Sm i/\Sm j):= .inl (.inr ⟨h1,h2⟩)
theorem cmL {i j:Int}(h1: -18446744073709551616<i)(h2:i<18446744073709551616):aX1 i j\/(Sm i/\Sm j):= .inl (.inl ⟨h1,h2⟩)
theorem bK3: ∀ds Q,sQ ds Q->a57 {nx:=λ_=>Q (.pu .non),rt:=Q} (init ["c","k","p","f"] ds):=by
 rintro ds Q ⟨c,k,p,rfl,h0,h1,hp,h⟩;unfold a57;show(aK _ _:US) _ [some (.pu (.int c)),some (.pu (.int k)),some (.pu (.int p)),none];walk_at "u";rw[cI _ (by decide:(0:Int)<2147483647),cI _ (by decide:(0:Int)<2147483629),cI _ hp]
 refine⟨cmL (by decide) (by decide),cmR (by omega) (by omega),cmL (by decide) (by decide),cmR (by decide) (by decide),by decide,cmR (by omega) (by omega),by decide,cmR (by decide) (by decide),by omega,?_⟩
 exact h _ (emod_nonneg _ (by omega)) (emod_lt_of_pos _ hp)
theorem bG {ui:UI}{g:UG}{tb:US}{D:UD}{ρ:Ev}(n:Nat)(it:Nat->M.D)(ρ1:Ev)(hui: ∀Q:Nat->(Nat->M.D)->Ev->Prop,Q n it ρ1->ui ρ Q)(Pv:Nat->Ev->Prop)(h0:Pv 0 ρ1)
  (hs: ∀i ρ,i<n->Pv i ρ->g (.pu (it i)) ρ λρ2=>tb {D with nx:=Pv (i+1),ct:=Pv (i+1),bk:=D.nx} ρ2) (hd: ∀ρ,Pv n ρ->D.nx ρ):jX ui g tb D ρ:=hui _ ⟨Pv,h0,hs,hd⟩
theorem b44 {ws:List Int}{i:Nat}(h:i<ws.length):atI (ws.map D.int) (0+(i:Int))=some (.int ws[i]):=by
 rw[zero_add];exact b6 (by rw[getElem?_map,getElem?_eq_getElem h];rfl)
def Below (xs ws:List Int):Prop:=xs.length=ws.length/\ ∀(j:Nat) (x w:Int),xs[j]? =some x->ws[j]? =some w->0<=x/\x<w
theorem cpl {i j:Int}(h1:0<=j)(h2:j<=1000000)(h3:i.natAbs<2^64):bQ8 i j:=⟨h1,h2,h3⟩
def sR:Φ:=λds Q=> ∃(c:Int) (ws:List Int) (p:Int),ds=[.int c,.lst (ws.map .int),.int p]/\ws.length<=1000/\0<p/\(∀w∈ws,0<w/\w<18446744073709551616)/\ ∀xs:List Int,Below xs ws->Q (.ow (xs.map .int))
def a58:US:=(aK (b9 3 (uC (.int 0))) (aK (eW (bY (uOp (nW λi j=>decide (j<=i)) (a9 0) (uOp bS8 (uC (.int 10)) (uC (.int 18))))) (b9 3 (uOp M.gSub (a9 0) (uOp bS8 (uC (.int 10)) (uC (.int 18))))) cN) (aK (b9 4 (iL aE)) (aK (jX (jY (a6 (hV (aN 1)) aE)) (cE 5) (eW (bY (uOp (nW λi j=>decide (j<i)) (a9 3) (uC (.int 1)))) (aK (aB7 4 (uOp n5 (a9 3) (uIx (aN 1) (a9 5)))) (b9 3 (uOp aB8 (a9 3) (uIx (aN 1) (a9 5))))) (aB7 4 (uOp n5 (aI sQ (a6 (a9 0) (a6 (a9 5) (a6 (a9 2) aE)))) (uIx (aN 1) (a9 5)))))) (rK 4)))))
theorem aS5 {i:Int}(h1: -18446744073709551616<i)(h2:i<18446744073709551616):Sm i:=by
 unfold Sm;have h3:i.natAbs<18446744073709551616:=by omega
 exact lt_of_lt_of_le h3 (by decide +kernel)
theorem a59 {xs ws:List Int}{x:Int}(h: ∀(j:Nat) (x w:Int),xs[j]? =some x->ws[j]? =some w->0<=x/\x<w)(hl:xs.length<ws.length)(h0:0<=x)(h1:x<ws[xs.length]) :
  ∀(j:Nat) (y w:Int),(xs++[x])[j]? =some y->ws[j]? =some w->0<=y/\y<w:=by
 intro j y w e1 e2
 by_cases hj:j<xs.length
 ·rw[List.getElem?_append_left hj]at e1;exact h j y w e1 e2
 ·rw[getElem?_append_right (by lia)]at e1
  by_cases hj':j=xs.length
  ·subst hj';simp at e1;subst e1;rw[getElem?_eq_getElem hl]at e2;cases e2;exact⟨h0,h1⟩
  ·have:j-xs.length≠0:=by lia
   cases e:j-xs.length with
   | zero=>lia
   | succ n=>rw[e]at e1;simp at e1
theorem bK4: ∀ds Q,sR ds Q->a58 {nx:=λ_=>Q (.pu .non),rt:=Q} (init ["c","w","p","l","f","k"] ds):=by
 rintro ds Q ⟨c,ws,p,rfl,hlen,hp,hw,h⟩;unfold a58;have tail: ∀left:Int,(aK (b9 4 (iL aE)) (aK (jX (jY (a6 (hV (aN 1)) aE)) (cE 5) (eW (bY (uOp (nW λi j=>decide (j<i)) (a9 3) (uC (.int 1)))) (aK (aB7 4 (uOp n5 (a9 3) (uIx (aN 1) (a9 5)))) (b9 3 (uOp aB8 (a9 3) (uIx (aN 1) (a9 5))))) (aB7 4 (uOp n5 (aI sQ (a6 (a9 0) (a6 (a9 5) (a6 (a9 2) aE)))) (uIx (aN 1) (a9 5)))))) (rK 4)):US)
   {nx:=λ_=>Q (.pu .non),rt:=Q} [some (.pu (.int c)),some (.pu (.lst (ws.map .int))),some (.pu (.int p)),some (.pu (.int left)),none,none]:=by
  intro left;rw[aK];walk_at "u";refine⟨by decide,?_⟩
  refine bG ws.length (λi=> .int (0+i)) [some (.pu (.int c)),some (.pu (.lst (ws.map .int))),some (.pu (.int p)),some (.pu (.int left)),some (.ow []),none] ?_
   (λi ρ=> ∃(l:Int) (xs:List Int) (kk:Option B),ρ=[some (.pu (.int c)),some (.pu (.lst (ws.map .int))),some (.pu (.int p)),some (.pu (.int l)),some (.ow (xs.map .int)),kk]/\xs.length=i/\ ∀(j:Nat) (x w:Int),xs[j]? =some x->ws[j]? =some w->0<=x/\x<w)
   ⟨left,[],none,rfl,rfl,λj x w e=>by simp at e⟩ ?_ ?_
  ·intro Q q;simp only[jY];walk_at "u";rw[length_map];refine⟨⟨by lia,by lia⟩,?_⟩
   rw[toNat_natCast];exact q
  ·rintro i ρ hi ⟨l,xs,kk,rfl,hl,hb⟩;subst hl;obtain⟨w0,w1⟩:=hw _ (getElem_mem hi);walk_at "u";refine⟨by decide,?_⟩
   by_cases hc:1<l
   ·rw[if_pos hc];simp only[b44 hi];rw[cI _ w0,pH _ w0];refine⟨by lia,?_,⟨by lia,aS5 (by lia) w1⟩,_,xs++[l%ws[xs.length]],_,by rw[map_append];rfl,by simp,a59 hb hi (emod_nonneg _ (by lia)) (emod_lt_of_pos _ w0)⟩
    rw[length_map];exact lt_of_lt_of_le hi (le_trans hlen (by decide))
   ·rw[if_neg hc];refine⟨c,(0+(xs.length:Int)),p,rfl,by lia,by lia,hp,λr r0 r1=> ?_⟩
    simp only[b44 hi];rw[cI _ w0];refine⟨by lia,?_,l,xs++[r%ws[xs.length]],_,by rw[map_append];rfl,by simp,a59 hb hi (emod_nonneg _ (by lia)) (emod_lt_of_pos _ w0)⟩
    rw[length_map];exact lt_of_lt_of_le hi (le_trans hlen (by decide))
  ·rintro ρ ⟨l,xs,kk,rfl,hl,hb⟩;walk_at "u";exact h xs ⟨hl,hb⟩
 show(aK _ _:US) _ [some (.pu (.int c)),some (.pu (.lst (ws.map .int))),some (.pu (.int p)),none,none,none]
 refine(show bQ8 10 18/\(if decide ((10:Int)^(18:Int).toNat<=c)=true then _ else _)from⟨cpl (by decide) (by decide) (by decide),?_⟩)
 split
 ·exact⟨cpl (by decide) (by decide) (by decide),tail _⟩
 ·exact tail _
theorem bK5 {d:D}{l:List D}:atI (d::l) 0=some d:=b6 (j:=0) rfl
theorem bK6 {ys:List Int}{i:Nat}(h:i< (ys.map D.int).length): ∃z,(ys.map D.int).getD i .non= .int z:=by
 rw[length_map]at h;exact⟨ys[i],by rw[getD_eq_getElem?_getD,getElem?_map,getElem?_eq_getElem h];rfl⟩
theorem aS6 (k:Nat)(z:Int):(replicate k [D.int z]).flatten=(replicate k z).map .int:=by
 induction k with
 | zero=>rfl
 | succ k ih=>rw[replicate_succ,flatten_cons,ih,replicate_succ];rfl
def a19:Φ:=λds Q=> ∃(ns:List Int) (k:Int),ds=[.rol (ns.map .int),.int k]/\ns.length<=63/\0<=k/\k<4294967296/\ ∀r:Int,Q (.pu (.int r))
def aM3:US:=(aK (eW (bY (uOp (iK false) (hV (aN 0)) (uC (.int 0)))) (bQ (uOp fQ (uC (.int 7919)) (uOp hJ (a9 1) (uC (.int 1))))) cN) (aK (eW (bY (uOp (nW λi j=>decide (i<j)) (a9 1) (hV (aN 0)))) (bQ (uIx (aN 0) (a9 1))) cN) (bQ (uOp hJ (uIx (aN 0) (uOp n5 (a9 1) (hV (aN 0)))) (uOp fQ (uC (.int 104729)) (a9 1))))))
theorem bK7 {ns:List Int}{k:Int}(h0:0<=k)(h1:k<ns.length): ∃z,atI (ns.map D.int) k=some (.int z):=by
 obtain⟨i,rfl⟩: ∃i:Nat,k=(i:Int):=⟨k.toNat,by lia⟩
 have hi:i<ns.length:=by lia
 exact⟨ns[i],b6 (by rw[getElem?_map,getElem?_eq_getElem hi];rfl)⟩
theorem bW5: ∀ds Q,a19 ds Q->aM3 {nx:=λ_=>Q (.pu .non),rt:=Q} (init ["s","k"] ds):=by
 rintro ds Q ⟨ns,k,rfl,hl,k0,k1,h⟩;unfold aM3;show(aK _ _:US) _ [some (.pu (.rol (ns.map .int))),some (.pu (.int k))];walk_at "u";rw[length_map];split
 ·exact⟨cmL (by decide) (by decide),h _⟩
 ·split
  ·obtain⟨z,hz⟩:=bK7 (ns:=ns) k0 (by lia)
   rw[hz];exact h z
  ·refine⟨by lia,?_⟩
   rw[cI _ (by lia)]
   obtain⟨z,hz⟩:=bK7 (ns:=ns) (k:=k%ns.length) (emod_nonneg _ (by lia)) (emod_lt_of_pos _ (by lia))
   rw[hz];exact⟨cmL (by decide) (by decide),h _⟩
def sS:Φ:=λds Q=> ∃i:Int,ds=[.int i]/\Q (.pu (.bl true))
def a60:US:=(bQ (uP (aI b76 (a6 (a9 0) (a6 (uC (.ty "int")) aE))) (aF6 (aI b76 (a6 (a9 0) (a6 (uC (.ty "bool")) aE))))))
theorem bK8: ∀ds Q,sS ds Q->a60 {nx:=λ_=>Q (.pu .non),rt:=Q} (init ["f"] ds):=by
 rintro ds Q ⟨i,rfl,h⟩;unfold a60;show(bQ _:US) _ [some (.pu (.int i))];walk_at "u"
 simpa using h
theorem b08:bootBuiltins "abs"=some (.builtin "abs"):=by decide +kernel
theorem bt_max:bootBuiltins "max"=some (.builtin "max"):=by decide +kernel
theorem bt_min:bootBuiltins "min"=some (.builtin "min"):=by decide +kernel
theorem jO:bootBuiltins "isinstance"=some (.builtin "isinstance"):=by decide +kernel
theorem bt_int:bootBuiltins "int"=some (.type "int"):=by decide +kernel
theorem bW6:bootBuiltins "bool"=some (.type "bool"):=by decide +kernel
theorem eE:bootBuiltins "tuple"=some (.type "tuple"):=by decide +kernel
theorem b45:bootBuiltins "list"=some (.type "list"):=by decide +kernel
theorem b94: ∀ds Q,sQ ds Q->ds.length=3:=by rintro ds Q ⟨c,k,p,rfl,_⟩;rfl
theorem b95: ∀ds Q,sR ds Q->ds.length=3:=by rintro ds Q ⟨c,k,p,rfl,_⟩;rfl
theorem bK9: ∀ds Q,a19 ds Q->ds.length=2:=by rintro ds Q ⟨c,k,rfl,_⟩;rfl
theorem b96: ∀ds Q,sS ds Q->ds.length=1:=by rintro ds Q ⟨i,rfl,_⟩;rfl
theorem bW7: ∀ds Q,aF9 ds Q->ds.length=1:=by rintro ds Q ⟨i,rfl,_⟩;rfl
theorem iO (t:UE)(D:UD)(ρ:Ev):bQ t D ρ=t ρ (λb _=>D.rt b):=rfl
theorem eZ (φ:Φ)(t:UA)(ρ:Ev)(Q:B->Ev->Prop):aI φ t ρ Q=t ρ λds ρ1=>φ ds λb=>Q b ρ1:=rfl
theorem fU (t:UE)(u:UA)(ρ:Ev)(Q:List D->Ev->Prop):a6 t u ρ Q=t ρ λx ρ1=>u ρ1 λxs ρ2=>Q (x.d::xs) ρ2:=rfl
theorem aO (t u:US)(D:UD)(ρ:Ev):aK t u D ρ=t {D with nx:=u D} ρ:=rfl
theorem qG (i:Nat)(t:UE)(D:UD)(ρ:Ev):b9 i t D ρ=t ρ λb ρ1=>D.nx (ρ1.set i (some b)):=rfl
theorem eF {js:List Nat}{cap:List (Option Nat)}{last t0:Nat}{ui:UI}{te:UE}{ρ:Ev}{Q:B->Ev->Prop}(n:Nat)(it:Nat->D)(ρ1:Ev)(hui: ∀Q:Nat->(Nat->D)->Ev->Prop,Q n it ρ1->ui ρ Q)(hn:n<=1000000)
  (G:Option B->List D->Ev) (x0:Option B) (h0:nI (xZ ρ1 js) cap last=G x0 []) (h1: ∀x l b,(G x l).set t0 (some b)=G (some b) l) (h1': ∀x l,t0< (G x l).length) (h2: ∀x l (Q:List D->Prop),Q l->kX (G x l) last Q) (h3: ∀x l l',(G x l).set last (some (.ow l'))=G x l')
  (f:Nat->D) (hte: ∀i l (Q':B->Ev->Prop),i<n->Q' (.pu (f i)) (G (some (.pu (it i))) l)->te (G (some (.pu (it i))) l) Q') (hq:Q (.ow ((List.range n).map f)) (xZ ρ1 js)) :
  eX js cap last ui (cE t0) (λρ Q=>Q true ρ) te ρ Q:=by
 refine hui _ ⟨λi ρ'=> ∃x,ρ'=G x ((List.range i).map f),⟨x0,h0⟩,?_,?_⟩
 ·rintro i ρ' hi ⟨x,rfl⟩;refine⟨h1' _ _,?_⟩;rw[h1];dsimp only;rw[if_pos rfl];refine hte i _ _ hi (h2 _ _ _ ⟨?_,some (.pu (it i)),?_⟩)
  ·rw[length_map,length_range];exact lt_of_lt_of_le hi (le_trans hn (by decide))
  ·rw[h3,range_succ,map_append];rfl
 ·rintro ρ' ⟨x,rfl⟩;exact h2 _ _ _ hq
def aH (r:List Int):D:= .tup (r.map .int)
def b09 (t:List (List Int)):D:= .tup (t.map aH)
theorem bL0 (l:List D)(i:Nat)(h:i<=l.length):cutD l none (some (i:Int))=l.take i:=by
 unfold cutD;rw[HT.sIx_none,HT.sIx_nat,min_eq_left h];simp
theorem aS7 (l:List D)(i:Nat)(h:i<=l.length):cutD l (some (i:Int)) none=l.drop i:=by
 unfold cutD;rw[HT.sIx_none,HT.sIx_nat,min_eq_left h];rw[List.take_of_length_le (by rw[length_drop];exact le_refl _)]
def l8:Φ:=λds Q=> ∃(t:List (List Int)) (i:Nat),ds=[b09 t,.int (i:Int)]/\i<t.length/\2<=t.length/\t.length<=1000/\(∀r∈t,1<=r.length)/\Q (.pu (b09 ((t.eraseIdx i).map List.tail)))
def qH:US:=(bQ (aI cS (a6 (eX [] [none,none] 1 (fM (uOp hJ (uSl (aN 0) nE (nF (a9 1))) (uSl (aN 0) (nF (uOp hJ (a9 1) (uC (.int 1)))) nE))) (cE 0) (λρ Q=>Q true ρ) (uSl (aN 0) (nF (uC (.int 1))) nE)) aE)))
theorem aC4: ∀ds Q,l8 ds Q->ds.length=2:=by rintro ds Q ⟨a,b,rfl,_⟩;rfl
theorem aM4: ∀ds Q,l8 ds Q->qH {nx:=λ_=>Q (.pu .non),rt:=Q} (init ["t","i"] ds):=by
 rintro ds Q ⟨t,i,rfl,hi,h2,h1000,hr,h⟩;unfold qH;show(bQ _:US) _ [some (.pu (b09 t)),some (.pu (.int (i:Int)))];have hl:(t.map aH).length=t.length:=length_map _;have e1:cutD (t.map aH) none (some (i:Int))=(t.take i).map aH:=by rw[bL0 _ _ (by lia),map_take]
 have e2:cutD (t.map aH) (some ((i:Int)+1)) none=(t.drop (i+1)).map aH:=by
  have:=aS7 (t.map aH) (i+1) (by lia)
  rw[map_drop]
  exact_mod_cast this
 have e3:(t.take i).map aH++(t.drop (i+1)).map aH=(t.eraseIdx i).map aH:=by rw[<-map_append,<-List.eraseIdx_eq_take_drop_succ]
 have le:(t.eraseIdx i).length=t.length-1:=List.length_eraseIdx_of_lt hi;rw[iO,eZ,fU];refine eF (t0:=0) ((t.eraseIdx i).map aH).length (λk=>((t.eraseIdx i).map aH).getD k .non) [some (.pu (b09 t)),some (.pu (.int (i:Int)))] ?_ (by rw[length_map];lia)
  (λx l=>[x,some (.ow l)]) none rfl (λ_ _ _=>rfl) (λ_ _=>zero_lt_succ _) (λ_ _ _ q=>q) (λ_ _ _=>rfl) (λk=>aH (((t.eraseIdx i).getD k []).tail)) ?_ ?_
 ·intro Q' q;simp only[fM,b09];walk_at "u";refine⟨?_,?_,?_,?_⟩
  ·rw[hl,HT.sIx_none,HT.sIx_nat];lia
  ·rw[hl,HT.sIx_none];have:HT.sIx t.length 0 (some ((i:Int)+1))=min (i+1) t.length:=by exact_mod_cast HT.sIx_nat t.length 0 (i+1)
   rw[this];lia
  ·rw[e1,e2,length_map,length_map,length_take,length_drop];exact le_trans (show _<=2000 by lia) (by decide)
  ·rw[e1,e2,e3];exact q
 ·intro k l Q' hk q;rw[length_map]at hk;have ek:((t.eraseIdx i).map aH).getD k .non=aH ((t.eraseIdx i).getD k []):=by
   rw[getD_eq_getElem?_getD,getD_eq_getElem?_getD,getElem?_map,getElem?_eq_getElem hk];rfl
  have hm:1<=((t.eraseIdx i).getD k []).length:=by
   rw[getD_eq_getElem?_getD,getElem?_eq_getElem hk];exact hr _ (List.mem_of_mem_eraseIdx (getElem_mem hk))
  rw[ek]at q⊢;generalize (t.eraseIdx i).getD k []=r at hm q;simp only[aH]at q⊢;walk_at "u";have lr:(r.map D.int).length=r.length:=length_map _;have ec:cutD (r.map D.int) (some 1) none=r.tail.map D.int:=by
   have:=aS7 (r.map D.int) 1 (by lia)
   rw[show((1:Nat):Int)=1 from rfl]at this
   rw[this,<-map_drop,List.drop_one]
  refine⟨?_,by rw[ec];exact q⟩
  rw[lr];have:HT.sIx r.length 0 (some 1)=min 1 r.length:=HT.sIx_nat r.length 0 1;rw[this];lia
 ·have em:(List.range ((t.eraseIdx i).map aH).length).map (λk=>aH (((t.eraseIdx i).getD k []).tail))=((t.eraseIdx i).map List.tail).map aH:=by
   rw[length_map];apply ext_getElem
   ·simp
   ·intro k h1 h2;simp at h1;simp[h1,getD_eq_getElem?_getD]
  rw[em];exact h
def sA:Nat->List (List Int)->Int
 | 0,_=>0
 | n+1,t=>if t.length=1 then(t.getD 0 []).getD 0 0 else((List.range t.length).map λi=>(if i%2=0 then 1 else -1)*(t.getD i []).getD 0 0*sA n ((t.eraseIdx i).map List.tail)).sum
structure Sq (n:Nat)(t:List (List Int)):Prop where
 pos:1<=t.length
 le:t.length<=n
 row: ∀r∈t,r.length=t.length
 small: ∀r∈t,∀x∈r,x.natAbs<2^2000
def cJ (n:Nat):Φ:=λds Q=> ∃t:List (List Int),ds=[b09 t]/\Sq n t/\Q (.pu (.int (sA n t)))
def a61 (cJ:Φ):US:=(aK (eW (bY (uOp (iK false) (hV (aN 0)) (uC (.int 1)))) (bQ (uIx (uV (uIx (aN 0) (uC (.int 0)))) (uC (.int 0)))) cN) (aK (b9 1 (uC (.int 0))) (aK (b9 2 (uC (.int 1))) (aK (jX (jY (a6 (hV (aN 0)) aE)) (cE 3) (aK (aQ8 1 (gI2 λi j Q=>Q (.pu (.int (i+j)))) (uOp fQ (uOp fQ (a9 2) (uIx (uV (uIx (aN 0) (a9 3))) (uC (.int 0)))) (aI cJ (a6 (aI l8 (a6 (a9 0) (a6 (a9 3) aE))) aE)))) (b9 2 (vE (a9 2))))) (rK 1)))))
theorem uE (n:Nat): ∀ds Q,cJ n ds Q->ds.length=1:=by rintro ds Q ⟨a,rfl,_⟩;rfl
theorem Sq.less {n:Nat}{t:List (List Int)}{i:Nat}(h:Sq (n+1) t)(h2:t.length≠1)(hi:i<t.length):Sq n ((t.eraseIdx i).map List.tail):=by
 have le:(t.eraseIdx i).length=t.length-1:=List.length_eraseIdx_of_lt hi;have hp:=h.pos;have hl:=h.le;refine⟨by rw[length_map];lia,by rw[length_map];lia,λr hr=> ?_,λr hr x hx=> ?_⟩
 ·obtain⟨r',hr',rfl⟩:=List.mem_map.mp hr;rw[length_map,List.length_tail,h.row r' (List.mem_of_mem_eraseIdx hr'),le]
 ·obtain⟨r',hr',rfl⟩:=List.mem_map.mp hr;exact h.small r' (List.mem_of_mem_eraseIdx hr') x (List.mem_of_mem_tail hx)
theorem yA (f:Nat->Int)(b:Nat): ∀n:Nat,(∀i,i<n->(f i).natAbs<=b)->(((List.range n).map f).sum).natAbs<=n*b
 | 0,_=>by simp
 | n+1,h=>by
  rw[range_succ,map_append,List.sum_append];have h1:=yA f b n λi hi=>h i (lt_succ_of_lt hi)
  have h2:=h n (lt_succ_self n);have h3:((List.map f [n]).sum)=f n:=by simp
  rw[h3,Nat.succ_mul];omega
theorem aH1: ∀(n:Nat) (t:List (List Int)),n<=4->Sq n t->(sA n t).natAbs<=2^(2010*n)
 | 0,t,_,h=>by have:=h.pos;have:=h.le;lia
 | n+1,t,hn,h=>by
  have entry: ∀i,i<t.length->((t.getD i []).getD 0 0).natAbs<=2^2000:=λi hi=>by
   have eg:t.getD i []=t[i]:=by rw[getD_eq_getElem?_getD,getElem?_eq_getElem hi];rfl
   rw[eg];have hr:=h.row _ (getElem_mem hi);have hp:=h.pos;have h0:0< (t[i]).length:=by lia
   rw[getD_eq_getElem?_getD,getElem?_eq_getElem h0];exact le_of_lt (h.small _ (getElem_mem hi) _ (getElem_mem h0))
  unfold sA;split
  ·have:=entry 0 (by have:=h.pos;lia)
   exact le_trans this (Nat.pow_le_pow_right (by decide) (by lia))
  ·rename_i h1
   refine le_trans (yA _ (2^2000*2^(2010*n)) _ λi hi=> ?_) ?_
   ·rw[natAbs_mul,natAbs_mul];have e1:(if i%2=0 then(1:Int)else -1).natAbs=1:=by split<;>rfl
    rw[e1,Nat.one_mul];exact mul_le_mul (entry i hi) (aH1 n _ (by lia) (h.less h1 hi))
   ·have hl:=h.le;have e:2^(2010*(n+1))=2^10*(2^2000*2^(2010*n)):=by
     rw[<-pow_add,<-pow_add];congr 1;lia
    rw[e];exact Nat.mul_le_mul_right _ (by lia)
theorem Sm.pow {i:Int}{k:Nat}(h:i.natAbs<=2^k)(hk:k<9000):Sm i:=lt_of_le_of_lt h (Nat.pow_lt_pow_right (by decide) hk)
theorem b46 {t:List (List Int)}{i:Nat}(h:i<t.length):atI (t.map aH) (0+(i:Int))=some (aH (t.getD i [])):=by
 rw[zero_add];refine b6 ?_;rw[getElem?_map,getElem?_eq_getElem h,getD_eq_getElem?_getD,getElem?_eq_getElem h];rfl
theorem a62 {r:List Int}(h:0<r.length):atI (r.map D.int) 0=some (.int (r.getD 0 0)):=by
 refine b6 (j:=0) ?_
 rw[getElem?_map,getElem?_eq_getElem h,getD_eq_getElem?_getD,getElem?_eq_getElem h];rfl
theorem wR (n:Nat)(hn:n<4): ∀ds Q,cJ (n+1) ds Q->a61 (cJ n) {nx:=λ_=>Q (.pu .non),rt:=Q} (init ["t","o","s","i"] ds):=by
 rintro ds Q ⟨t,rfl,sq,h⟩;have hp:=sq.pos;have hle:=sq.le;have lt:(t.map aH).length=t.length:=length_map _;have lrow: ∀i,i<t.length->0< (t.getD i []).length:=λi hi=>by
  rw[getD_eq_getElem?_getD,getElem?_eq_getElem hi];have:=sq.row _ (getElem_mem hi);show 0< (t[i]).length
  lia
 unfold a61;show(aK _ _:US) _ [some (.pu (.tup (t.map aH))),none,none,none];walk_at "u";rw[lt];split
 ·rename_i h1
  have h1':t.length=1:=by lia
  have:=b46 (t:=t) (i:=0) (by lia)
  rw[show(0:Int)+((0:Nat):Int)=0 from rfl]at this
  rw[this];simp only[aH];rw[a62 (lrow 0 (by lia))]
  unfold sA at h;rw[if_pos h1']at h;exact h
 ·rename_i h1
  have h1':t.length≠1:=by lia
  unfold sA at h;rw[if_neg h1']at h;refine bG t.length (λi=> .int (0+i)) [some (.pu (.tup (t.map aH))),some (.pu (.int 0)),some (.pu (.int 1)),none] ?_ (λi ρ=> ∃x,ρ=[some (.pu (.tup (t.map aH))),some (.pu (.int ((List.range i).map λi=>(if i%2=0 then 1 else -1)*(t.getD i []).getD 0 0*sA n ((t.eraseIdx i).map List.tail)).sum)),some (.pu (.int (if i%2=0 then 1 else -1))),x]) ?_ ?_ ?_
  ·intro Q' q;simp only[jY];walk_at "u";rw[lt];refine⟨⟨by lia,by lia⟩,?_⟩
   rw[toNat_natCast];exact q
  ·exact⟨none,rfl⟩
  ·rintro i ρ hi ⟨x,rfl⟩;walk_at "u";refine⟨by decide,?_⟩
   rw[b46 hi];simp only[aH];rw[a62 (lrow i hi)];have sg:Sm (if i%2=0 then(1:Int)else -1):=by split<;>exact aS5 (by decide) (by decide)
   have eg:t.getD i []=t[i]:=by rw[getD_eq_getElem?_getD,getElem?_eq_getElem hi];rfl
   have en:((t.getD i []).getD 0 0).natAbs<=2^2000:=by
    have h0:=lrow i hi;rw[eg]at h0⊢;rw[getD_eq_getElem?_getD,getElem?_eq_getElem h0];exact le_of_lt (sq.small _ (getElem_mem hi) _ (getElem_mem h0))
   have se:Sm ((t.getD i []).getD 0 0):=Sm.pow en (by decide)
   refine⟨.inr ⟨sg,se⟩,t,i,by rw[zero_add];rfl,hi,by lia,by lia,λr hr=>by rw[sq.row r hr];exact hp,?_⟩
   refine⟨_,rfl,sq.less h1' hi,?_⟩
   have sd:Sm (sA n ((t.eraseIdx i).map List.tail)):=Sm.pow (aH1 n _ (by lia) (sq.less h1' hi)) (by lia)
   have sp:Sm ((if i%2=0 then(1:Int)else -1)*(t.getD i []).getD 0 0):=by
    refine Sm.pow (k:=2000) ?_ (by decide)
    rw[natAbs_mul];have e1:(if i%2=0 then(1:Int)else -1).natAbs=1:=by split<;>rfl
    rw[e1,Nat.one_mul];exact en
   walk_at "u"
   refine⟨.inr ⟨sp,sd⟩,some (.pu (.int (0+(i:Int)))),?_⟩
   have e2: -(if i%2=0 then(1:Int)else -1)=(if(i+1)%2=0 then 1 else -1):=by
    by_cases q:i%2=0
    ·rw[if_pos q,if_neg (by lia)]
    ·rw[if_neg q,if_pos (by lia)];rfl
   rw[e2,range_succ,map_append,List.sum_append];simp
  ·rintro ρ ⟨x,rfl⟩;walk_at "u";exact h
def fV (p:List Int)(k:Nat)(sums:List Int):Int:=
 -(((List.range (min (k-1) (p.length-1))).map λi=>p.getD (p.length-1-(i+1)) 0*sums.getD (k-(i+1)) 0).sum+(if k<=p.length-1 then(k:Int)*p.getD (p.length-1-k) 0 else 0))
def bH (p:List Int):Nat->List Int
 | 0=>[((p.length-1:Nat):Int)]
 | k+1=>bH p k++[fV p (k+1) (bH p k)]
theorem mB (p:List Int): ∀k,(bH p k).length=k+1
 | 0=>rfl
 | k+1=>by unfold bH;rw[length_append,mB p k];rfl
structure a20 (p:List Int):Prop where
 lo:3<=p.length
 hi:p.length<=5
 small: ∀x∈p,x.natAbs<=499
theorem cC {l:List Int}{b:Nat}(h: ∀x∈l,x.natAbs<=b)(i:Nat):(l.getD i 0).natAbs<=b:=by
 rw[getD_eq_getElem?_getD];cases e:l[i]? with
 | none=>exact zero_le _
 | some x=>exact h x (mem_of_getElem? e)
theorem qI {p:List Int}(hp:a20 p): ∀k,k<=6-> ∀x∈bH p k,x.natAbs<=2^(15*k+3)
 | 0,_,x,hx=>by
  have:=hp.hi;have e:x=((p.length-1:Nat):Int):=by simpa[bH]using hx
  rw[e,Int.natAbs_natCast];have:(2:Nat)^(15*0+3)=8:=rfl;omega
 | k+1,hk,x,hx=>by
  have ih:=qI hp k (by omega)
  have ep:(2:Nat)^(15*(k+1)+3)=32768*2^(15*k+3):=by
   rw[show 15*(k+1)+3=15+(15*k+3)by omega,pow_add]
  have hb:8<=2^(15*k+3):=by
   rw[pow_add];have:1<=2^(15*k):=Nat.one_le_two_pow;omega
  unfold bH at hx;rcases List.mem_append.mp hx with hx|hx
  ·have:=ih x hx;omega
  ·have e:x=fV p (k+1) (bH p k):=by simpa using hx
   rw[e];unfold fV;rw[natAbs_neg];have hl:=hp.hi;have s1:=yA (λi=>p.getD (p.length-1-(i+1)) 0*(bH p k).getD (k+1-(i+1)) 0) (499*2^(15*k+3)) (min (k+1-1) (p.length-1)) λi _=>by
    rw[natAbs_mul];exact mul_le_mul (cC hp.small _) (cC ih _)
   have s2:(if k+1<=p.length-1 then((k+1:Nat):Int)*p.getD (p.length-1-(k+1)) 0 else 0).natAbs<=4*499:=by
    split
    ·rw[natAbs_mul,Int.natAbs_natCast];exact mul_le_mul (by omega) (cC hp.small _)
    ·exact zero_le _
   have s3:min (k+1-1) (p.length-1)*(499*2^(15*k+3))<=4*(499*2^(15*k+3)):=Nat.mul_le_mul_right _ (by omega)
   have s4:=Int.natAbs_add_le (((List.range (min (k+1-1) (p.length-1))).map λi=>p.getD (p.length-1-(i+1)) 0*(bH p k).getD (k+1-(i+1)) 0).sum) (if k+1<=p.length-1 then((k+1:Nat):Int)*p.getD (p.length-1-(k+1)) 0 else 0)
   omega
def iP:Φ:=λds Q=> ∃(p:List Int) (m:Nat),ds=[aH p,.int (m:Int)]/\a20 p/\1<=m/\m<=7/\Q (.ow ((bH p (m-1)).map .int))
def mC:US:=(aK (b9 2 (uOp M.gSub (hV (aN 0)) (uC (.int 1)))) (aK (b9 3 (iL (a6 (a9 2) aE))) (aK (jX (a40 (a6 (uC (.int 1)) (a6 (a9 1) aE))) (cE 4) (aK (b9 5 (aI gSum (a6 (eX [2,4] [none,some 0,some 2,some 3,some 4,none] 5 (a40 (a6 (uC (.int 1)) (a6 (uOp hJ (aI gMin (a6 (uOp M.gSub (a9 4) (uC (.int 1))) (a6 (a9 2) aE))) (uC (.int 1))) aE))) (cE 0) (λρ Q=>Q true ρ) (uOp fQ (uIx (aN 1) (uOp M.gSub (a9 2) (a9 0))) (uIx (aN 3) (uOp M.gSub (a9 4) (a9 0))))) aE))) (aK (eW (bY (uOp (nW λi j=>decide (i<=j)) (a9 4) (a9 2))) (aQ8 5 (gI2 λi j Q=>Q (.pu (.int (i+j)))) (uOp fQ (a9 4) (uIx (aN 0) (uOp M.gSub (a9 2) (a9 4))))) cN) (aB7 3 (vE (a9 5)))))) (rK 3))))
theorem zX: ∀ds Q,iP ds Q->ds.length=2:=by rintro ds Q ⟨a,b,rfl,_⟩;rfl
theorem a63 {ns:List Int}{k:Nat}(h:k<ns.length):atI (ns.map D.int) (k:Int)=some (.int (ns.getD k 0)):=by
 refine b6 ?_
 rw[getElem?_map,getElem?_eq_getElem h,getD_eq_getElem?_getD,getElem?_eq_getElem h];rfl
theorem a64: ∀ds Q,iP ds Q->mC {nx:=λ_=>Q (.pu .non),rt:=Q} (init ["p","m","n","s","k","t"] ds):=by
 rintro ds Q ⟨p,m,rfl,hp,m1,m7,h⟩;have hlo:=hp.lo;have hhi:=hp.hi;have lp:(p.map D.int).length=p.length:=length_map _;unfold mC;show(aK _ _:US) _ [some (.pu (.tup (p.map .int))),some (.pu (.int (m:Int))),none,none,none,none];rw[aO,qG];walk_at "u";rw[lp];refine⟨by decide,?_⟩
 have en:(p.length:Int)-1=((p.length-1:Nat):Int):=by lia
 rw[en];refine bG (m-1) (λi=> .int (1+i)) [some (.pu (.tup (p.map .int))),some (.pu (.int (m:Int))),some (.pu (.int ((p.length-1:Nat):Int))),some (.ow ((bH p 0).map .int)),none,none] ?_
  (λi ρ=> ∃x4 x5,ρ=[some (.pu (.tup (p.map .int))),some (.pu (.int (m:Int))),some (.pu (.int ((p.length-1:Nat):Int))),some (.ow ((bH p i).map .int)),x4,x5]) ⟨none,none,rfl⟩ ?_ ?_
 ·intro Q' q;simp only[a40];walk_at "u";refine⟨by lia,?_⟩
  rw[show((m:Int)-1).toNat=m-1 by lia]
  exact q
 ·rintro i ρ hi ⟨x4,x5,rfl⟩;have bn:=qI hp i (by lia)
  refine⟨by show 4<6;decide,?_⟩
  dsimp only[set_cons_succ,set_cons_zero];rw[aO,qG,eZ,fU];refine eF (t0:=0) (min i (p.length-1)) (λj=> .int (1+j)) [some (.pu (.tup (p.map .int))),some (.pu (.int (m:Int))),some (.pu (.int ((p.length-1:Nat):Int))),some (.ow ((bH p i).map .int)),some (.pu (.int (1+(i:Int)))),x5] ?_ (by lia)
   (λx l=>[x,some (.pu (.tup (p.map .int))),some (.pu (.int ((p.length-1:Nat):Int))),some (.bo ((bH p i).map .int)),some (.pu (.int (1+(i:Int)))),some (.ow l)]) none rfl (λ_ _ _=>rfl) (λ_ _=>zero_lt_succ _) (λ_ _ _ q=>q) (λ_ _ _=>rfl)
   (λj=> .int (p.getD (p.length-1-(j+1)) 0*(bH p i).getD (i+1-(j+1)) 0)) ?_ ?_
  ·intro Q' q;simp only[a40];walk_at "u";have e:(if((p.length-1:Nat):Int)<1+(i:Int)-1 then((p.length-1:Nat):Int)else 1+(i:Int)-1)=((min i (p.length-1):Nat):Int):=by split<;>lia
   rw[e];refine⟨by lia,?_⟩
   rw[show(((min i (p.length-1):Nat):Int)+1-1).toNat=min i (p.length-1)by lia]
   exact q
  ·intro j l Q' hj q;have hj1:j<i:=by lia
   have hj2:j<p.length-1:=by lia
   walk_at "u"
   rw[show((p.length-1:Nat):Int)-(1+(j:Int))=((p.length-1-(j+1):Nat):Int)by lia,show 1+(i:Int)-(1+(j:Int))=((i+1-(j+1):Nat):Int)by lia]
   rw[a63 (by lia),a63 (by rw[mB];lia)]
   exact⟨.inr ⟨Sm.pow (k:=9) (le_trans (cC hp.small _) (by decide)) (by decide),Sm.pow (cC bn _) (by lia)⟩,q⟩
  ·have es:((List.range (min i (p.length-1))).map λj=>D.int (p.getD (p.length-1-(j+1)) 0*(bH p i).getD (i+1-(j+1)) 0))=((List.range (min i (p.length-1))).map λj=>p.getD (p.length-1-(j+1)) 0*(bH p i).getD (i+1-(j+1)) 0).map D.int:=by
    rw[map_map];rfl
   rw[es];generalize hT:((List.range (min i (p.length-1))).map λj=>p.getD (p.length-1-(j+1)) 0*(bH p i).getD (i+1-(j+1)) 0)=T
   walk_at "u"
   rw[b77];dsimp only;have last: ∀z:Int,z= -(fV p (i+1) (bH p i))->(bH p i).map D.int++[D.int (-z)]=(bH p (i+1)).map D.int:=λz hz=>by
    rw[hz]
    conv=>rhs;unfold bH
    rw[map_append];simp
   have lz:((bH p i).map D.int).length<sizeLine:=by
    rw[length_map,mB];exact lt_of_lt_of_le (show _<100 by lia) (by decide)
   by_cases hk:i+1<=p.length-1
   ·rw[if_pos (by lia)]
    rw[show((p.length-1:Nat):Int)-(1+(i:Int))=((p.length-1-(i+1):Nat):Int)by lia,a63 (by lia)]
    have hz1:T.sum+(1+(i:Int))*p.getD (p.length-1-(i+1)) 0= -(fV p (i+1) (bH p i)):=by
     unfold fV;rw[Int.neg_neg,if_pos hk,<-hT];rw[show i+1-1=i from rfl,show((i+1:Nat):Int)=1+(i:Int)by lia]
    dsimp only;rw[last _ hz1];exact⟨.inr ⟨aS5 (by lia) (by lia),Sm.pow (k:=9) (le_trans (cC hp.small _) (by decide)) (by decide)⟩,lz,_,_,rfl⟩
   ·rw[if_neg (by lia)]
    have hz1:T.sum= -(fV p (i+1) (bH p i)):=by
     unfold fV;rw[Int.neg_neg,if_neg hk,<-hT,add_zero];rfl
    rw[last _ hz1];exact⟨lz,_,_,rfl⟩
 ·rintro ρ ⟨x4,x5,rfl⟩;walk_at "u";exact h
theorem b10: ∀ds Q,¬cJ 0 ds Q:=by
 rintro ds Q ⟨t,rfl,sq,_⟩;have:=sq.pos;have:=sq.le;omega
theorem bL1 (t:UE)(D:UD)(ρ:Ev):sJ t D ρ=t ρ (λ_ ρ1=>D.nx ρ1):=rfl
structure fN (p:List Int):Prop where
 ok:a20 p
 one: ∃q,p=q++[1]
def aS8 (c:Int):Bool:=decide ((if c<0 then -c else c)<=499)
def bW8 (p:List Int):Bool:=decide (3<=p.length)&&(decide (p.length<=5)&&(decide (p.getD (p.length-1) 0=1)&&p.all aS8))
theorem yB: ∀(q:List Int) (x:Int),(q++[x]).getD ((q++[x]).length-1) 0=x:=λq x=>by
 rw[length_append,getD_eq_getElem?_getD,getElem?_append_right (by simp)]
 simp
theorem bL2 (p:List Int):bW8 p=true↔fN p:=by
 unfold bW8;simp only[and_eq_true,decide_eq_true_eq,all_eq_true];constructor
 ·rintro⟨h1,h2,h3,h4⟩;refine⟨⟨h1,h2,λx hx=> ?_⟩,?_⟩
  ·have:=of_decide_eq_true (h4 x hx);split at this<;>lia
  ·rcases List.eq_nil_or_concat p with rfl| ⟨q,x,rfl⟩
   ·simp at h1
   ·rw[List.concat_eq_append]at h3⊢;rw[yB]at h3;exact⟨q,by rw[h3]⟩
 ·intro h;refine⟨h.ok.lo,h.ok.hi,?_,λx hx=>decide_eq_true ?_⟩
  ·obtain⟨q,rfl⟩:=h.one;exact yB q 1
  ·have:=h.ok.small x hx;split<;>lia
theorem b97 {p:List Int}(h:0<p.length):atI (p.map D.int) (-1)=some (.int (p.getD (p.length-1) 0)):=by
 rcases List.eq_nil_or_concat p with rfl| ⟨q,x,rfl⟩
 ·simp at h
 ·rw[List.concat_eq_append,yB,map_append];exact bE5 _ _
def fO:Φ:=λds Q=> ∃p:List Int,ds=[aH p]/\p.length<=1000/\Q (.pu (.bl (bW8 p)))
def mD:US:=(bQ (aI bG3 (a6 (eX [] [none,none] 1 (fM (a9 0)) (cE 0) (λρ Q=>Q true ρ) (uOp (nW λi j=>decide (i<=j)) (aI bG0 (a6 (a9 0) aE)) (uC (.int 499)))) aE)))
def iQ:US:=(aK (eW (uOr (bY (uOp (nW λi j=>decide (i<j)) (hV (aN 0)) (uC (.int 3)))) (uOr (bY (uOp (nW λi j=>decide (j<i)) (hV (aN 0)) (uC (.int 5)))) (bY (uOp (iK true) (uIx (aN 0) (vE (uC (.int 1)))) (uC (.int 1)))))) (bQ (uC (.bl false))) cN) mD)
theorem vI: ∀ds Q,fO ds Q->ds.length=1:=by rintro ds Q ⟨a,rfl,_⟩;rfl
theorem wS: ∀ds Q,fO ds Q->iQ {nx:=λ_=>Q (.pu .non),rt:=Q} (init ["r"] ds):=by
 rintro ds Q ⟨p,rfl,hn,h⟩;have lp:(p.map D.int).length=p.length:=length_map _;unfold iQ;simp only[aH];show(aK _ _:US) _ [some (.pu (.tup (p.map .int)))];rw[aO];walk_at "u";rw[lp];unfold bW8 at h
 by_cases h3:(p.length:Int)<3
 ·rw[if_pos h3];rw[decide_eq_false (by lia)]at h
  exact h
 rw[if_neg h3];rw[decide_eq_true (show 3<=p.length by lia),Bool.true_and]at h
 by_cases h5:(5:Int)< (p.length:Int)
 ·rw[if_pos h5];rw[decide_eq_false (show ¬p.length<=5 by lia)]at h
  exact h
 rw[if_neg h5];rw[decide_eq_true (show p.length<=5 by lia),Bool.true_and]at h
 rw[b97 (by lia)]
 dsimp only
 by_cases h1:p.getD (p.length-1) 0=1
 ·rw[decide_eq_true h1,Bool.true_and]at h;rw[if_neg (λz=>z h1)]
  unfold mD;rw[iO,eZ,fU];refine eF (t0:=0) p.length (λk=>(p.map D.int).getD k .non) [some (.pu (.tup (p.map .int)))] ?_ (by lia) (λx l=>[x,some (.ow l)]) none rfl (λ_ _ _=>rfl) (λ_ _=>zero_lt_succ _) (λ_ _ _ q=>q) (λ_ _ _=>rfl) (λk=> .bl (aS8 (p.getD k 0))) ?_ ?_
  ·intro Q' q;simp only[fM];walk_at "u";rw[lp];exact q
  ·intro k l Q' hk q;have ek:(p.map D.int).getD k .non= .int (p.getD k 0):=by
    rw[getD_eq_getElem?_getD,getElem?_map,getD_eq_getElem?_getD,getElem?_eq_getElem hk];rfl
   rw[ek]at q⊢;walk_at "u";exact q
  ·have e:((List.range p.length).map λk=>D.bl (aS8 (p.getD k 0)))=(p.map aS8).map D.bl:=by
    rw[map_map];refine ext_getElem (by simp) λi h1 h2=> ?_
    simp at h1
    simp[h1]
   rw[e];walk_at "u";rw[vG];show Q (.pu (.bl ((p.map aS8).all id)));rw[List.all_map];exact h
 ·rw[decide_eq_false h1]at h;rw[if_pos h1];exact h
def bT:Φ:=λds Q=> ∃p:List Int,ds=[aH p]/\fN p/\Q (.pu .non)
def gG:US:=(eW (aK1 (bY (aI fO (a6 (a9 0) aE)))) (λ_ _=>False) cN)
theorem sT: ∀ds Q,bT ds Q->ds.length=1:=by rintro ds Q ⟨a,rfl,_⟩;rfl
theorem uJ: ∀ds Q,bT ds Q->gG {nx:=λ_=>Q (.pu .non),rt:=Q} (init ["r"] ds):=by
 rintro ds Q ⟨p,rfl,hp,h⟩;have hi:=hp.ok.hi;unfold gG;show(eW _ _ _:US) _ [some (.pu (aH p))];walk_at "u";refine⟨p,rfl,by lia,?_⟩
 rw[(bL2 p).mpr hp]
 simpa using h
def fW (p:List Int):List (List Int):=(List.range (p.length-1)).map λi=>((bH p (2*(p.length-1)-2)).drop i).take (p.length-1)
def lB:Φ:=λds Q=> ∃p:List Int,ds=[aH p]/\fN p/\Q (.pu (.int (sA 4 (fW p))))
def qJ:US:=(aK (sJ (aI bT (a6 (a9 0) aE))) (aK (b9 1 (uOp M.gSub (hV (aN 0)) (uC (.int 1)))) (aK (b9 2 (aI iP (a6 (a9 0) (a6 (uOp M.gSub (uOp fQ (uC (.int 2)) (a9 1)) (uC (.int 1))) aE)))) (bQ (aI (cJ 4) (a6 (aI cS (a6 (eX [1] [none,some 2,some 1,none] 3 (jY (a6 (a9 1) aE)) (cE 0) (λρ Q=>Q true ρ) (aI cS (a6 (uSl (aN 1) (nF (a9 0)) (nF (uOp hJ (a9 0) (a9 2)))) aE))) aE)) aE))))))
theorem aC5: ∀ds Q,lB ds Q->ds.length=1:=by rintro ds Q ⟨a,rfl,_⟩;rfl
theorem b98 {p:List Int}(hp:a20 p):Sq 4 (fW p):=by
 have hlo:=hp.lo;have hhi:=hp.hi;have bn:=qI hp (2*(p.length-1)-2) (by omega)
 have nl:=mB p (2*(p.length-1)-2);have hl:(fW p).length=p.length-1:=by unfold fW;simp
 refine⟨by omega,by omega,λr hr=> ?_,λr hr x hx=> ?_⟩
 ·unfold fW at hr;obtain⟨i,hi,rfl⟩:=List.mem_map.mp hr;have:=List.mem_range.mp hi;rw[hl,length_take,length_drop,nl];omega
 ·unfold fW at hr;obtain⟨i,hi,rfl⟩:=List.mem_map.mp hr;refine lt_of_le_of_lt (bn x (List.mem_of_mem_drop (List.mem_of_mem_take hx))) ?_;exact Nat.pow_lt_pow_right (by decide) (by omega)
theorem bW9 (l:List D)(i n:Nat)(h:i+n<=l.length):cutD l (some (i:Int)) (some ((i+n:Nat):Int))=(l.drop i).take n:=by
 unfold cutD;rw[HT.sIx_nat,HT.sIx_nat,min_eq_left (show i<=l.length by lia),min_eq_left h]
 congr 1
 lia
theorem aM5: ∀ds Q,lB ds Q->qJ {nx:=λ_=>Q (.pu .non),rt:=Q} (init ["p","n","s"] ds):=by
 rintro ds Q ⟨p,rfl,hp,h⟩;have hlo:=hp.ok.lo;have hhi:=hp.ok.hi;have lp:(p.map D.int).length=p.length:=length_map _;have en:(p.length:Int)-1=((p.length-1:Nat):Int):=by lia
 have nl:=mB p (2*(p.length-1)-2);have fin:(bQ (aI (cJ 4) (a6 (aI cS (a6 (eX [1] [none,some 2,some 1,none] 3 (jY (a6 (a9 1) aE)) (cE 0) (λρ Q=>Q true ρ) (aI cS (a6 (uSl (aN 1) (nF (a9 0)) (nF (uOp hJ (a9 0) (a9 2)))) aE))) aE)) aE)):US) {nx:=λ_=>Q (.pu .non),rt:=Q}
   [some (.pu (.tup (p.map .int))),some (.pu (.int ((p.length-1:Nat):Int))),some (.ow ((bH p (2*(p.length-1)-2)).map .int))]:=by
  rw[iO,eZ,fU,eZ,fU];refine eF (t0:=0) (p.length-1) (λi=> .int (0+i)) [some (.pu (.tup (p.map .int))),some (.pu (.int ((p.length-1:Nat):Int))),some (.ow ((bH p (2*(p.length-1)-2)).map .int))] ?_ (by lia)
   (λx l=>[x,some (.bo ((bH p (2*(p.length-1)-2)).map .int)),some (.pu (.int ((p.length-1:Nat):Int))),some (.ow l)]) none rfl (λ_ _ _=>rfl) (λ_ _=>zero_lt_succ _) (λ_ _ _ q=>q) (λ_ _ _=>rfl)
   (λi=>aH (((bH p (2*(p.length-1)-2)).drop i).take (p.length-1))) ?_ ?_
  ·intro Q' q;simp only[jY];walk_at "u";refine⟨by lia,?_⟩
   rw[toNat_natCast];exact q
  ·intro i l Q' hi q;walk_at "u";have e:cutD ((bH p (2*(p.length-1)-2)).map D.int) (some (0+(i:Int))) (some (0+(i:Int)+((p.length-1:Nat):Int)))=(((bH p (2*(p.length-1)-2)).drop i).take (p.length-1)).map D.int:=by
    rw[zero_add,show(i:Int)+((p.length-1:Nat):Int)=((i+(p.length-1):Nat):Int)by lia,bW9 _ _ _ (by rw[length_map,nl];lia),map_take,map_drop]
   rw[e];exact q
  ·simp only[cS,g1,B.d,aE,iD];refine⟨fW p,?_,b98 hp.ok,h⟩;unfold b09 fW;rw[map_map];rfl
 unfold qJ;show(aK _ _:US) _ [some (.pu (.tup (p.map .int))),none,none];rw[aO,bL1,eZ,fU];simp only[a9,yZ,aE,B.d,getElem?_cons_zero];refine⟨p,rfl,hp,?_⟩;rw[aO,qG];simp only[uOp,hV,aN,a34,uC,iD,M.gSub,gI2,B.d,getElem?_cons_zero,lp,set_cons_succ,set_cons_zero,en];rw[aO,qG,eZ];simp only[a6,aE,uOp,a9,yZ,uC,M.gSub,fQ,gI2,B.d,getElem?_cons_zero,getElem?_cons_succ];refine⟨cmL (by decide) (by decide),?_⟩
 refine⟨p,2*(p.length-1)-1,?_,hp.ok,by lia,by lia,?_⟩
 ·rw[show(2:Int)*((p.length-1:Nat):Int)-1=((2*(p.length-1)-1:Nat):Int)by lia];rfl
 ·rw[show 2*(p.length-1)-1-1=2*(p.length-1)-2 by lia]
  exact fin
def one4 (e d c b:Int):Int:=12*e-3*b*d+c*c
def two4 (e d c b:Int):Int:=72*c*e+9*b*c*d-27*d*d-27*b*b*e-2*c*c*c
def bX0:List Int->Int
 | [c0,c1,_]=>c1*c1-4*c0
 | [d,c,b,_]=>b*b*c*c-4*c*c*c-4*b*b*b*d-27*d*d+18*b*c*d
 | [e,d,c,b,_]=>(4*one4 e d c b*one4 e d c b*one4 e d c b-two4 e d c b*two4 e d c b).fdiv 27
 | _=>0
theorem fN.cases {p:List Int}(h:fN p):(∃a b:Int,p=[a,b,1]/\a.natAbs<=499/\b.natAbs<=499)\/(∃a b c:Int,p=[a,b,c,1]/\a.natAbs<=499/\b.natAbs<=499/\c.natAbs<=499)\/
  ∃a b c d:Int,p=[a,b,c,d,1]/\a.natAbs<=499/\b.natAbs<=499/\c.natAbs<=499/\d.natAbs<=499:=by
 obtain⟨q,rfl⟩:=h.one;have lo:=h.ok.lo;have hi:=h.ok.hi;have sm: ∀x∈q,x.natAbs<=499:=λx hx=>h.ok.small x (mem_append_left _ hx)
 rw[length_append,List.length_singleton]at lo hi
 match q,lo,hi,sm with
 | [a,b],_,_,sm=>exact .inl ⟨a,b,rfl,sm a (by simp),sm b (by simp)⟩
 | [a,b,c],_,_,sm=>exact .inr (.inl ⟨a,b,c,rfl,sm a (by simp),sm b (by simp),sm c (by simp)⟩)
 | [a,b,c,d],_,_,sm=>exact .inr (.inr ⟨a,b,c,d,rfl,sm a (by simp),sm b (by simp),sm c (by simp),sm d (by simp)⟩)
 | [],lo,_,_=>simp at lo
 | [_],lo,_,_=>simp at lo
 | _::_::_::_::_::_,_,hi,_=>simp at hi
theorem fN.of {q:List Int}(h1:2<=q.length)(h2:q.length<=4)(h3: ∀x∈q,x.natAbs<=499):fN (q++[1]):=by
 refine⟨⟨by simp;omega,by simp;omega,λx hx=> ?_⟩,q,rfl⟩
 rcases List.mem_append.mp hx with hx|hx
 ·exact h3 x hx
 ·have:x=1:=by simpa using hx
  subst this;decide
def rts3 (a b c:Int):List Int:=[-(a*b*c),a*b+a*c+b*c,-a-b-c]
def sqIn (rs:List Int)(i:Nat)(t:Int):Nat->Int
 | 0=>t
 | j+1=>sqIn rs i t j*(rs.getD i 0-rs.getD j 0)*(rs.getD i 0-rs.getD j 0)
def sqK (rs:List Int):Nat->Int
 | 0=>1
 | i+1=>sqIn rs i (sqK rs i) i
def okR (q rs:List Int):Bool:=(q.all λx=>decide (x.natAbs<=499))&&decide (bX0 (q++[1])=sqK rs rs.length)
def bX1 (row:List Int)(r:Int):Nat->List Int
 | 0=>0::row
 | k+1=>(bX1 row r k).set k ((bX1 row r k).getD k 0-r*row.getD k 0)
def c08 (rs:List Int):List Int:=rs.foldl (λrow r=>bX1 row r row.length) [1]
theorem fr3 (a b c:Int):c08 [a,b,c]=rts3 a b c++[1]:=by
 simp[c08,bX1,rts3]
 grind
def rwF (n:Nat)(f:Nat->Int):List Int:=(List.range n).map f
theorem aM6 (n:Nat)(f:Nat->Int):(rwF n f).length=n:=by simp[rwF]
theorem b47 {n i:Nat}{f:Nat->Int}(h:i<n):(rwF n f)[i]? =some (f i):=by simp[rwF,h]
theorem bD (n:Nat)(f:Nat->Int):((rwF n f).map D.int).length=n:=by simp[rwF]
theorem pI {n i:Nat}{f:Nat->Int}(h:i<n):((rwF n f).map D.int)[i]? =some (.int (f i)):=by simp[rwF,h]
theorem wT {n i:Nat}{f:Nat->Int}(h:i<n):((rwF n f).map D.int).getD i .non= .int (f i):=by rw[getD_eq_getElem?_getD,pI h];rfl
theorem qK {n i:Nat}{f:Nat->Int}(h:i<n):atI ((rwF n f).map D.int) (i:Int)=some (.int (f i)):=b6 (pI h)
theorem aM7 {n j:Nat}{f:Nat->Int}{v:Int}(h:j<n):((rwF n f).map D.int).set j (.int v)=(rwF n λx=>if x=j then v else f x).map D.int:=by
 apply List.ext_getElem?
 intro k
 by_cases hk:k<n
 ·rw[pI hk]
  by_cases e:j=k
  ·subst e;rw[dZ (by rw[bD];exact hk),if_pos rfl]
  ·rw[get_set_ne e,pI hk,if_neg (λz=>e z.symm)]
 ·rw[getElem?_eq_none (by rw[length_set,bD];omega),getElem?_eq_none (by rw[bD];omega)]
theorem iF {n:Nat}{f g:Nat->Int}(h: ∀i,i<n->f i=g i):rwF n f=rwF n g:=by
 unfold rwF;apply List.map_congr_left;intro i hi;exact h i (List.mem_range.mp hi)
theorem sU (r:List Int):r=rwF r.length (λj=>r.getD j 0):=by
 apply List.ext_getElem?
 intro k
 by_cases hk:k<r.length
 ·rw[b47 hk,getElem?_eq_getElem hk,getD_eq_getElem?_getD,getElem?_eq_getElem hk];rfl
 ·rw[getElem?_eq_none (by omega),getElem?_eq_none (by rw[aM6];omega)]
theorem aS9 (n:Nat)(f:Nat->Int):(List.range n).map (λk=>D.int (f k))=(rwF n f).map D.int:=by
 unfold rwF;rw[map_map];rfl
theorem b11 {n i:Nat}(h:i<n):ixN n (i:Int)=some i:=by
 unfold ixN;have h2:(i:Int)< (n:Int):=by omega
 simp[h,h2]
theorem bX2 (t:UE)(ρ:Ev)(Q:Bool->Ev->Prop):bY t ρ Q=t ρ (isB Q):=rfl
theorem b12 (g:D->D->(B->Prop)->Prop)(ta tb:UE)(ρ:Ev)(Q:B->Ev->Prop):uOp g ta tb ρ Q=ta ρ λx ρ1=>tb ρ1 λy ρ2=>g x.d y.d λb=>Q b ρ2:=rfl
theorem b48 (c:UT)(t u:US)(E:UD)(ρ:Ev):eW c t u E ρ=c ρ λb ρ1=>if b=true then t E ρ1 else u E ρ1:=rfl
theorem aT0: ∀r:List Int,pdL (r.map D.int)=some (r.map PyData.int)
 | []=>by simp[pdL]
 | a::r=>by simp[pdL,pd,aT0 r]
theorem bL3 (r:List Int):pd (aH r)=some (.tuple (r.map .int)):=by simp[aH,pd,aT0]
theorem aT1: ∀r:List Int,PyData.depthAll (r.map PyData.int)=0
 | []=>by simp[PyData.depthAll]
 | a::r=>by simp[PyData.depthAll,PyData.depth,aT1 r]
theorem bX3 (r:List Int):(PyData.tuple (r.map .int)).depth<=60:=by simp[PyData.depth,aT1]
theorem bX4 (a b:List Int):(PyData.tuple (a.map .int)).eqv (.tuple (b.map .int))=decide (a=b):=by simp only[PyData.eqv];exact PySem.W.ked_eqvAll a b
theorem aT2 {neg:Bool}{a b:List Int}{Q:B->Prop}(h:Q (.pu (.bl (neg ^^ decide (a=b))))):bU2 neg (aH a) (aH b) Q:=⟨_,_,bL3 a,bL3 b,bX3 a,by rw[bX4];exact h⟩
def cF (f:Nat->Int):Nat->Nat
 | 0=>0
 | n+1=>if f n=0 then cF f n else n+1
theorem qL (f:Nat->Int): ∀n,cF f n<=n
 | 0=>le_refl _
 | n+1=>by
  unfold cF;split
  ·have:=qL f n;lia
  ·exact le_refl _
theorem aH2 (f:Nat->Int): ∀n,cF f n=0\/f (cF f n-1)≠0
 | 0=> .inl rfl
 | n+1=>by
  unfold cF;split
  ·exact aH2 f n
  ·rename_i h
   exact .inr (by simpa using h)
theorem aH3 (f:Nat->Int): ∀n m,cF f n<=m->m<n->f m=0
 | n+1,m,h1,h2=>by
  unfold cF at h1;split at h1
  ·rename_i h
   by_cases e:m=n
   ·rw[e];exact h
   ·exact aH3 f n m h1 (by lia)
  ·lia
theorem lC {f:Nat->Int}{k:Nat}: ∀{n:Nat},k<=n->(∀m,k<=m->m<n->f m=0)->(k=0\/f (k-1)≠0)->cF f n=k
 | 0,h,_,_=>by have:k=0:=by lia
               rw[this];rfl
 | n+1,h,hz,hl=>by
  unfold cF
  by_cases e:k=n+1
  ·subst e;rw[if_neg];rcases hl with h0|h0
   ·lia
   ·simpa using h0
  ·rw[if_pos (hz n (by lia) (by lia))]
   exact lC (by lia) (λm h1 h2=>hz m h1 (by lia)) hl
theorem a65 {f g:Nat->Int}: ∀{n:Nat},(∀m,m<n->f m=g m)->cF f n=cF g n
 | 0,_=>rfl
 | n+1,h=>by
  unfold cF;rw[h n (lt_succ_self n),a65 λm hm=>h m (lt_succ_of_lt hm)]
theorem bL4 (n k:Nat)(f:Nat->Int)(h:k<=n):(rwF n f).take k=rwF k f:=by
 unfold rwF;rw[<-map_take,List.take_range,min_eq_left h]
def pJ:Φ:=λds Q=> ∃(n:Nat) (f:Nat->Int),ds=[aH (rwF n f)]/\n<=1000/\Q (.pu (aH (rwF (cF f n) f)))
def a66:US:=(aK (b9 1 (hV (aN 0))) (aK (aK3 (aY2 (bY (uOp (nW λi j=>decide (j<i)) (a9 1) (uC (.int 0)))) (bY (uOp (iK false) (uIx (aN 0) (uOp M.gSub (a9 1) (uC (.int 1)))) (uC (.int 0))))) (aQ8 1 (gI2 λi j Q=>Q (.pu (.int (i-j)))) (uC (.int 1)))) (bQ (uSlT (a9 0) nE (nF (a9 1))))))
theorem b99: ∀ds Q,pJ ds Q->ds.length=1:=by rintro ds Q ⟨n,f,rfl,_⟩;rfl
theorem bL5: ∀ds Q,pJ ds Q->a66 {nx:=λ_=>Q (.pu .non),rt:=Q} (init ["r","s"] ds):=by
 rintro ds Q ⟨n,f,rfl,hn,h⟩;unfold a66;simp only[aH];show(aK _ _:US) _ [some (.pu (.tup ((rwF n f).map .int))),none];rw[aO];walk_at "u";rw[bD];refine⟨λm ρ=>ρ=[some (.pu (.tup ((rwF n f).map .int))),some (.pu (.int (m:Int)))]/\m<=n/\cF f m=cF f n,⟨n,rfl,le_refl _,rfl⟩,?_⟩
 rintro m ρ ⟨rfl,hm,hc⟩;walk_at "u";have fin:cF f m=m->Q (.pu (.tup (cutD ((rwF n f).map D.int) none (some (m:Int))))):=λe=>by
  rw[bL0 _ _ (by rw[bD];exact hm),<-map_take,bL4 _ _ _ hm]
  rw[<-hc,e]at h;exact h
 split
 ·rename_i h0
  obtain⟨m',rfl⟩: ∃m',m=m'+1:=⟨m-1,by lia⟩
  rw[show((m'+1:Nat):Int)-1=(m':Int)by lia,qK (show m'<n by lia)]
  dsimp only;split
  ·rename_i h1
   refine⟨m',by lia,?_,by lia,?_⟩
   ·simp
   ·rw[<-hc];show _=if f m'=0 then cF f m' else m'+1;rw[if_pos h1]
  ·rename_i h1
   refine fin ?_
   show(if f m'=0 then cF f m' else m'+1)=m'+1
   rw[if_neg h1]
 ·have:m=0:=by lia
  subst this;exact fin rfl
def shF (b:Nat->Int)(n m:Nat):Int:=if n<=m then b (m-n)else 0
def divS (b:Nat->Int)(d n:Nat)(f:Nat->Int):Nat->Int:=λm=>f m-f (n+d)*shF b n m
def divL (b:Nat->Int)(d:Nat):Nat->(Nat->Int)->Nat->Int
 | 0,f=>f
 | n+1,f=>divL b d n (divS b d n f)
def divQ (b:Nat->Int)(d:Nat):Nat->(Nat->Int)->Nat->Int
 | 0,_=>λ_=>0
 | n+1,f=>λx=>if x=n then f (n+d)else divQ b d n (divS b d n f) x
structure bL6 (L d a e:Nat)(f b:Nat->Int):Prop where
 L9:L<=100
 d9:d<=100
 one:b d=1
 beyond: ∀j,d<j->b j=0
 fb: ∀m,m<L->(f m).natAbs<=2^a
 bb: ∀j,(b j).natAbs<=2^e
 room:a+(e+1)*L<8000
 e8:e<8000
theorem b13 {b f:Nat->Int}{d n a e L:Nat}(hn:n+d<L)(hf: ∀m,m<L->(f m).natAbs<=2^a)(hb: ∀j,(b j).natAbs<=2^e): ∀m,m<L->(divS b d n f m).natAbs<=2^(a+(e+1)):=by
 intro m hm;unfold divS;have h1:=hf m hm;have h2:=hf (n+d) hn;have h3:(shF b n m).natAbs<=2^e:=by
  unfold shF;split
  ·exact hb _
  ·simp
 have h4:(f (n+d)*shF b n m).natAbs<=2^a*2^e:=by rw[natAbs_mul];exact mul_le_mul h2 h3
 have h5:=Int.natAbs_sub_le (f m) (f (n+d)*shF b n m);have e1:2^(a+(e+1))=2^a*2^e+2^a*2^e:=by rw[<-add_assoc,pow_succ,pow_add];lia
 have h6:2^a<=2^a*2^e:=Nat.le_mul_of_pos_right _ (Nat.pow_pos (by decide))
 lia
theorem aH4 (k:Nat):(replicate k [D.int 0]).flatten=(rwF k λ_=>0).map .int:=by
 rw[aS6]
 congr 1
 apply ext_getElem<;>simp[rwF]
def bO:Φ:=λds Q=> ∃(L d a e:Nat) (f b:Nat->Int),ds=[aH (rwF L f),aH (rwF (d+1) b)]/\bL6 L d a e f b/\
 Q (.pu (.tup [aH (rwF (cF (divQ b d (L-d) f) (L-d)) (divQ b d (L-d) f)),aH (rwF (cF (divL b d (L-d) f) L) (divL b d (L-d) f))]))
def nK:US:=(bQ (eC (a6 (aI pJ (a6 (aI cS (a6 (a9 5) aE)) aE)) (a6 (aI pJ (a6 (aI cS (a6 (a9 4) aE)) aE)) aE))))
def nL:US:=(aK (jX (bH4 (a6 (a9 3) aE)) (cE 6) (aK (b9 7 (uIx (aN 4) (uOp hJ (a9 6) (a9 2)))) (aK (b32 5 (a9 7) (a9 6)) (jX (bH3 (a6 (a9 1) aE)) (rM (dP 8 (dP 9 rL))) (bH1 4 (λi j=>i-j) (uOp hJ (a9 6) (a9 8)) (uOp fQ (a9 7) (a9 9))))))) nK)
def jG:US:=(aK (b9 2 (uOp M.gSub (hV (aN 1)) (uC (.int 1)))) (aK (b9 3 (aI gMax (a6 (uC (.int 0)) (a6 (uOp M.gSub (hV (aN 0)) (a9 2)) aE)))) (aK (b9 4 (aI a14 (a6 (a9 0) aE))) (aK (b9 5 (uOp fQ (iL (a6 (uC (.int 0)) aE)) (a9 3))) nL))))
theorem wU: ∀ds Q,bO ds Q->ds.length=2:=by rintro ds Q ⟨L,d,a,e,f,b,rfl,_⟩;rfl
theorem yC: ∀ds Q,bO ds Q->jG {nx:=λ_=>Q (.pu .non),rt:=Q} (init ["f","g","d","s","l","q","a","m","j","c"] ds):=by
 rintro ds Q ⟨L,d,a,e,f,b,rfl,ok,h⟩;have L9:=ok.L9;have d9:=ok.d9;have room:=ok.room;unfold jG;simp only[aH]at h⊢;show(aK _ _:US) _ [some (.pu (.tup ((rwF L f).map .int))),some (.pu (.tup ((rwF (d+1) b).map .int))),none,none,none,none,none,none,none,none];walk_at "u";rw[bD,bD];obtain⟨N,hN⟩: ∃N:Nat,N=L-d:=⟨_,rfl⟩;have e1:((d+1:Nat):Int)-1=(d:Int):=by lia
 have e2:(if(L:Int)-(d:Int)>0 then(L:Int)-(d:Int)else 0)=(N:Int):=by split<;>lia
 rw[e1,e2,toNat_natCast,aH4];refine⟨by decide,⟨by lia,by lia,le_trans (show 1*N<=100 by lia) (by decide)⟩,?_⟩
 unfold nL;rw[aO];rw[<-hN]at h;refine bG N (λk=> .int (((N:Int))-1-k)) [some (.pu (.tup ((rwF L f).map .int))),some (.pu (.tup ((rwF (d+1) b).map .int))),some (.pu (.int (d:Int))),some (.pu (.int (N:Int))),some (.ow ((rwF L f).map .int)),some (.ow ((rwF N λ_=>0).map .int)),none,none,none,none] ?_
  (λk ρ=> ∃g q z6 z7 z8 z9,ρ=[some (.pu (.tup ((rwF L f).map .int))),some (.pu (.tup ((rwF (d+1) b).map .int))),some (.pu (.int (d:Int))),some (.pu (.int (N:Int))),some (.ow ((rwF L g).map .int)),some (.ow ((rwF N q).map .int)),z6,z7,z8,z9]/\
   divL b d (N-k) g=divL b d N f/\(∀x,x<N->divQ b d N f x=if x<N-k then divQ b d (N-k) g x else q x)/\ ∀m,m<L->(g m).natAbs<=2^(a+(e+1)*k))
  ⟨f,λ_=>0,none,none,none,none,rfl,rfl,λx hx=>by rw[sub_zero,if_pos hx],λm hm=>by simpa using ok.fb m hm⟩ ?_ ?_
 ·intro Q' q;walk_at "u";refine⟨⟨by lia,by lia⟩,?_⟩
  rw[toNat_natCast];exact q
 ·rintro k ρ hk ⟨g,q,z6,z7,z8,z9,rfl,hL,hQ,hb⟩;obtain⟨i,hi⟩: ∃i:Nat,i=N-1-k:=⟨_,rfl⟩;have ei:(N:Int)-1-(k:Int)=(i:Int):=by lia
  have hiN:i<N:=by lia
  have hid:i+d<L:=by lia
  rw[ei];have c1:(i:Int)+(d:Int)=((i+d:Nat):Int):=by lia
  walk_at "u"
  rw[c1,qK hid];dsimp only;rw[bD,b11 hiN];dsimp only;rw[aM7 hiN];refine⟨by simp,?_⟩
  have smg:Sm (g (i+d)):=Sm.pow (hb _ hid) (by
   have:(e+1)*k<=(e+1)*L:=Nat.mul_le_mul_left _ (by lia)
   lia)
  refine bG (d+1) (λj=> .tup [.int (j:Int),((rwF (d+1) b).map D.int).getD j .non]) [some (.pu (.tup ((rwF L f).map .int))),some (.pu (.tup ((rwF (d+1) b).map .int))),some (.pu (.int (d:Int))),some (.pu (.int (N:Int))),some (.ow ((rwF L g).map .int)),some (.ow ((rwF N λx=>if x=i then g (i+d)else q x).map .int)),some (.pu (.int (i:Int))),some (.pu (.int (g (i+d)))),z8,z9] ?_
   (λj ρ=> ∃z8 z9,ρ=[some (.pu (.tup ((rwF L f).map .int))),some (.pu (.tup ((rwF (d+1) b).map .int))),some (.pu (.int (d:Int))),some (.pu (.int (N:Int))),some (.ow ((rwF L λm=>if m<i+j then divS b d i g m else g m).map .int)),some (.ow ((rwF N λx=>if x=i then g (i+d)else q x).map .int)),some (.pu (.int (i:Int))),some (.pu (.int (g (i+d)))),z8,z9]) ⟨z8,z9,?_⟩ ?_ ?_
  ·intro Q' qq;walk_at "u";rw[bD];exact qq
  ·have:(rwF L λm=>if m<i+0 then divS b d i g m else g m)=rwF L g:=by
    apply iF
    intro m hm
    by_cases c:m<i+0
    ·rw[if_pos c];unfold divS shF;rw[if_neg (by lia)]
     lia
    ·rw[if_neg c]
   rw[this]
  ·rintro j ρ hj ⟨z8,z9,rfl⟩;rw[wT hj];have hij:i+j<L:=by lia
   have c2:(i:Int)+(j:Int)=((i+j:Nat):Int):=by lia
   simp only[bH1];walk_at "u";rw[c2,bD];refine⟨by simp,by simp,trivial,_,i+j,g (i+j),rfl,b11 hij,by rw[pI hij,if_neg (by lia)],.inr ⟨smg,Sm.pow (ok.bb j) (by have:=ok.e8;lia)⟩,_,rfl,some (.pu (.int (j:Int))),some (.pu (.int (b j))),?_⟩
   rw[aM7 hij];have:(rwF L λx=>if x=i+j then g (i+j)-g (i+d)*b j else if x<i+j then divS b d i g x else g x)=rwF L λm=>if m<i+(j+1)then divS b d i g m else g m:=by
    apply iF
    intro m hm
    by_cases c:m=i+j
    ·subst c;rw[if_pos rfl,if_pos (by lia)]
     unfold divS shF;rw[if_pos (by lia),show i+j-i=j by lia]
    ·rw[if_neg c]
     by_cases c3:m<i+j
     ·rw[if_pos c3,if_pos (by lia)]
     ·rw[if_neg c3,if_neg (by lia)]
   rw[this]
  ·rintro ρ ⟨z8,z9,rfl⟩;have eg:(rwF L λm=>if m<i+(d+1)then divS b d i g m else g m)=rwF L (divS b d i g):=by
    apply iF
    intro m hm
    by_cases c:m<i+(d+1)
    ·rw[if_pos c]
    ·rw[if_neg c];unfold divS shF;rw[if_pos (by lia),ok.beyond _ (by lia)]
     lia
   rw[eg];have en:N-k=i+1:=by lia
   have en2:N-(k+1)=i:=by lia
   rw[en]at hL hQ;refine⟨_,_,_,_,_,_,rfl,by rw[en2];exact hL,λx hx=> ?_,?_⟩
   ·rw[en2,hQ x hx]
    by_cases c:x<i
    ·rw[if_pos c,if_pos (by lia)]
     show(if x=i then _ else divQ b d i (divS b d i g) x)=_
     rw[if_neg (by lia)]
    ·rw[if_neg c]
     by_cases c2:x=i
     ·subst c2;rw[if_pos (by lia),if_pos rfl]
      show(if x=x then _ else _)=_
      rw[if_pos rfl]
     ·rw[if_neg (by lia),if_neg c2]
   ·have:=b13 hid hb ok.bb;rw[show a+(e+1)*(k+1)=a+(e+1)*k+(e+1)by rw[mul_succ];lia]
    exact this
 ·rintro ρ ⟨g,q,z6,z7,z8,z9,rfl,hL,hQ,hb⟩;dsimp only;unfold nK;rw[sub_self]at hL hQ;have hg:g=divL b d N f:=hL;have hq: ∀x,x<N->divQ b d N f x=q x:=λx hx=>by rw[hQ x hx,if_neg (by lia)]
  walk_at "u"
  refine⟨N,q,rfl,by lia,?_⟩
  refine⟨L,g,rfl,by lia,?_⟩
  walk_at "u"
  refine⟨by decide,?_⟩
  have e3:cF (divQ b d N f) N=cF q N:=a65 λm hm=>hq m hm
  have e4:rwF (cF q N) (divQ b d N f)=rwF (cF q N) q:=iF λm hm=>hq m (by have:=qL q N;lia)
  rw[e3,e4,<-hg]at h;exact h
def conv (u b:Nat->Int):Nat->Nat->Int
 | 0,_=>0
 | n+1,m=>conv u b n m+u n*shF b n m
theorem iG {u b:Nat->Int}{d:Nat}(hb: ∀j,d<j->b j=0): ∀(n m:Nat),n+d<=m->conv u b n m=0
 | 0,m,_=>rfl
 | n+1,m,h=>by
  show conv u b n m+u n*shF b n m=0
  rw[iG hb n m (by lia)]
  unfold shF;rw[if_pos (by lia),hb _ (by lia)]
  lia
theorem a67 {u b low:Nat->Int}{d:Nat}(h1:b d=1)(hb: ∀j,d<j->b j=0)(hl: ∀m,d<=m->low m=0): ∀(n:Nat),divL b d n (λm=>conv u b n m+low m)=low/\ ∀x,x<n->divQ b d n (λm=>conv u b n m+low m) x=u x
 | 0=>⟨by funext m;show 0+low m=low m;lia,λx hx=>by lia⟩
 | n+1=>by
  have top:conv u b (n+1) (n+d)+low (n+d)=u n:=by
   show conv u b n (n+d)+u n*shF b n (n+d)+low (n+d)=u n
   rw[iG hb n _ (le_refl _),hl _ (by lia)]
   unfold shF;rw[if_pos (by lia),show n+d-n=d by lia,h1]
   lia
  have st:divS b d n (λm=>conv u b (n+1) m+low m)=λm=>conv u b n m+low m:=by
   funext m
   show(conv u b (n+1) m+low m)-(conv u b (n+1) (n+d)+low (n+d))*shF b n m=_
   rw[top];show conv u b n m+u n*shF b n m+low m-u n*shF b n m=_
   lia
  obtain⟨i1,i2⟩:=a67 (u:=u) h1 hb hl n;refine⟨?_,λx hx=> ?_⟩
  ·show divL b d n (divS b d n _)=low
   rw[st];exact i1
  ·show(if x=n then _ else divQ b d n (divS b d n _) x)=u x
   rw[st]
   by_cases c:x=n
   ·rw[if_pos c,c];exact top
   ·rw[if_neg c];exact i2 x (by lia)
theorem bA0 (Q:B->Ev->Prop)(z:Option B)(kH:Ev)(r:List Int)(hr:r.length<=1000)(h:Q (.ow ((replicate r.length true).map D.bl)) (some (.pu (.tup (r.map .int)))::kH)) :
  (eX [] [none,none] 1 (fM (a9 0)) (cE 0) (λρ Q=>Q true ρ) (aI sS (a6 (a9 0) aE)):UE) (some (.pu (.tup (r.map .int)))::kH) Q:=by
 refine eF (t0:=0) r.length (λk=>(r.map D.int).getD k .non) (some (.pu (.tup (r.map .int)))::kH) ?_ (by lia) (λx l=>[x,some (.ow l)]) none rfl (λ_ _ _=>rfl) (λ_ _=>zero_lt_succ _) (λ_ _ _ q=>q) (λ_ _ _=>rfl) (λ_=> .bl true) ?_ ?_
 ·intro Q' q;walk_at "u";rw[length_map];exact q
 ·intro k l Q' hk q;obtain⟨z,hz⟩:=bK6 (ys:=r) (i:=k) (by rw[length_map];exact hk)
  rw[hz]at q⊢;walk_at "u";exact⟨z,rfl,q⟩
 ·have e:(List.range r.length).map (λ_=>D.bl true)=(replicate r.length true).map D.bl:=by apply ext_getElem<;>simp
  rw[e];exact h
theorem zE {n:Nat}{f:Nat->Int}(h:0<n):atI ((rwF n f).map D.int) (-1)=some (.int (f (n-1))):=by
 unfold L2.atI;have e:ixN ((rwF n f).map D.int).length (-1)=some (n-1):=by
  unfold ixN;rw[bD,if_neg (by decide),if_pos (by lia)]
  congr 1
  lia
 rw[e];exact pI (by lia)
theorem b14 {f:Nat->Int}{n:Nat}(hf: ∀m,n<=m->f m=0): ∀m,cF f n<=m->f m=0:=λm hm=>by
 by_cases c:m<n
 ·exact aH3 f n m hm c
 ·exact hf m (by lia)
def md (p:Int)(f:Nat->Int):Nat->Int:=λj=>f j%p
def aC6 (c p:Int):Nat->Int
 | 0=>1
 | n+1=>aC6 c p n*c%p
theorem a68 {c p:Int}(hp:2<=p): ∀n,0<=aC6 c p n/\aC6 c p n<p
 | 0=>⟨by show(0:Int)<=1;lia,by show(1:Int)<p;lia⟩
 | n+1=>⟨emod_nonneg _ (by lia),emod_lt_of_pos _ (by lia)⟩
structure Pr (p:Int):Prop where
 lo:2<=p
 hi:p<200
 inv: ∀c:Int,0<c->c<p->aC6 c p (p.toNat-2)*c%p=1
def Cg (p:Int)(f g:Nat->Int):Prop:= ∀m,f m%p=g m%p
theorem Cg.divS {p:Int}{b f g:Nat->Int}{d n:Nat}(h:Cg p f g):Cg p (divS b d n f) (divS b d n g):=λm=>by
 show(f m-f (n+d)*shF b n m)%p=(g m-g (n+d)*shF b n m)%p
 have h1:=h m;have h2:f (n+d)*shF b n m%p=g (n+d)*shF b n m%p:=by rw[mul_emod,h (n+d),<-mul_emod]
 rw[sub_emod,h1,h2,<-sub_emod]
theorem Cg.divL {p:Int}{b:Nat->Int}{d:Nat}: ∀(n:Nat) {f g:Nat->Int},Cg p f g->Cg p (divL b d n f) (divL b d n g)
 | 0,_,_,h=>h
 | n+1,_,_,h=>Cg.divL n h.divS
theorem Cg.divQ {p:Int}{b:Nat->Int}{d:Nat}: ∀(n:Nat) {f g:Nat->Int},Cg p f g->Cg p (divQ b d n f) (divQ b d n g)
 | 0,_,_,h=>λ_=>rfl
 | n+1,f,g,h=>λx=>by
  show(if x=n then f (n+d)else M.divQ b d n (M.divS b d n f) x)%p=(if x=n then g (n+d)else M.divQ b d n (M.divS b d n g) x)%p
  by_cases c:x=n
  ·rw[if_pos c,if_pos c];exact h _
  ·rw[if_neg c,if_neg c];exact Cg.divQ n h.divS x
theorem zF {b:Nat->Int}{d:Nat}: ∀(n:Nat) (f:Nat->Int) (x:Nat),n<=x->divQ b d n f x=0
 | 0,_,_,_=>rfl
 | n+1,f,x,h=>by
  show(if x=n then f (n+d)else divQ b d n (divS b d n f) x)=0
  rw[if_neg (by lia)]
  exact zF n _ x (by lia)
theorem a21 {p:Int}{u u' b b':Nat->Int}(h: ∀i j,u' i*b' j%p=u i*b j%p): ∀n,Cg p (conv u' b' n) (conv u b n)
 | 0,_=>rfl
 | n+1,m=>by
  show(conv u' b' n m+u' n*shF b' n m)%p=(conv u b n m+u n*shF b n m)%p
  have h1:=a21 h n m;have h2:u' n*shF b' n m%p=u n*shF b n m%p:=by
   unfold shF
   by_cases c:n<=m
   ·rw[if_pos c,if_pos c];exact h _ _
   ·rw[if_neg c,if_neg c,mul_zero,mul_zero]
  rw[add_emod,h1,h2,<-add_emod]
theorem aT3 {u b:Nat->Int}{d U:Nat}(hb: ∀j,d<j->b j=0):conv u b (U+1) (U+d)=u U*b d:=by
 show conv u b U (U+d)+u U*shF b U (U+d)=_
 rw[iG hb U _ (le_refl _)];unfold shF;rw[if_pos (by lia),show U+d-U=d by lia]
 lia
theorem bL7 {p t:Int}{B0 u low A:Nat->Int}{d U n:Nat}(hp:2<=p)(hB: ∀j,d<j->B0 j=0)(hU:U=0\/u (U-1)≠0)(uR: ∀j,0<=u j/\u j<p)(uz: ∀j,U<=j->u j=0)(lz: ∀j,d<=j->low j=0)(lR: ∀j,0<=low j/\low j<p)
  (ht:t*B0 d%p=1) (hA: ∀m,A m=(conv u B0 U m+low m)%p) (hn:U+d<=n) :
  let b:=λj=>t*B0 j%p
  let LA:=cF A n
  LA<=U+d/\(∀j,t*divQ b d (LA-d) A j%p=u j)/\(∀j,divL b d (LA-d) A j%p=low j)/\(∀m,LA<=m->divL b d (LA-d) A m%p=0):=by
 intro b LA;have b1:b d=1:=ht;have bz: ∀j,d<j->b j=0:=λj hj=>by
  show t*B0 j%p=0
  rw[hB j hj,mul_zero,zero_emod]
 have tc: ∀x:Int,t*(B0 d*x)%p=x%p:=λx=>by
  rw[<-mul_assoc,mul_emod,ht,one_mul,emod_emod]
 have cg:Cg p A (λm=>conv (λi=>B0 d*u i) b U m+low m):=λm=>by
  rw[hA m,emod_emod];have:=a21 (p:=p) (u:=u) (b:=B0) (u':=λi=>B0 d*u i) (b':=b) (λi j=>by
   show B0 d*u i*(t*B0 j%p)%p=u i*B0 j%p
   rw[mul_emod,emod_emod,<-mul_emod];have e:B0 d*u i*(t*B0 j)=t*(B0 d*(u i*B0 j)):=by
    simp only[Int.mul_comm,Int.mul_left_comm,mul_assoc]
   rw[e,tc]) U m
  show(conv u B0 U m+low m)%p=(conv (λi=>B0 d*u i) b U m+low m)%p
  rw[add_emod,<-this,<-add_emod]
 obtain⟨e1,e2⟩:=a67 (u:=λi=>B0 d*u i) (low:=low) b1 bz lz U
 have Az: ∀m,U+d<=m->A m=0:=λm hm=>by
  rw[hA m,iG hB U m hm,lz m (by lia)]
  exact zero_emod _
 have hL:(U=0/\LA<=d)\/(0<U/\LA=U+d):=by
  have hle:LA<=U+d:=by
   rcases aH2 A n with h|h
   ·show cF A n<=U+d
    lia
   ·exact Decidable.byContradiction λq=>h (Az _ (by show U+d<=LA-1;lia))
  by_cases c:U=0
  ·exact .inl ⟨c,by lia⟩
  ·refine .inr ⟨by lia,?_⟩
   refine lC hn (λm m1 m2=>Az m m1) (.inr λq=> ?_)
   obtain⟨U',rfl⟩: ∃U',U=U'+1:=⟨U-1,by lia⟩
   rw[show U'+1+d-1=U'+d by lia,hA,aT3 hB,lz _ (by lia),add_zero]at q
   have h1:=tc (u U');rw[mul_emod,show B0 d*u U'=u U'*B0 d from Int.mul_comm _ _,q,mul_zero,zero_emod,emod_eq_of_lt (uR _).1 (uR _).2]at h1
   rcases hU with h|h
   ·lia
   ·exact h (by simpa using h1.symm)
 have hN:LA-d=U:=by lia
 have r: ∀j,divL b d U A j%p=low j:=λj=>by
  rw[Cg.divL U cg j,e1,emod_eq_of_lt (lR j).1 (lR j).2]
 refine⟨by lia,λj=> ?_,λj=>by rw[hN];exact r j,λm hm=> ?_⟩
 ·rw[hN]
  by_cases c:j<U
  ·have h1:=Cg.divQ (b:=b) (d:=d) U cg j;rw[e2 j c]at h1;rw[mul_emod,h1,<-mul_emod];show t*(B0 d*u j)%p=u j;rw[tc,emod_eq_of_lt (uR _).1 (uR _).2]
  ·rw[zF U A j (by lia),uz j (by lia),mul_zero,zero_emod]
 ·rw[hN];rcases hL with⟨h1,h2⟩| ⟨h1,h2⟩
  ·subst h1;show A m%p=0;rw[b14 (λm hm=>Az m (by lia)) m hm]
   exact zero_emod _
  ·rw[r m];exact lz m (by lia)
def cX:Φ:=λds Q=> ∃(n:Nat) (f:Nat->Int) (p:Int),ds=[aH (rwF n f),.int p]/\n<=1000/\0<p/\Q (.pu (aH (rwF (cF (md p f) n) (md p f))))
def nY:US:=(bQ (aI pJ (a6 (aI cS (a6 (eX [1] [none,some 1,none] 2 (fM (a9 0)) (cE 0) (λρ Q=>Q true ρ) (uOp n5 (a9 0) (a9 1))) aE)) aE)))
theorem a69: ∀ds Q,cX ds Q->ds.length=2:=by rintro ds Q ⟨n,f,p,rfl,_⟩;rfl
theorem bX5 (Q:B->Ev->Prop)(n:Nat)(f:Nat->Int)(p:Int)(hn:n<=1000)(hp:0<p)(k:Nat->D)(kH:Ev)(x0:D)(hx:x0=aH (rwF n f)\/x0= .lst ((rwF n f).map .int))(h:Q (.ow ((rwF n (md p f)).map .int)) (some (.pu x0)::some (.pu (.int p))::kH)) :
  (eX [1] [none,some 1,none] 2 (fM (a9 0)) (cE 0) (λρ Q=>Q true ρ) (uOp n5 (a9 0) (a9 1)):UE) (some (.pu x0)::some (.pu (.int p))::kH) Q:=by
 refine eF (t0:=0) n (λk=>((rwF n f).map D.int).getD k .non) (some (.pu x0)::some (.pu (.int p))::kH) ?_ (by lia) (λx l=>[x,some (.pu (.int p)),some (.ow l)]) none rfl (λ_ _ _=>rfl) (λ_ _=>zero_lt_succ _) (λ_ _ _ q=>q) (λ_ _ _=>rfl) (λk=> .int (md p f k)) ?_ ?_
 ·intro Q' q;rcases hx with rfl|rfl
  ·simp only[aH]at q⊢;walk_at "u";rw[bD];exact q
  ·walk_at "u"
   rw[bD];exact q
 ·intro k l Q' hk q;rw[wT hk]at q⊢;walk_at "u";refine⟨by lia,?_⟩
  rw[cI _ hp];exact q
 ·rw[aS9];exact h
theorem aC7: ∀ds Q,cX ds Q->nY {nx:=λ_=>Q (.pu .non),rt:=Q} (init ["r","p"] ds):=by
 rintro ds Q ⟨n,f,p,rfl,hn,hp,h⟩;unfold nY;show(bQ _:US) _ [some (.pu (aH (rwF n f))),some (.pu (.int p))];rw[iO,eZ,fU,eZ,fU];refine bX5 _ n f p hn hp (λ_=> .non) [] _ (.inl rfl) ?_
 walk_at "u"
 exact⟨n,md p f,rfl,hn,h⟩
theorem wV {u b:Nat->Int}{U:Nat}: ∀n,(∀j,U<=j->j<n->u j=0)->U<=n-> ∀m,conv u b n m=conv u b U m
 | 0,h,h2,m=>by rw[show U=0 by lia]
 | n+1,h,h2,m=>by
  by_cases c:U=n+1
  ·rw[c]
  ·show conv u b n m+u n*shF b n m=_
   rw[h n (by lia) (by lia),wV n (λj a c=>h j a (by lia)) (by lia) m]
   lia
theorem md_nat {p:Int}(h1:2<=p)(h2:p<200)(f:Nat->Int)(j:Nat):(md p f j).natAbs<=2^8:=by
 unfold md;have a1:=emod_nonneg (f j) (show p≠0 by lia)
 have a2:=emod_lt_of_pos (f j) (show 0<p by lia)
 show _<=256
 lia
def jZ:Φ:=λds Q=> ∃(n:Nat) (f:Nat->Int) (k p:Int),ds=[aH (rwF n f),.int k,.int p]/\n<=1000/\0<=k/\k<200/\0<p/\Q (.pu (aH (rwF (cF (λj=>k*f j%p) n) (λj=>k*f j%p))))
def sV:US:=(bQ (aI cX (a6 (aI cS (a6 (eX [1] [none,some 1,none] 2 (fM (a9 0)) (cE 0) (λρ Q=>Q true ρ) (uOp fQ (a9 1) (a9 0))) aE)) (a6 (a9 2) aE))))
theorem aM8: ∀ds Q,jZ ds Q->ds.length=3:=by rintro ds Q ⟨n,f,k,p,rfl,_⟩;rfl
theorem aT4: ∀ds Q,jZ ds Q->sV {nx:=λ_=>Q (.pu .non),rt:=Q} (init ["f","k","p"] ds):=by
 rintro ds Q ⟨n,f,k,p,rfl,hn,k0,k9,hp,h⟩;unfold sV;show(bQ _:US) _ [some (.pu (aH (rwF n f))),some (.pu (.int k)),some (.pu (.int p))];rw[iO,eZ,fU,eZ,fU]
 refine eF (t0:=0) n (λi=>((rwF n f).map D.int).getD i .non) [some (.pu (aH (rwF n f))),some (.pu (.int k)),some (.pu (.int p))] ?_ (by lia) (λx l=>[x,some (.pu (.int k)),some (.ow l)]) none rfl (λ_ _ _=>rfl) (λ_ _=>zero_lt_succ _) (λ_ _ _ q=>q) (λ_ _ _=>rfl) (λi=> .int (k*f i)) ?_ ?_
 ·intro Q' q;simp only[aH]at q⊢;walk_at "u";rw[bD];exact q
 ·intro i l Q' hk q;rw[wT hk]at q⊢;walk_at "u";exact⟨cmL (by lia) (by lia),q⟩
 ·rw[aS9];walk_at "u";exact⟨n,λi=>k*f i,p,rfl,hn,hp,h⟩
def gS:Φ:=λds Q=> ∃c p:Int,ds=[.int c,.int p]/\0<=c/\c<p/\2<=p/\p<200/\Q (.pu (.int (aC6 c p (p.toNat-2))))
def kJ:US:=(aK (b9 2 (uC (.int 1))) (aK (jX (jY (a6 (uOp M.gSub (a9 1) (uC (.int 2))) aE)) (cE 3) (b9 2 (uOp n5 (uOp fQ (a9 2) (a9 0)) (a9 1)))) (rK 2)))
theorem yD: ∀ds Q,gS ds Q->ds.length=2:=by rintro ds Q ⟨c,p,rfl,_⟩;rfl
theorem zY: ∀ds Q,gS ds Q->kJ {nx:=λ_=>Q (.pu .non),rt:=Q} (init ["c","p","v","s"] ds):=by
 rintro ds Q ⟨c,p,rfl,c0,c1,p2,p9,h⟩;unfold kJ;show(aK _ _:US) _ [some (.pu (.int c)),some (.pu (.int p)),none,none];walk_at "u";refine bG (p.toNat-2) (λk=> .int (0+k)) [some (.pu (.int c)),some (.pu (.int p)),some (.pu (.int 1)),none] ?_
  (λk ρ=> ∃z,ρ=[some (.pu (.int c)),some (.pu (.int p)),some (.pu (.int (aC6 c p k))),z]) ⟨none,rfl⟩ ?_ ?_
 ·intro Q' q;walk_at "u";refine⟨⟨by lia,by lia⟩,?_⟩
  rw[show(p-2).toNat=p.toNat-2 by lia]
  exact q
 ·rintro k ρ hk ⟨z,rfl⟩;have:=a68 (c:=c) p2 k;walk_at "u";refine⟨by simp,cmL (by lia) (by lia),by lia,some (.pu (.int (0+(k:Int)))),?_⟩
  rw[cI _ (by lia)]
  rfl
 ·rintro ρ ⟨z,rfl⟩;walk_at "u";exact h
def gT:Φ:=λds Q=> ∃(n k d:Nat) (f g:Nat->Int) (p:Int),ds=[aH (rwF n f),aH (rwF k g),.int p]/\n<=50/\k<=50/\Pr p/\(∀j,k<=j->g j=0)/\d<k/\(∀j,d<j->md p g j=0)/\md p g d≠0/\
 ∀t,t*md p g d%p=1->0<=t->t<p->
  let b:=λj=>t*md p g j%p
  let LA:=cF (md p f) n
  let q:=divQ b d (LA-d) (md p f)
  let r:=divL b d (LA-d) (md p f)
  Q (.pu (.tup [aH (rwF (cF (λj=>t*q j%p) (cF q (LA-d))) λj=>t*q j%p),aH (rwF (cF (md p r) (cF r LA)) (md p r))]))
def pK:US:=(bQ (eC (a6 (aI jZ (a6 (a9 5) (a6 (a9 4) (a6 (a9 2) aE)))) (a6 (aI cX (a6 (a9 6) (a6 (a9 2) aE))) aE))))
def jH:US:=(aK (bF3 (aI bO (a6 (aI cX (a6 (a9 0) (a6 (a9 2) aE))) (a6 (aI jZ (a6 (a9 3) (a6 (a9 4) (a6 (a9 2) aE)))) aE))) (rM (dP 5 (dP 6 rL)))) pK)
def kK:US:=(aK (b9 3 (aI cX (a6 (a9 1) (a6 (a9 2) aE)))) (aK (b9 4 (aI gS (a6 (uIx (aN 3) (vE (uC (.int 1)))) (a6 (a9 2) aE)))) jH))
theorem yE: ∀ds Q,gT ds Q->ds.length=3:=by rintro ds Q ⟨n,k,d,f,g,p,rfl,_⟩;rfl
theorem zZ: ∀ds Q,gT ds Q->kK {nx:=λ_=>Q (.pu .non),rt:=Q} (init ["a","b","p","l","t","q","r"] ds):=by
 rintro ds Q ⟨n,k,d,f,g,p,rfl,hn,hk,pp,gz,dk,dz,d0,h⟩;have p2:=pp.lo;have p9:=pp.hi;unfold kK;show(aK _ _:US) _ [some (.pu (aH (rwF n f))),some (.pu (aH (rwF k g))),some (.pu (.int p)),none,none,none,none];have ed:cF (md p g) k=d+1:=lC (by lia) (λm m1 m2=>dz m (by lia)) (.inr (by simpa using d0))
 have c1:=emod_nonneg (g d) (show p≠0 by lia)
 have c2:=emod_lt_of_pos (g d) (show 0<p by lia)
 have c3:0<md p g d:=by
  have:md p g d=g d%p:=rfl
  lia
 have tR:=a68 (c:=md p g d) p2 (p.toNat-2);have ht:=pp.inv _ c3 c2;generalize et:aC6 (md p g d) p (p.toNat-2)=t at tR ht;have bA: ∀j,0<=t*md p g j%p/\t*md p g j%p<p:=λj=>⟨emod_nonneg _ (by lia),emod_lt_of_pos _ (by lia)⟩
 have hc:cF (λj=>t*md p g j%p) (d+1)=d+1:=lC (le_refl _) (λm a b=>by lia) (.inr (by
  show t*md p g d%p≠0
  rw[ht];decide))
 have LA9:=qL (md p f) n;have low:aH (rwF (cF (md p g) k) (md p g))= .tup ((rwF (d+1) (md p g)).map .int):=by rw[ed];rfl
 walk_at "u"
 refine⟨k,g,p,rfl,by lia,by lia,?_⟩
 rw[low];walk_at "u";rw[zE (by lia)]
 walk_at "u"
 refine⟨md p g d,p,rfl,by lia,c2,p2,p9,?_⟩
 rw[et];show jH _ [some (.pu (aH (rwF n f))),some (.pu (aH (rwF k g))),some (.pu (.int p)),some (.pu (aH (rwF (d+1) (md p g)))),some (.pu (.int t)),none,none];unfold jH;walk_at "u";refine⟨n,f,p,rfl,by lia,by lia,?_⟩
 refine⟨d+1,md p g,t,p,rfl,by lia,by lia,by lia,by lia,?_⟩
 rw[hc];refine⟨cF (md p f) n,d,8,8,md p f,λj=>t*md p g j%p,rfl,⟨by lia,by lia,ht,λj hj=>by
  show t*md p g j%p=0
  rw[dz j hj,mul_zero,zero_emod],λm _=>md_nat p2 p9 f m,λj=>by
   have:=bA j;show(t*md p g j%p).natAbs<=256
   lia,by lia,by decide⟩,?_⟩
 have hh:=h t ht tR.1 tR.2;have q9:=qL (divQ (λj=>t*md p g j%p) d (cF (md p f) n-d) (md p f)) (cF (md p f) n-d)
 have r9:=qL (divL (λj=>t*md p g j%p) d (cF (md p f) n-d) (md p f)) (cF (md p f) n)
 simp only[]at hh;walk_at "u";refine⟨by simp,by simp,trivial,?_⟩
 unfold pK;walk_at "u";refine⟨_,_,t,p,rfl,by lia,by lia,by lia,by lia,?_⟩
 refine⟨_,_,p,rfl,by lia,by lia,?_⟩
 walk_at "u"
 exact⟨by decide,hh⟩
def prB (i k:Nat):Bool:=if(2:Int)+(i:Int)=2+(k:Int)then true else !decide (((2:Int)+(i:Int))%(2+(k:Int))=0)
def prC (i:Nat):Bool:=((List.range 13).map (prB i)).all id
def prL:List Int:=((List.range 198).filter prC).map λi:Nat=>(2:Int)+(i:Int)
theorem aT5 {c p:Nat}(hp:2<=p): ∀n,aC6 (c:Int) (p:Int) n=((c^n%p:Nat):Int)
 | 0=>by
  show(1:Int)=_
  rw[Nat.pow_zero,Nat.mod_eq_of_lt (by lia)]
  rfl
 | n+1=>by
  show aC6 (c:Int) (p:Int) n*(c:Int)%(p:Int)=_
  rw[aT5 hp n,<-Int.natCast_mul,<-Int.natCast_emod,pow_succ,Nat.mod_mul_mod]
theorem pr_all:prL.all (λp=>decide (2<=p)&&decide (p<200)&&(List.range p.toNat).all λc=>decide (c=0)||decide (c^(p.toNat-2)%p.toNat*c%p.toNat=1))=true:=by decide +kernel
theorem a70 {p:Int}(h:p∈prL):Pr p:=by
 have h1:=List.all_eq_true.mp pr_all p h;simp only[and_eq_true,decide_eq_true_eq,all_eq_true,List.mem_range,Bool.or_eq_true]at h1;obtain⟨⟨a,b⟩,c⟩:=h1;refine⟨a,b,λx x0 x1=> ?_⟩
 obtain⟨q,rfl⟩: ∃q:Nat,p=(q:Int):=⟨p.toNat,by lia⟩
 obtain⟨y,rfl⟩: ∃y:Nat,x=(y:Int):=⟨x.toNat,by lia⟩
 have h2:=c y (by lia)
 rw[toNat_natCast]at h2⊢;rw[aT5 (by lia),<-Int.natCast_mul,<-Int.natCast_emod]
 rcases h2 with h2|h2
 ·lia
 ·rw[h2];rfl
def T_SMALL_PRIMES:List Int:=[2,3,5,7,11,13,17,19,23,29,31,37,41,43,47,53,59,61,67,71,73,79,83,89,97,101,103,107,109,113,127,131,137,139,149,151,157,163,167,173,179,181,191,193,197,199]
theorem tp_ok: ∀p∈T_SMALL_PRIMES,2<=p/\p<200:=by decide +kernel
theorem aM9:T_SMALL_PRIMES.length=46:=rfl
def dU:Φ:=λds Q=>ds=[]/\Q (.ow (T_SMALL_PRIMES.map .int))
def iR:US:=(bQ (aI a14 (a6 (uC (.tup (T_SMALL_PRIMES.map .int))) aE)))
theorem vJ: ∀ds Q,dU ds Q->ds.length=0:=by rintro ds Q ⟨rfl,_⟩;rfl
theorem wW: ∀ds Q,dU ds Q->iR {nx:=λ_=>Q (.pu .non),rt:=Q} (init [] ds):=by
 rintro ds Q ⟨rfl,h⟩;unfold iR;show(bQ _:US) _ [];walk_at "u";exact h
theorem bL8:prL=T_SMALL_PRIMES:=by decide +kernel
def ps (f:Nat->Int)(z:Int):Nat->Int
 | 0=>0
 | n+1=>ps f z n+f n*z^n
def hor (f:Nat->Int)(n:Nat)(z:Int):Nat->Int
 | 0=>0
 | k+1=>hor f n z k*z+f (n-1-k)
theorem bL9 (f:Nat->Int)(n:Nat)(z:Int): ∀k,k<=n->hor f n z k*z^(n-k)+ps f z (n-k)=ps f z n
 | 0,_=>by show(0:Int)*_+_=_;rw[zero_mul,zero_add];rfl
 | k+1,h=>by
  have ih:=bL9 f n z k (by lia)
  obtain⟨m,hm⟩: ∃m,n-k=m+1:=⟨n-k-1,by lia⟩
  have e1:n-(k+1)=m:=by lia
  have e2:n-1-k=m:=by lia
  rw[hm]at ih;show(hor f n z k*z+f (n-1-k))*z^(n-(k+1))+ps f z (n-(k+1))=_;rw[e1,e2,<-ih];show _=hor f n z k*z^(m+1)+(ps f z m+f m*z^m);rw[Int.pow_succ,add_mul];have e3:hor f n z k*z*z^m=hor f n z k*(z^m*z):=by rw[mul_assoc,Int.mul_comm z]
  lia
theorem bX6 (f:Nat->Int)(n:Nat)(z:Int):hor f n z n=ps f z n:=by
 have:=bL9 f n z n (le_refl _);rw[sub_self]at this;have e:hor f n z n*z^0+ps f z 0=hor f n z n:=by
  show hor f n z n*z^0+0=_
  rw[pow_zero,mul_one,add_zero]
 lia
theorem aH5 {f:Nat->Int}{n a b:Nat}{z:Int}(hf: ∀j,(f j).natAbs<=2^a)(hz:z.natAbs<=2^b): ∀k,(hor f n z k).natAbs<=2^(a+(b+1)*k)
 | 0=>by simp[hor]
 | k+1=>by
  show(hor f n z k*z+f (n-1-k)).natAbs<=_
  have ih:=aH5 (n:=n) hf hz k;have h1:(hor f n z k*z).natAbs<=2^(a+(b+1)*k)*2^b:=by rw[natAbs_mul];exact mul_le_mul ih hz
  have h2:=hf (n-1-k);have h3:=Int.natAbs_add_le (hor f n z k*z) (f (n-1-k));have e1:2^(a+(b+1)*(k+1))=2^(a+(b+1)*k)*2^b+2^(a+(b+1)*k)*2^b:=by
   rw[mul_succ,<-add_assoc,<-add_assoc,pow_succ,pow_add 2 (a+(b+1)*k) b];lia
  have h4:2^a<=2^(a+(b+1)*k)*2^b:=by
   rw[<-pow_add];exact Nat.pow_le_pow_right (by decide) (by lia)
  lia
theorem bM0 (f g:Nat->Int)(z:Int): ∀n,ps (λj=>f j+g j) z n=ps f z n+ps g z n
 | 0=>rfl
 | n+1=>by
  show ps (λj=>f j+g j) z n+(f n+g n)*z^n=ps f z n+f n*z^n+(ps g z n+g n*z^n)
  rw[bM0 f g z n,add_mul]
  lia
theorem bM1 (c:Int)(f:Nat->Int)(z:Int): ∀n,ps (λj=>c*f j) z n=c*ps f z n
 | 0=>by show(0:Int)=c*0;rw[mul_zero]
 | n+1=>by
  show ps (λj=>c*f j) z n+c*f n*z^n=c*(ps f z n+f n*z^n)
  rw[bM1 c f z n,mul_add,mul_assoc]
theorem aN0 {f:Nat->Int}{z:Int}{n:Nat}: ∀m,n<=m->(∀j,n<=j->j<m->f j=0)->ps f z m=ps f z n
 | 0,h,_=>by rw[show n=0 by lia]
 | m+1,h,hz=>by
  by_cases c:n=m+1
  ·rw[c]
  ·show ps f z m+f m*z^m=_
   rw[hz m (by lia) (by lia),zero_mul,add_zero]
   exact aN0 m (by lia) λj a b=>hz j a (by lia)
theorem aH6 (b:Nat->Int)(z:Int)(U:Nat): ∀n,n<=U->ps (shF b U) z n=0
 | 0,_=>rfl
 | n+1,h=>by
  show ps (shF b U) z n+shF b U n*z^n=0
  rw[aH6 b z U n (by omega)]
  unfold shF;rw[if_neg (by omega),zero_mul]
  rfl
theorem aT6 (b:Nat->Int)(z:Int)(U:Nat): ∀m,ps (shF b U) z (U+m)=z^U*ps b z m
 | 0=>by rw[Nat.add_zero,aH6 b z U U (le_refl _)];show(0:Int)=z^U*0;rw[mul_zero]
 | m+1=>by
  show ps (shF b U) z (U+m)+shF b U (U+m)*z^(U+m)=z^U*(ps b z m+b m*z^m)
  rw[aT6 b z U m];unfold shF;rw[if_pos (by lia),show U+m-U=m by lia,Int.pow_add,mul_add,Int.mul_left_comm]
theorem b49 {u b:Nat->Int}{z:Int}{V:Nat}(hb: ∀j,V<=j->b j=0): ∀U N,U+V<=N->ps (conv u b U) z N=ps u z U*ps b z V
 | 0,N,_=>by
  have:ps (conv u b 0) z N=0:=by
   have e:ps (conv u b 0) z N=ps (conv u b 0) z 0:=aN0 N (zero_le _) λ_ _ _=>rfl
   rw[e];rfl
  rw[this];show(0:Int)=0*_;rw[zero_mul]
 | U+1,N,h=>by
  have e:conv u b (U+1)=λm=>conv u b U m+u U*shF b U m:=rfl
  rw[e,bM0 (conv u b U) (λm=>u U*shF b U m),b49 hb U N (by lia),bM1]
  obtain⟨m,rfl⟩: ∃m,N=U+m:=⟨N-U,by lia⟩
  rw[aT6,aN0 (n:=V) m (by lia) λj a _=>hb j a]
  show _=(ps u z U+u U*z^U)*ps b z V
  rw[add_mul,mul_assoc (u U)]
structure HorOk (n a b:Nat)(f:Nat->Int)(z:Int):Prop where
 fb: ∀j,(f j).natAbs<=2^a
 zb:z.natAbs<=2^b
 room:a+(b+1)*n<8000
 b8:b<8000
 n9:n<=200
def iS:Φ:=λds Q=> ∃(n a b:Nat) (f:Nat->Int) (z:Int),ds=[aH (rwF n f),.int z]/\HorOk n a b f z/\Q (.pu (.int (ps f z n)))
def qM:US:=(aK (b9 2 (uC (.int 0))) (aK (jX (bI2 (a6 (a9 0) aE)) (cE 3) (b9 2 (uOp hJ (uOp fQ (a9 2) (a9 1)) (a9 3)))) (rK 2)))
theorem aC8: ∀ds Q,iS ds Q->ds.length=2:=by rintro ds Q ⟨n,a,b,f,z,rfl,_⟩;rfl
theorem aN1: ∀ds Q,iS ds Q->qM {nx:=λ_=>Q (.pu .non),rt:=Q} (init ["f","z","v","c"] ds):=by
 rintro ds Q ⟨n,a,b,f,z,rfl,ok,h⟩;unfold qM;simp only[aH];show(aK _ _:US) _ [some (.pu (.tup ((rwF n f).map .int))),some (.pu (.int z)),none,none];walk_at "u";refine bG n (λk=>((rwF n f).map D.int).getD (n-1-k) .non) [some (.pu (.tup ((rwF n f).map .int))),some (.pu (.int z)),some (.pu (.int 0)),none] ?_
  (λk ρ=> ∃c,ρ=[some (.pu (.tup ((rwF n f).map .int))),some (.pu (.int z)),some (.pu (.int (hor f n z k))),c]) ⟨none,rfl⟩ ?_ ?_
 ·intro Q' q;walk_at "u";rw[bD];exact q
 ·rintro k ρ hk ⟨c,rfl⟩;rw[wT (by omega)]
  walk_at "u"
  have room:=ok.room;have:(b+1)*k<=(b+1)*n:=Nat.mul_le_mul_left _ (by omega)
  exact⟨by simp,.inr ⟨Sm.pow (aH5 ok.fb ok.zb k) (by omega),Sm.pow ok.zb (by have:=ok.b8;omega)⟩,_,rfl⟩
 ·rintro ρ ⟨c,rfl⟩;walk_at "u";rw[bX6];exact h
theorem b50 (f g:Nat->Int)(n m:Nat):shF (λj=>f j+g j) n m=shF f n m+shF g n m:=by
 unfold shF;dsimp only;split<;>lia
theorem bX7 (c:Int)(f:Nat->Int)(n m:Nat):shF (λj=>c*f j) n m=c*shF f n m:=by
 unfold shF;dsimp only;split
 ·rfl
 ·rw[mul_zero]
theorem shF_sh (h:Nat->Int)(n k m:Nat):shF (shF h n) k m=shF h (n+k) m:=by
 unfold shF
 by_cases c:k<=m
 ·rw[if_pos c]
  by_cases d:n<=m-k
  ·rw[if_pos d,if_pos (by lia),show m-k-n=m-(n+k)by lia]
  ·rw[if_neg d,if_neg (by lia)]
 ·rw[if_neg c,if_neg (by lia)]
theorem aH7 (f g b:Nat->Int)(m:Nat): ∀n,conv (λj=>f j+g j) b n m=conv f b n m+conv g b n m
 | 0=>rfl
 | n+1=>by
  show conv (λj=>f j+g j) b n m+(f n+g n)*shF b n m=conv f b n m+f n*shF b n m+(conv g b n m+g n*shF b n m)
  rw[aH7 f g b m n,add_mul]
  lia
theorem aH8 (c:Int)(f b:Nat->Int)(m:Nat): ∀n,conv (λj=>c*f j) b n m=c*conv f b n m
 | 0=>by show(0:Int)=c*0;rw[mul_zero]
 | n+1=>by
  show conv (λj=>c*f j) b n m+c*f n*shF b n m=c*(conv f b n m+f n*shF b n m)
  rw[aH8 c f b m n,mul_add,mul_assoc]
theorem aT7 (f b:Nat->Int)(k m:Nat): ∀n,conv (shF f k) b (k+n) m=shF (conv f b n) k m
 | 0=>by
  have e: ∀j,j<=k->conv (shF f k) b j m=0:=by
   intro j
   induction j with
   | zero=>intro _;rfl
   | succ j ih=>
    intro hj;show conv (shF f k) b j m+shF f k j*shF b j m=0;rw[ih (by lia)]
    unfold shF;rw[if_neg (by lia),zero_mul]
    rfl
  rw[Nat.add_zero,e k (le_refl _)];unfold shF;split<;>rfl
 | n+1=>by
  show conv (shF f k) b (k+n) m+shF f k (k+n)*shF b (k+n) m=shF (λm=>conv f b n m+f n*shF b n m) k m
  rw[aT7 f b k m n,b50,bX7,shF_sh,add_comm n k]
  congr 2
  unfold shF;rw[if_pos (by lia),show k+n-k=n by lia]
theorem a71 {u b c:Nat->Int}{V:Nat}(hb: ∀j,V<=j->b j=0)(m:Nat): ∀U,conv u (conv b c V) U m=conv (conv u b U) c (U+V) m
 | 0=>by
  have e: ∀n,conv (conv u b 0) c n m=0:=by
   intro n
   induction n with
   | zero=>rfl
   | succ n ih=>
    show conv (conv u b 0) c n m+0*shF c n m=0
    rw[ih,zero_mul];rfl
  rw[e];rfl
 | U+1=>by
  show conv u (conv b c V) U m+u U*shF (conv b c V) U m=conv (λm=>conv u b U m+u U*shF b U m) c (U+1+V) m
  rw[aH7,aH8,a71 hb m U];have z1: ∀j,U+V<=j->j<U+1+V->conv u b U j=0:=λj h1 h2=>by
   have: ∀i,V<i+1->b i=0:=λi hi=>hb i (by lia)
   by_cases v:V=0
   ·subst v;have e:b=λ_=>0:=funext λj=>hb j (zero_le _)
    rw[e];have nul: ∀n,conv u (λ_=>0) n j=0:=by
     intro n
     induction n with
     | zero=>rfl
     | succ n ih=>
      show conv u (λ_=>0) n j+u n*shF (λ_=>0) n j=0
      rw[ih];unfold shF;split<;>rw[mul_zero]<;>rfl
    exact nul U
   ·exact iG (d:=V-1) (λi hi=>hb i (by lia)) U j (by lia)
  rw[wV (u:=conv u b U) (b:=c) (U:=U+V) (U+1+V) z1 (by lia)]
  have z2: ∀j,U+V<=j->j<U+1+V->shF b U j=0:=λj h1 h2=>by
   unfold shF;rw[if_pos (by lia)]
   exact hb _ (by lia)
  rw[wV (u:=shF b U) (b:=c) (U:=U+V) (U+1+V) z2 (by lia),aT7]
theorem yF (u f g:Nat->Int)(m:Nat): ∀n,conv u (λj=>f j+g j) n m=conv u f n m+conv u g n m
 | 0=>rfl
 | n+1=>by
  show conv u (λj=>f j+g j) n m+u n*shF (λj=>f j+g j) n m=conv u f n m+u n*shF f n m+(conv u g n m+u n*shF g n m)
  rw[yF u f g m n,b50,mul_add]
  lia
theorem wX {u:Nat->Int}{n:Nat}(c:Int)(k:Nat)(hu: ∀j,n<=j->u j=0)(m:Nat):conv u (λj=>if j=k then c else 0) n m=c*shF u k m:=by
 have e: ∀n,conv u (λj=>if j=k then c else 0) n m=if k<=m/\m-k<n then c*u (m-k)else 0:=by
  intro n
  induction n with
  | zero=>rw[if_neg (by omega)];rfl
  | succ n ih=>
   show conv u (λj=>if j=k then c else 0) n m+u n*shF (λj=>if j=k then c else 0) n m=_
   have sh:shF (λj=>if j=k then c else 0) n m=if n<=m/\m-n=k then c else 0:=by
    unfold shF;dsimp only
    by_cases h3:n<=m
    ·rw[if_pos h3]
     by_cases h4:m-n=k
     ·rw[if_pos h4,if_pos ⟨h3,h4⟩]
     ·rw[if_neg h4,if_neg (λz=>h4 z.2)]
    ·rw[if_neg h3,if_neg (λz=>h3 z.1)]
   rw[ih,sh]
   by_cases h1:k<=m/\m-k<n
   ·rw[if_pos h1,if_neg (show ¬(n<=m/\m-n=k)by omega),if_pos (show k<=m/\m-k<n+1 by omega),mul_zero,add_zero]
   ·rw[if_neg h1]
    by_cases h2:k<=m/\m-k=n
    ·rw[if_pos (show n<=m/\m-n=k by omega),if_pos (show k<=m/\m-k<n+1 by omega),h2.2,zero_add,Int.mul_comm]
    ·rw[if_neg (show ¬(n<=m/\m-n=k)by omega),if_neg (show ¬(k<=m/\m-k<n+1)by omega),mul_zero]
     rfl
 rw[e n];unfold shF
 by_cases h1:k<=m
 ·rw[if_pos h1]
  by_cases h2:m-k<n
  ·rw[if_pos ⟨h1,h2⟩]
  ·rw[if_neg (by omega),hu _ (by omega),mul_zero]
 ·rw[if_neg h1,if_neg (by omega),mul_zero]
theorem bA1 {u b:Nat->Int}{U V:Nat}(hu: ∀j,U<=j->u j=0)(hb: ∀j,V<=j->b j=0)(m:Nat):conv u b U m=conv b u V m:=by
 have e: ∀n,conv u b n m=conv b (λj=>if j<n then u j else 0) V m:=by
  intro n
  induction n with
  | zero=>
   have:(λj=>if j<0 then u j else 0)=λj=>if j=0 then(0:Int)else 0:=funext λj=>by simp
   rw[this,wX 0 0 hb,zero_mul];rfl
  | succ n ih=>
   have:(λj=>if j<n+1 then u j else 0)=λj=>(if j<n then u j else 0)+(if j=n then u n else 0):=funext λj=>by
    by_cases h1:j<n
    ·rw[if_pos (by lia),if_pos h1,if_neg (by lia),add_zero]
    ·by_cases h2:j=n
     ·subst h2;rw[if_pos (by lia),if_neg h1,if_pos rfl,zero_add]
     ·rw[if_neg (by lia),if_neg h1,if_neg h2];rfl
   rw[this,yF b (λj=>if j<n then u j else 0) (λj=>if j=n then u n else 0),wX _ _ hb,<-ih]
   rfl
 rw[e U]
 congr 1
 funext j
 by_cases h:j<U
 ·rw[if_pos h]
 ·rw[if_neg h,hu j (by lia)]
theorem emL (a b p:Int):a%p*b%p=a*b%p:=by rw[mul_emod,emod_emod,<-mul_emod]
theorem emR (a b p:Int):a*(b%p)%p=a*b%p:=by rw[mul_emod,emod_emod,<-mul_emod]
structure MP (p:Int)(n:Nat)(f:Nat->Int):Prop where
 top:f n=1
 hi: ∀j,n<j->f j=0
 rng: ∀j,0<=f j/\f j<p
theorem MP.z {p:Int}{n:Nat}{f:Nat->Int}(h:MP p n f): ∀j,n+1<=j->f j=0:=λj hj=>h.hi j hj
def tm (p:Int)(a b:Nat×(Nat->Int)):Nat×(Nat->Int):=(a.1+b.1,md p (conv a.2 b.2 (a.1+1)))
theorem aT8 {p:Int}(u b:Nat->Int)(n m:Nat):conv (md p u) b n m%p=conv u b n m%p:=a21 (λi j=>by show u i%p*b j%p=_;rw[emL]) n m
theorem bM2 {p:Int}(u b:Nat->Int)(n m:Nat):conv u (md p b) n m%p=conv u b n m%p:=a21 (λi j=>by show u i*(b j%p)%p=_;rw[emR]) n m
theorem MP.tm {p:Int}{a b:Nat×(Nat->Int)}(hp:2<=p)(ha:MP p a.1 a.2)(hb:MP p b.1 b.2):MP p (M.tm p a b).1 (M.tm p a b).2:=by
 refine⟨?_,λj hj=> ?_,λj=>⟨emod_nonneg _ (by lia),emod_lt_of_pos _ (by lia)⟩⟩
 ·show conv a.2 b.2 (a.1+1) (a.1+b.1)%p=1
  rw[aT3 hb.hi,ha.top,hb.top];exact emod_eq_of_lt (by decide) (by lia)
 ·show conv a.2 b.2 (a.1+1) j%p=0
  have hj':a.1+b.1<j:=hj;rw[iG (d:=b.1) hb.hi (a.1+1) j (by lia),zero_emod]
theorem sW {p:Int}{a b c:Nat×(Nat->Int)}(hb: ∀j,b.1<j->b.2 j=0):tm p a (tm p b c)=tm p (tm p a b) c:=by
 refine Prod.ext (add_assoc _ _ _).symm (funext λm=> ?_)
 show conv a.2 (md p (conv b.2 c.2 (b.1+1))) (a.1+1) m%p=conv (md p (conv a.2 b.2 (a.1+1))) c.2 (a.1+b.1+1) m%p
 rw[bM2,aT8,a71 (V:=b.1+1) (λj hj=>hb j hj) m (a.1+1)]
 rw[wV (u:=conv a.2 b.2 (a.1+1)) (b:=c.2) (U:=a.1+b.1+1) (a.1+1+(b.1+1)) (λj h1 h2=>iG (d:=b.1) hb (a.1+1) j (by lia)) (by lia)]
theorem a22 {p:Int}{a b:Nat×(Nat->Int)}(ha: ∀j,a.1<j->a.2 j=0)(hb: ∀j,b.1<j->b.2 j=0):tm p a b=tm p b a:=by
 refine Prod.ext (add_comm _ _) (funext λm=> ?_)
 show conv a.2 b.2 (a.1+1) m%p=conv b.2 a.2 (b.1+1) m%p
 rw[bA1 (U:=a.1+1) (V:=b.1+1) (λj hj=>ha j hj) (λj hj=>hb j hj)]
def lD:Nat×(Nat->Int):=(0,λj=>if j=0 then 1 else 0)
theorem MP.one {p:Int}(hp:2<=p):MP p lD.1 lD.2:=⟨rfl,λj hj=>if_neg (by have:0<j:=hj;lia),λj=>by show 0<=(if j=0 then(1:Int)else 0)/\(if j=0 then(1:Int)else 0)<p;split<;>lia⟩
theorem bM3 {p:Int}{a:Nat×(Nat->Int)}(ha:MP p a.1 a.2):tm p lD a=a:=by
 refine Prod.ext (Nat.zero_add _) (funext λm=> ?_)
 show(0+(if(0:Nat)=0 then(1:Int)else 0)*shF a.2 0 m)%p=a.2 m
 rw[if_pos rfl,one_mul,zero_add];unfold shF;rw[if_pos (zero_le _),sub_zero];exact emod_eq_of_lt (ha.rng m).1 (ha.rng m).2
def nZ (c:Int):Nat×(Nat->Int):=(1,λj=>if j=0 then c else if j=1 then 1 else 0)
theorem MP.lin {p c:Int}(hp:2<=p)(h0:0<=c)(h1:c<p):MP p (nZ c).1 (nZ c).2:=⟨rfl,λj hj=>by
  have:1<j:=hj;show(if j=0 then c else if j=1 then 1 else 0)=0;rw[if_neg (by lia),if_neg (by lia)],λj=>by
  show 0<=(if j=0 then c else if j=1 then 1 else 0)/\(if j=0 then c else if j=1 then 1 else 0)<p
  split
  ·lia
  ·split<;>lia⟩
def va (p:Int)(a:Nat×(Nat->Int))(z:Int):Int:=ps a.2 z (a.1+1)%p
theorem c09 (p:Int)(f:Nat->Int)(z:Int): ∀n,ps (md p f) z n%p=ps f z n%p
 | 0=>rfl
 | n+1=>by
  show(ps (md p f) z n+f n%p*z^n)%p=(ps f z n+f n*z^n)%p
  rw[add_emod,c09 p f z n,emL,<-add_emod]
theorem va_tm {p:Int}{a b:Nat×(Nat->Int)}(hb: ∀j,b.1<j->b.2 j=0)(z:Int):va p (tm p a b) z=va p a z*va p b z%p:=by
 show ps (md p (conv a.2 b.2 (a.1+1))) z (a.1+b.1+1)%p=ps a.2 z (a.1+1)%p*(ps b.2 z (b.1+1)%p)%p
 rw[c09,<-mul_emod];have h:=b49 (u:=a.2) (b:=b.2) (z:=z) (V:=b.1+1) (λj hj=>hb j hj) (a.1+1) (a.1+1+(b.1+1)) (le_refl _)
 rw[<-h,aN0 (n:=a.1+b.1+1) (a.1+1+(b.1+1)) (by lia) (λj h1 h2=>iG (d:=b.1) hb (a.1+1) j (by lia))]
def hqA (c:Int)(f:Nat->Int)(n:Nat):Nat->Int
 | 0=>f n
 | k+1=>f (n-1-k)-c*hqA c f n k
def hq (c:Int)(f:Nat->Int)(n:Nat):Nat->Int:=λj=>if j<n then hqA c f n (n-1-j)else 0
theorem b51 {c:Int}{f:Nat->Int}{n:Nat}(hf: ∀j,n<j->f j=0)(j:Nat)(hj:1<=j):f j=hq c f n (j-1)+c*hq c f n j:=by
 unfold hq
 by_cases h1:j<n
 ·rw[if_pos (show j-1<n by lia),if_pos h1,show n-1-(j-1)=(n-1-j)+1 by lia]
  show f j=f (n-1-(n-1-j))-c*hqA c f n (n-1-j)+c*hqA c f n (n-1-j)
  rw[show n-1-(n-1-j)=j by lia]
  lia
 ·by_cases h2:j=n
  ·subst h2;rw[if_pos (show j-1<j by lia),if_neg h1,show j-1-(j-1)=0 by lia,mul_zero,add_zero]
   rfl
  ·rw[if_neg (show ¬j-1<n by lia),if_neg h1,hf j (by lia),mul_zero]
   rfl
theorem c12 {c:Int}{f:Nat->Int}{n:Nat}(hf: ∀j,n<j->f j=0): ∀m,ps f (-c) (m+1)=f 0-c*hq c f n 0+c*hq c f n m*(-c)^m
 | 0=>by
  show 0+f 0*(-c)^0=_
  rw[pow_zero,mul_one,mul_one]
  lia
 | m+1=>by
  show ps f (-c) (m+1)+f (m+1)*(-c)^(m+1)=_
  rw[c12 hf m,b51 (c:=c) hf (m+1) (by lia),add_sub_cancel,Int.pow_succ]
  grind
theorem hq_at {c:Int}{f:Nat->Int}{n:Nat}(hf: ∀j,n<j->f j=0):ps f (-c) (n+1)=f 0-c*hq c f n 0:=by
 rw[c12 hf n];have:hq c f n n=0:=by unfold hq;rw[if_neg (lt_irrefl _)]
 rw[this,mul_zero,zero_mul,add_zero]
theorem bM4 {u:Nat->Int}{n:Nat}(c:Int)(hu: ∀j,n<=j->u j=0)(m:Nat):conv u (nZ c).2 n m=c*u m+(if m=0 then 0 else u (m-1)):=by
 have e:(nZ c).2=λj=>(if j=0 then c else 0)+(if j=1 then 1 else 0):=funext λj=>by
  show(if j=0 then c else if j=1 then 1 else 0)=_
  by_cases h0:j=0
  ·subst h0;simp
  ·rw[if_neg h0,if_neg h0,zero_add]
 rw[e,yF u (λj=>if j=0 then c else 0) (λj=>if j=1 then 1 else 0),wX c 0 hu,wX 1 1 hu,one_mul]
 unfold shF;rw[if_pos (zero_le _),sub_zero]
 congr 1
 by_cases h0:m=0
 ·rw[if_pos h0,if_neg (by lia)]
 ·rw[if_neg h0,if_pos (by lia)]
theorem bX8 {c:Int}{f:Nat->Int}{n:Nat}(hf: ∀j,n<j->f j=0)(m:Nat):f m=conv (hq c f n) (nZ c).2 n m+(if m=0 then f 0-c*hq c f n 0 else 0):=by
 rw[bM4 c (λj hj=>by unfold hq;rw[if_neg (by lia)])]
 by_cases h0:m=0
 ·subst h0;rw[if_pos rfl,if_pos rfl];lia
 ·rw[if_neg h0,if_neg h0,b51 (c:=c) hf m (by lia)];lia
def powT (p:Int)(a g:Nat×(Nat->Int)):Nat->Nat×(Nat->Int)
 | 0=>a
 | k+1=>tm p (powT p a g k) g
theorem MP.powT {p:Int}{a g:Nat×(Nat->Int)}(hp:2<=p)(ha:MP p a.1 a.2)(hg:MP p g.1 g.2): ∀k,MP p (M.powT p a g k).1 (M.powT p a g k).2
 | 0=>ha
 | k+1=>MP.tm hp (MP.powT hp ha hg k) hg
theorem wY (p:Int)(a g:Nat×(Nat->Int)): ∀k,(powT p a g k).1=a.1+g.1*k
 | 0=>rfl
 | k+1=>by
  show(powT p a g k).1+g.1=_
  rw[wY p a g k,mul_succ,add_assoc]
def allT (p:Int)(a:Nat×(Nat->Int)):List ((Nat×(Nat->Int))×Nat)->Nat×(Nat->Int)
 | []=>a
 | x::l=>allT p (powT p a x.1 x.2) l
theorem nM (p:Int): ∀(l m:List ((Nat×(Nat->Int))×Nat)) (a:Nat×(Nat->Int)),allT p a (l++m)=allT p (allT p a l) m
 | [],m,a=>rfl
 | x::l,m,a=>nM p l m _
theorem MP.allT {p:Int}(hp:2<=p): ∀(l:List ((Nat×(Nat->Int))×Nat)) {a:Nat×(Nat->Int)},MP p a.1 a.2->(∀x∈l,MP p x.1.1 x.1.2)->MP p (M.allT p a l).1 (M.allT p a l).2
 | [],a,ha,_=>ha
 | x::l,a,ha,h=>MP.allT hp l (MP.powT hp ha (h x (.head _)) x.2) λy hy=>h y (.tail _ hy)
theorem aT9 (p:Int): ∀(l:List ((Nat×(Nat->Int))×Nat)) (a:Nat×(Nat->Int)) (x:(Nat×(Nat->Int))×Nat),x∈l->a.1+x.1.1*x.2<=(allT p a l).1
 | y::l,a,x,hx=>by
  show _<=(allT p (powT p a y.1 y.2) l).1
  have mono: ∀(l:List ((Nat×(Nat->Int))×Nat)) (a:Nat×(Nat->Int)),a.1<=(allT p a l).1:=by
   intro l
   induction l with
   | nil=>intro a;exact le_refl _
   | cons z l ih=>intro a;exact le_trans (by rw[wY];lia) (ih (powT p a z.1 z.2))
  rcases List.mem_cons.mp hx with rfl|hx
  ·have:=mono l (powT p a x.1 x.2);rw[wY]at this;exact this
  ·have:=aT9 p l (powT p a y.1 y.2) x hx;rw[wY]at this
   lia
def sX (x:(Nat×(Nat->Int))×Nat):D:= .tup [aH (rwF (x.1.1+1) x.1.2),.int (x.2:Int)]
def lnP (x:Int×Nat):(Nat×(Nat->Int))×Nat:=(nZ x.1,x.2)
structure LK (p:Int)(F:Nat×(Nat->Int))(C:Nat)(cs:List (Int×Nat))(L:Nat×(Nat->Int)):Prop where
 prod:F=tm p (allT p lD (cs.map lnP)) L
 mp:MP p L.1 L.2
 asc:cs.Pairwise λa b=>a.1<b.1
 mem: ∀x∈cs,0<=x.1/\x.1< (C:Int)/\1<=x.2
 nr: ∀c:Nat,c<C->va p L (-(c:Int))≠0
 len:cs.length<=C
theorem b52 {p:Int}(hp:2<=p){cs:List (Int×Nat)}(h: ∀x∈cs,0<=x.1/\x.1<p): ∀y∈cs.map lnP,MP p y.1.1 y.1.2:=by
 intro y hy;obtain⟨x,hx,rfl⟩:=List.mem_map.mp hy;exact MP.lin hp (h x hx).1 (h x hx).2
def iT:Φ:=λds Q=> ∃(n:Nat) (f:Nat->Int) (p:Int),ds=[aH (rwF (n+1) f),.int p]/\n<=40/\Pr p/\MP p n f/\ ∀cs L,LK p (n,f) p.toNat cs L->Q (.pu (.tup [.lst (cs.map λx=>sX (lnP x)),aH (rwF (L.1+1) L.2)]))
def rP:US:=(bQ (eC (a6 (a9 2) (a6 (a9 3) aE))))
def rQ:US:=(aK (jX (jY (a6 (a9 1) aE)) (cE 4) (aK (b9 5 (uC (.int 0))) (aK (aK3 (bY (uOp (iK false) (uOp n5 (aI iS (a6 (a9 3) (a6 (vE (a9 4)) aE))) (a9 1)) (uC (.int 0)))) (aK (b9 3 (uIx (uV (aI gT (a6 (a9 3) (a6 (eC (a6 (a9 4) (a6 (uC (.int 1)) aE))) (a6 (a9 1) aE))))) (uC (.int 0)))) (aQ8 5 (gI2 λi j Q=>Q (.pu (.int (i+j)))) (uC (.int 1))))) (eW (bY (uOp (nW λi j=>decide (j<i)) (a9 5) (uC (.int 0)))) (aB7 2 (eC (a6 (eC (a6 (a9 4) (a6 (uC (.int 1)) aE))) (a6 (a9 5) aE)))) cN)))) rP)
def rR:US:=(aK (b9 3 (a9 0)) rQ)
def mE:US:=(aK (b9 2 (iL aE)) rR)
theorem a00: ∀ds Q,iT ds Q->ds.length=2:=by rintro ds Q ⟨n,f,p,rfl,_⟩;rfl
theorem bM5 {p:Int}(pp:Pr p){L:Nat×(Nat->Int)}(mp:MP p L.1 L.2){c:Int}(c0:0<=c)(c1:c<p)(hz:va p L (-c)=0){t:Int}(ht:t*md p (nZ c).2 1%p=1)(t0:0<=t)(t1:t<p) :
  1<=L.1/\ ∃u:Nat->Int,MP p (L.1-1) u/\L=tm p (L.1-1,u) (nZ c)/\
   (let b:=λj=>t*md p (nZ c).2 j%p
    let LA:=cF (md p L.2) (L.1+1)
    let q:=divQ b 1 (LA-1) (md p L.2)
    rwF (cF (λj=>t*q j%p) (cF q (LA-1))) (λj=>t*q j%p)=rwF L.1 u):=by
 have p2:=pp.lo;have mdL:md p L.2=L.2:=funext λj=>emod_eq_of_lt (mp.rng j).1 (mp.rng j).2
 have ml:=MP.lin p2 c0 c1;have mdG:md p (nZ c).2=(nZ c).2:=funext λj=>emod_eq_of_lt (ml.rng j).1 (ml.rng j).2
 have l1:1<=L.1:=by
  refine Nat.pos_of_ne_zero λz=> ?_
  unfold va at hz;rw[z]at hz;have e:ps L.2 (-c) (0+1)=L.2 0*(-c)^0:=by show 0+L.2 0*(-c)^0=_;lia
  have e2:L.2 0=1:=by have:=mp.top;rw[z]at this;exact this
  rw[e,e2,pow_zero,mul_one,emod_eq_of_lt (by decide) (by lia)]at hz
  cases hz
 have r0:(L.2 0-c*hq c L.2 L.1 0)%p=0:=by rw[<-hq_at mp.hi];exact hz
 have fm: ∀m,L.2 m=conv (md p (hq c L.2 L.1)) (nZ c).2 L.1 m%p:=λm=>by
  have h:=bX8 (c:=c) mp.hi m;rw[aT8];have e:L.2 m%p=L.2 m:=emod_eq_of_lt (mp.rng m).1 (mp.rng m).2;rw[<-e]
  conv=>lhs;rw[h]
  by_cases h0:m=0
  ·rw[if_pos h0,add_emod,r0,add_zero,emod_emod]
  ·rw[if_neg h0,add_zero]
 have ut:md p (hq c L.2 L.1) (L.1-1)=1:=by
  show hq c L.2 L.1 (L.1-1)%p=1
  unfold hq;rw[if_pos (by lia),sub_self]
  show L.2 L.1%p=1
  rw[mp.top];exact emod_eq_of_lt (by decide) (by lia)
 have uz: ∀j,L.1<=j->md p (hq c L.2 L.1) j=0:=λj hj=>by
  show hq c L.2 L.1 j%p=0
  unfold hq;rw[if_neg (by lia),zero_emod]
 have ur: ∀j,0<=md p (hq c L.2 L.1) j/\md p (hq c L.2 L.1) j<p:=λj=>⟨emod_nonneg _ (by lia),emod_lt_of_pos _ (by lia)⟩
 refine⟨l1,md p (hq c L.2 L.1),⟨ut,λj hj=>uz j (by lia),ur⟩,?_,?_⟩
 ·refine Prod.ext (show L.1=L.1-1+1 by lia) (funext λm=> ?_)
  show L.2 m=conv (md p (hq c L.2 L.1)) (nZ c).2 (L.1-1+1) m%p
  rw[show L.1-1+1=L.1 by lia]
  exact fm m
 ·have mm:=bL7 (p:=p) (t:=t) (B0:=md p (nZ c).2) (u:=md p (hq c L.2 L.1)) (low:=λ_=>0) (A:=md p L.2) (d:=1) (U:=L.1) (n:=L.1+1) p2 (λj hj=>by rw[mdG];exact ml.hi j hj) (.inr (by rw[ut];decide)) ur uz (λ_ _=>rfl) (λ_=>⟨by decide,by lia⟩) ht (λm=>by rw[mdL,mdG,add_zero];exact fm m) (le_refl _)
  obtain⟨_,e1,_,_⟩:=mm;have eLA:cF (md p L.2) (L.1+1)=L.1+1:=lC (le_refl _) (λm h1 h2=>by lia) (.inr (by rw[mdL,add_sub_cancel,mp.top];decide))
  rw[eLA]at e1⊢;have eu:(λj=>t*divQ (λj=>t*md p (nZ c).2 j%p) 1 (L.1+1-1) (md p L.2) j%p)=md p (hq c L.2 L.1):=funext e1
  dsimp only;rw[eu];have eq:cF (divQ (λj=>t*md p (nZ c).2 j%p) 1 (L.1+1-1) (md p L.2)) (L.1+1-1)=L.1:=by
   rw[add_sub_cancel];refine lC (le_refl _) (λm h1 h2=>by lia) (.inr λz=> ?_)
   have h:=e1 (L.1-1);rw[add_sub_cancel]at h;rw[z,mul_zero,zero_emod,ut]at h;cases h
  rw[eq,lC (k:=L.1) (le_refl _) (λm h1 h2=>by lia) (.inr (by rw[ut];decide))]
theorem bM6 {p:Int}{a b:Nat×(Nat->Int)}(hb: ∀j,b.1<j->b.2 j=0){z:Int}(h:va p (tm p a b) z≠0):va p a z≠0/\va p b z≠0:=by
 rw[va_tm hb]at h;refine⟨λe=>h ?_,λe=>h ?_⟩
 ·rw[e,zero_mul,zero_emod]
 ·rw[e,mul_zero,zero_emod]
theorem bM7 {p:Int}(pp:Pr p){n:Nat}{f:Nat->Int}(h:MP p n f)(j:Nat):(f j).natAbs<=2^8:=by
 have h1:=h.rng j;have h2:=pp.hi;have:(2:Nat)^8=256:=rfl
 lia
theorem a72: ∀ds Q,iT ds Q->mE {nx:=λ_=>Q (.pu .non),rt:=Q} (init ["f","p","a","l","c","o"] ds):=by
 rintro ds Q ⟨n,f,p,rfl,n4,pp,mp,h⟩;have p2:=pp.lo;have p3:=pp.hi;unfold mE;show(aK _ _:US) _ [some (.pu (aH (rwF (n+1) f))),some (.pu (.int p)),none,none,none,none];rw[aO];walk_at "u";refine⟨by decide,?_⟩
 unfold rR;rw[aO];walk_at "u";unfold rQ;rw[aO];refine bG p.toNat (λi=> .int (0+i)) [some (.pu (aH (rwF (n+1) f))),some (.pu (.int p)),some (.ow []),some (.pu (aH (rwF (n+1) f))),none,none] ?_
  (λi ρ=> ∃(cs:List (Int×Nat)) (L:Nat×(Nat->Int)) (x y:Option B),ρ=[some (.pu (aH (rwF (n+1) f))),some (.pu (.int p)),some (.ow (cs.map λx=>sX (lnP x))),some (.pu (aH (rwF (L.1+1) L.2))),x,y]/\LK p (n,f) i cs L)
  ⟨[],(n,f),none,none,rfl,(bM3 (p:=p) (a:=(n,f)) mp).symm,mp,.nil,(by simp),(by simp),le_refl _⟩ ?_ ?_
 ·intro Q' q;walk_at "u";refine⟨⟨by lia,by lia⟩,?_⟩
  exact q
 ·rintro i ρ hi ⟨cs,L,x,y,rfl,lk⟩;have hLn:L.1<=n:=by
   have:=congrArg Prod.fst lk.prod;have e:n=(allT p lD (cs.map lnP)).1+L.1:=this
   lia
  have mcs:=b52 p2 (cs:=cs) (λx hx=>⟨(lk.mem x hx).1,by have:=(lk.mem x hx).2.1;lia⟩)
  have mA:=MP.allT p2 (cs.map lnP) (MP.one p2) mcs;have mlin:=MP.lin p2 (c:=(i:Int)) (by lia) (by lia)
  rw[zero_add];walk_at "u";refine⟨by simp,?_⟩
  refine⟨λk ρ=> ∃(o:Nat) (L':Nat×(Nat->Int)),ρ=[some (.pu (aH (rwF (n+1) f))),some (.pu (.int p)),some (.ow (cs.map λx=>sX (lnP x))),some (.pu (aH (rwF (L'.1+1) L'.2))),some (.pu (.int (i:Int))),some (.pu (.int (o:Int)))]/\k=L'.1/\L'.1<=n/\(n,f)=tm p (powT p (allT p lD (cs.map lnP)) (nZ (i:Int)) o) L'/\MP p L'.1 L'.2/\ ∀c:Nat,c<i->va p L' (-(c:Int))≠0,⟨L.1,0,L,rfl,rfl,hLn,lk.prod,lk.mp,lk.nr⟩,?_⟩
  rintro k ρ ⟨o,L',rfl,rfl,hL',e,mp',nr⟩;walk_at "u";refine⟨L'.1+1,8,8,L'.2,-(i:Int),rfl,⟨bM7 pp mp',by have:(2:Nat)^8=256:=rfl;lia,by lia,by decide,by lia⟩,?_⟩
  walk_at "u"
  refine⟨by lia,?_⟩
  rw[cI _ (by lia)]
  by_cases c:va p L' (-(i:Int))=0
  ·rw[if_pos (show ps L'.2 (-(i:Int)) (L'.1+1)%p=0 from c)]
   refine⟨by decide,L'.1+1,2,1,L'.2,(nZ (i:Int)).2,p,rfl,by lia,by decide,pp,λj hj=>mlin.hi j hj,by decide,λj hj=>by show(nZ (i:Int)).2 j%p=0;rw[mlin.hi j hj,zero_emod],by show(1:Int)%p≠0;rw[emod_eq_of_lt (by decide) (by lia)];decide,λt ht t0 t1=> ?_⟩
   obtain⟨l1,u,mu,eu,er⟩:=bM5 pp mp' (c:=(i:Int)) (by lia) (by lia) c ht t0 t1
   dsimp only at er⊢;rw[er,bK5];dsimp only;have eL:rwF L'.1 u=rwF (L'.1-1+1) u:=by rw[show L'.1-1+1=L'.1 by lia]
   rw[eL];refine⟨L'.1-1,by lia,o+1,(L'.1-1,u),by rw[Int.natCast_succ],rfl,by show L'.1-1<=n;lia,?_,mu,λc' hc'=> ?_⟩
   ·show(n,f)=tm p (tm p (powT p (allT p lD (cs.map lnP)) (nZ (i:Int)) o) (nZ (i:Int))) (L'.1-1,u)
    rw[e]
    conv=>lhs;rw[eu]
    rw[a22 (a:=(L'.1-1,u)) (λj hj=>mu.hi j hj) mlin.hi,sW mlin.hi]
   ·have:=nr c' hc';rw[eu]at this;exact(bM6 mlin.hi this).1
  ·rw[if_neg (show ¬ps L'.2 (-(i:Int)) (L'.1+1)%p=0 from c)]
   have nr': ∀c:Nat,c<i+1->va p L' (-(c:Int))≠0:=λc' hc'=>by
    by_cases h1:c'<i
    ·exact nr c' h1
    ·rw[show c'=i by lia];exact c
   by_cases c2:(0:Int)< (o:Int)
   ·rw[if_pos c2];refine⟨by decide,by decide,?_,cs++[((i:Int),o)],L',_,_,by rw[map_append];rfl,?_,mp',?_,?_,nr',?_⟩
    ·rw[length_map];exact lt_of_le_of_lt lk.len (lt_of_lt_of_le hi (le_trans (show p.toNat<=200 by lia) (by decide)))
    ·rw[map_append,nM];exact e
    ·rw[List.pairwise_append];refine⟨lk.asc,pairwise_singleton _ _,λa ha b hb=> ?_⟩
     rw[List.mem_singleton.mp hb];exact(lk.mem a ha).2.1
    ·intro z hz;rcases List.mem_append.mp hz with hz|hz
     ·have:=lk.mem z hz;exact⟨this.1,by lia,this.2.2⟩
     ·rw[List.mem_singleton.mp hz];exact⟨by show(0:Int)<=(i:Int);lia,by show(i:Int)< ((i+1:Nat):Int);lia,by show 1<=o;lia⟩
    ·rw[length_append];exact Nat.succ_le_succ lk.len
   ·rw[if_neg c2];have o0:o=0:=by lia
    subst o0;exact⟨cs,L',_,_,rfl,e,mp',lk.asc,λz hz=>⟨(lk.mem z hz).1,by have:=(lk.mem z hz).2.1;lia,(lk.mem z hz).2.2⟩,nr',Nat.le_succ_of_le lk.len⟩
 ·rintro ρ ⟨cs,L,x,y,rfl,lk⟩;dsimp only;unfold rP;walk_at "u";exact⟨by decide,h cs L lk⟩
def quF (v u:Int):Nat×(Nat->Int):=(2,λj=>if j=0 then v else if j=1 then u else if j=2 then 1 else 0)
theorem MP.qu {p v u:Int}(hp:2<=p)(v0:0<=v)(v1:v<p)(u0:0<=u)(u1:u<p):MP p (quF v u).1 (quF v u).2:=⟨rfl,λj hj=>by
  have:2<j:=hj;show(if j=0 then v else if j=1 then u else if j=2 then 1 else 0)=0;rw[if_neg (by lia),if_neg (by lia),if_neg (by lia)],λj=>by
  show 0<=(if j=0 then v else if j=1 then u else if j=2 then 1 else 0)/\(if j=0 then v else if j=1 then u else if j=2 then 1 else 0)<p
  split
  ·lia
  ·split
   ·lia
   ·split<;>lia⟩
theorem bX9 (v u w s:Int):conv (quF v u).2 (quF w s).2 3 0=v*w/\conv (quF v u).2 (quF w s).2 3 1=v*s+u*w/\conv (quF v u).2 (quF w s).2 3 2=v+u*s+w/\conv (quF v u).2 (quF w s).2 3 3=u+s:=by
 refine⟨?_,?_,?_,?_⟩<;>simp[conv,shF,quF]
theorem c13 {p:Int}{f:Nat->Int}(mp:MP p 4 f){v u w s:Int}(m1:MP p (quF v u).1 (quF v u).2)(m2:MP p (quF w s).1 (quF w s).2)(hp:2<=p) :
  ((4,f):Nat×(Nat->Int))=tm p (quF v u) (quF w s)↔f 0=v*w%p/\f 1=(v*s+u*w)%p/\f 2=(v+u*s+w)%p/\f 3=(u+s)%p:=by
 obtain⟨e0,e1,e2,e3⟩:=bX9 v u w s;have mt:=MP.tm hp m1 m2;constructor
 ·intro e;have h: ∀m,f m=conv (quF v u).2 (quF w s).2 3 m%p:=λm=>congrFun (congrArg Prod.snd e) m
  exact⟨by rw[h 0,e0],by rw[h 1,e1],by rw[h 2,e2],by rw[h 3,e3]⟩
 ·rintro⟨h0,h1,h2,h3⟩;refine Prod.ext rfl (funext λm=> ?_)
  show f m=conv (quF v u).2 (quF w s).2 3 m%p
  match m with
  | 0=>rw[h0,e0]
  | 1=>rw[h1,e1]
  | 2=>rw[h2,e2]
  | 3=>rw[h3,e3]
  | 4=>exact mp.top.trans mt.top.symm
  | m+5=>exact(mp.hi _ (by lia)).trans (mt.hi (m+5) (show 2+2<m+5 by lia)).symm
def NoQ (p:Int)(F:Nat×(Nat->Int)):Prop:= ∀v u w s:Int,0<=v->v<p->0<=u->u<p->0<=w->w<p->0<=s->s<p->F≠tm p (quF v u) (quF w s)
def gU:Φ:=λds Q=> ∃(f:Nat->Int) (p:Int),ds=[aH (rwF 5 f),.int p]/\Pr p/\MP p 4 f/\
 (∀v u w s:Int,0<=v->v<p->0<=u->u<p->0<=w->w<p->0<=s->s<p->((4,f):Nat×(Nat->Int))=tm p (quF v u) (quF w s)->Q (.ow [aH [v,u,1],aH [w,s,1]]))/\(NoQ p (4,f)->Q (.ow []))
def pL:US:=(bQ (iL aE))
def kL:US:=(aK (jX (jY (a6 (a9 1) aE)) (cE 2) (aK (b9 3 (uOp n5 (uOp M.gSub (uIx (aN 0) (uC (.int 3))) (a9 2)) (a9 1))) (aK (b9 4 (uOp M.gSub (uIx (aN 0) (uC (.int 2))) (uOp fQ (a9 2) (a9 3)))) (jX (jY (a6 (a9 1) aE)) (cE 5) (aK (b9 6 (uOp n5 (uOp M.gSub (a9 4) (a9 5)) (a9 1))) (eW (aY2 (bY (uOp (iK false) (uOp n5 (uOp fQ (a9 5) (a9 6)) (a9 1)) (uIx (aN 0) (uC (.int 0))))) (bY (uOp (iK false) (uOp n5 (uOp hJ (uOp fQ (a9 2) (a9 6)) (uOp fQ (a9 5) (a9 3))) (a9 1)) (uIx (aN 0) (uC (.int 1)))))) (bQ (iL (a6 (eC (a6 (a9 5) (a6 (a9 2) (a6 (uC (.int 1)) aE)))) (a6 (eC (a6 (a9 6) (a6 (a9 3) (a6 (uC (.int 1)) aE)))) aE)))) cN)))))) pL)
theorem yG: ∀ds Q,gU ds Q->ds.length=2:=by rintro ds Q ⟨f,p,rfl,_⟩;rfl
def bA2 (p:Int)(f:Nat->Int)(u v:Int):Prop:=v*((f 2-u*((f 3-u)%p)-v)%p)%p=f 0/\(u*((f 2-u*((f 3-u)%p)-v)%p)+v*((f 3-u)%p))%p=f 1
theorem aU0 {p a b x:Int}(h0:0<=a)(h1:a<p)(h:x=(a+b)%p):(x-b)%p=a:=by
 rw[h,sub_emod,emod_emod,<-sub_emod,Int.add_sub_cancel];exact emod_eq_of_lt h0 h1
theorem a01: ∀ds Q,gU ds Q->kL {nx:=λ_=>Q (.pu .non),rt:=Q} (init ["f","p","u","s","t","v","w"] ds):=by
 rintro ds Q ⟨f,p,rfl,pp,mp,yes,no⟩;have p2:=pp.lo;have p3:=pp.hi;have a0:atI ((rwF 5 f).map D.int) 0=some (.int (f 0)):=qK (i:=0) (by decide)
 have a1:atI ((rwF 5 f).map D.int) 1=some (.int (f 1)):=qK (i:=1) (by decide)
 have a2:atI ((rwF 5 f).map D.int) 2=some (.int (f 2)):=qK (i:=2) (by decide)
 have a3:atI ((rwF 5 f).map D.int) 3=some (.int (f 3)):=qK (i:=3) (by decide)
 unfold kL;simp only[aH];show(aK _ _:US) _ [some (.pu (.tup ((rwF 5 f).map .int))),some (.pu (.int p)),none,none,none,none,none];rw[aO];refine bG p.toNat (λi=> .int (0+i)) [some (.pu (.tup ((rwF 5 f).map .int))),some (.pu (.int p)),none,none,none,none,none] ?_
  (λi ρ=> ∃x y z a b,ρ=[some (.pu (.tup ((rwF 5 f).map .int))),some (.pu (.int p)),x,y,z,a,b]/\ ∀u v:Nat,u<i->v<p.toNat-> ¬bA2 p f (u:Int) (v:Int))
  ⟨none,none,none,none,none,rfl,λu v hu=>by lia⟩ ?_ ?_
 ·intro Q' q;walk_at "u";refine⟨⟨by lia,by lia⟩,?_⟩
  exact q
 ·rintro i ρ hi ⟨x,y,z,a,b,rfl,nh⟩;rw[zero_add];walk_at "u";rw[a3];dsimp only;refine⟨by simp,by lia,?_⟩
  rw[cI _ (by lia),a2]
  dsimp only;have s0:=emod_nonneg (f 3-(i:Int)) (show p≠0 by lia)
  have s1:=emod_lt_of_pos (f 3-(i:Int)) (show 0<p by lia)
  generalize hS:(f 3-(i:Int))%p=S at *;refine⟨cmL (by lia) (by lia),?_⟩
  refine bG p.toNat (λi=> .int (0+i)) [some (.pu (.tup ((rwF 5 f).map .int))),some (.pu (.int p)),some (.pu (.int (i:Int))),some (.pu (.int S)),some (.pu (.int (f 2-(i:Int)*S))),a,b] ?_
   (λj ρ=> ∃a b,ρ=[some (.pu (.tup ((rwF 5 f).map .int))),some (.pu (.int p)),some (.pu (.int (i:Int))),some (.pu (.int S)),some (.pu (.int (f 2-(i:Int)*S))),a,b]/\ ∀v:Nat,v<j-> ¬bA2 p f (i:Int) (v:Int))
   ⟨a,b,rfl,λv hv=>by lia⟩ ?_ ?_
  ·intro Q' q;walk_at "u";refine⟨⟨by lia,by lia⟩,?_⟩
   exact q
  ·rintro j ρ hj ⟨a,b,rfl,nj⟩;rw[zero_add];walk_at "u";refine⟨by simp,by lia,?_⟩
   rw[cI _ (by lia)]
   have w0:=emod_nonneg (f 2-(i:Int)*S-(j:Int)) (show p≠0 by lia)
   have w1:=emod_lt_of_pos (f 2-(i:Int)*S-(j:Int)) (show 0<p by lia)
   generalize hW:(f 2-(i:Int)*S-(j:Int))%p=W at *;refine⟨cmL (by lia) (by lia),by lia,?_⟩
   rw[cI _ (by lia),a0]
   dsimp only
   have step: ¬bA2 p f (i:Int) (j:Int)-> ∃a b,[some (B.pu (.tup ((rwF 5 f).map .int))),some (.pu (.int p)),some (.pu (.int (i:Int))),some (.pu (.int S)),some (.pu (.int (f 2-(i:Int)*S))),some (.pu (.int (j:Int))),some (.pu (.int W))]=[some (.pu (.tup ((rwF 5 f).map .int))),some (.pu (.int p)),some (.pu (.int (i:Int))),some (.pu (.int S)),some (.pu (.int (f 2-(i:Int)*S))),a,b]/\ ∀v:Nat,v<j+1-> ¬bA2 p f (i:Int) (v:Int):=λnh'=>⟨_,_,rfl,λv hv=>by
    by_cases h1:v<j
    ·exact nj v h1
    ·rw[show v=j by lia];exact nh'⟩
   by_cases c1:(j:Int)*W%p=f 0
   ·rw[if_pos c1];refine⟨cmL (by lia) (by lia),cmL (by lia) (by lia),by lia,?_⟩
    rw[cI _ (by lia),a1]
    dsimp only
    by_cases c2:((i:Int)*W+(j:Int)*S)%p=f 1
    ·rw[if_pos c2];refine⟨by decide,by decide,by decide,yes (j:Int) (i:Int) W S (by lia) (by lia) (by lia) (by lia) w0 w1 s0 s1 ((c13 mp (MP.qu p2 (by lia) (by lia) (by lia) (by lia)) (MP.qu p2 w0 w1 s0 s1) p2).mpr ⟨c1.symm,by rw[<-c2,Int.add_comm],?_,?_⟩)⟩
     ·rw[<-hW,add_emod,emod_emod,<-add_emod];have:(j:Int)+(i:Int)*S+(f 2-(i:Int)*S-(j:Int))=f 2:=by lia
      rw[this];exact(emod_eq_of_lt (mp.rng 2).1 (mp.rng 2).2).symm
     ·rw[<-hS,add_emod,emod_emod,<-add_emod];have:(i:Int)+(f 3-(i:Int))=f 3:=by lia
      rw[this];exact(emod_eq_of_lt (mp.rng 3).1 (mp.rng 3).2).symm
    ·rw[if_neg c2];exact step λz=>c2 (by have:=z.2;unfold bA2 at z;rw[hS,hW]at this;exact this)
   ·rw[if_neg c1];exact step λz=>c1 (by have:=z.1;rw[hS,hW]at this;exact this)
  ·rintro ρ ⟨a,b,rfl,nj⟩;refine⟨_,_,_,_,_,rfl,λu v hu hv=> ?_⟩
   by_cases h1:u<i
   ·exact nh u v h1 hv
   ·rw[show u=i by lia];exact nj v hv
 ·rintro ρ ⟨x,y,z,a,b,rfl,nh⟩;dsimp only;unfold pL;walk_at "u";refine⟨by decide,no ?_⟩
  intro v u w s v0 v1 u0 u1 w0 w1 s0 s1 e;obtain⟨h0,h1,h2,h3⟩:=(c13 mp (MP.qu p2 v0 v1 u0 u1) (MP.qu p2 w0 w1 s0 s1) p2).mp e;obtain⟨v',rfl⟩: ∃v':Nat,v=(v':Int):=⟨v.toNat,by lia⟩
  obtain⟨u',rfl⟩: ∃u':Nat,u=(u':Int):=⟨u.toNat,by lia⟩
  refine nh u' v' (by lia) (by lia) ?_
  have es:(f 3-(u':Int))%p=s:=aU0 s0 s1 (by rw[h3,Int.add_comm])
  have ew:(f 2-(u':Int)*s-(v':Int))%p=w:=by
   have:=aU0 (x:=f 2) (b:=(v':Int)+(u':Int)*s) w0 w1 (by rw[h2,Int.add_comm w])
   rw[<-this]
   congr 1
   lia
  unfold bA2;rw[es,ew];exact⟨h0.symm,by rw[h1,Int.add_comm]⟩
theorem at0 {a b:D}:atI [a,b] 0=some a:=b6 (j:=0) rfl
theorem at1 {a b:D}:atI [a,b] 1=some b:=b6 (j:=1) rfl
def NoR (p:Int)(F:Nat×(Nat->Int)):Prop:= ∀c:Nat,c<p.toNat->va p F (-(c:Int))≠0
def ltP (x y:(Nat×(Nat->Int))×Nat):Prop:=x.1.1<y.1.1\/(x.1.1=y.1.1/\ltL (rwF (x.1.1+1) x.1.2) (rwF (y.1.1+1) y.1.2)=true)
structure RL (p:Int)(F:Nat×(Nat->Int))(rs:List ((Nat×(Nat->Int))×Nat)):Prop where
 prod: ∀a:Nat×(Nat->Int),MP p a.1 a.2->allT p a rs=tm p a F
 mem: ∀x∈rs,MP p x.1.1 x.1.2/\2<=x.1.1/\x.1.1<=4/\1<=x.2/\x.2<=2/\NoR p x.1/\(x.1.1=4->NoQ p x.1)
 ord:rs.Pairwise ltP
 len:rs.length<=2
theorem bY0 {p:Int}(hp:2<=p){a:Nat×(Nat->Int)}(ha:MP p a.1 a.2):tm p a lD=a:=by
 rw[a22 ha.hi (MP.one hp).hi,bM3 ha]
theorem RL.single {p:Int}{F:Nat×(Nat->Int)}(mp:MP p F.1 F.2)(h2:2<=F.1)(h4:F.1<=4)(nr:NoR p F)(nq:F.1=4->NoQ p F):RL p F [(F,1)]:=
 ⟨λa _=>rfl,λx hx=>by rw[List.mem_singleton.mp hx];exact⟨mp,h2,h4,le_refl _,show 1<=2 by decide,nr,nq⟩,pairwise_singleton _ _,show 1<=2 by decide⟩
theorem row_lt {v u w s:Int}(h: ¬(v=w/\u=s)):ltL [w,s,1] [v,u,1]=false->ltL [v,u,1] [w,s,1]=true:=by
 unfold ltL
 by_cases c:v=w
 ·rw[if_pos c,if_pos c.symm];unfold ltL;have:u≠s:=λz=>h ⟨c,z⟩
  rw[if_neg this,if_neg (λz=>this z.symm)]
  simp only[decide_eq_false_iff_not,decide_eq_true_eq]
  lia
 ·rw[if_neg c,if_neg (λz=>c z.symm)]
  simp only[decide_eq_false_iff_not,decide_eq_true_eq]
  lia
def eA:Φ:=λds Q=> ∃(n:Nat) (f:Nat->Int) (p:Int),ds=[aH (rwF (n+1) f),.int p]/\n<=4/\Pr p/\MP p n f/\NoR p (n,f)/\ ∀rs,RL p (n,f) rs->Q (.ow (rs.map sX))
def k6:US:=(bQ (eX [] [none,none] 1 (fM (aI aZ8 (a6 (a9 2) aE))) (cE 0) (λρ Q=>Q true ρ) (eC (a6 (a9 0) (a6 (uC (.int 1)) aE)))))
def k7:US:=(aK (eW (bY (uOp (bU2 false) (uIx (aN 2) (uC (.int 0))) (uIx (aN 2) (uC (.int 1))))) (bQ (iL (a6 (eC (a6 (uIx (aN 2) (uC (.int 0))) (a6 (uC (.int 2)) aE))) aE))) cN) k6)
def dW:US:=(aK (eW (bY (uOp (iK false) (hV (aN 2)) (uC (.int 0)))) (bQ (iL (a6 (eC (a6 (a9 0) (a6 (uC (.int 1)) aE))) aE))) cN) k7)
def k8:US:=(aK (b9 2 (uIf (bY (uOp (iK false) (hV (aN 0)) (uC (.int 5)))) (aI gU (a6 (a9 0) (a6 (a9 1) aE))) (iL aE))) dW)
def gH:US:=(aK (eW (bY (uOp (iK false) (hV (aN 0)) (uC (.int 1)))) (bQ (iL aE)) cN) k8)
theorem sY: ∀ds Q,eA ds Q->ds.length=2:=by rintro ds Q ⟨n,f,p,rfl,_⟩;rfl
theorem bM8 {p:Int}(pp:Pr p){F:Nat×(Nat->Int)}(mp:MP p F.1 F.2)(h1:F.1=1)(nr:NoR p F):False:=by
 have p2:=pp.lo;have r:=mp.rng 0;refine nr (F.2 0).toNat (by lia) ?_
 unfold va;rw[h1,show(((F.2 0).toNat:Nat):Int)=F.2 0 by lia]
 have t:F.2 1=1:=by have:=mp.top;rw[h1]at this;exact this
 show(0+F.2 0*(-F.2 0)^0+F.2 1*(-F.2 0)^1)%p=0
 rw[t,pow_zero,Int.pow_succ,pow_zero];have:0+F.2 0*1+1*(1* -F.2 0)=0:=by lia
 rw[this,zero_emod]
theorem uK: ∀ds Q,eA ds Q->gH {nx:=λ_=>Q (.pu .non),rt:=Q} (init ["f","p","a"] ds):=by
 rintro ds Q ⟨n,f,p,rfl,n4,pp,mp,nr,h⟩;have p2:=pp.lo;unfold gH;simp only[aH];show(aK _ _:US) _ [some (.pu (.tup ((rwF (n+1) f).map .int))),some (.pu (.int p)),none];rw[aO];walk_at "u";rw[bD]
 by_cases n0:n=0
 ·rw[if_pos (by lia)]
  subst n0;refine⟨by decide,h [] ⟨λa ha=> ?_,by simp,.nil,by decide⟩⟩
  have e:((0,f):Nat×(Nat->Int))=lD:=Prod.ext rfl (funext λj=>by
   show f j=if j=0 then 1 else 0
   by_cases c:j=0
   ·rw[if_pos c,c];exact mp.top
   ·rw[if_neg c];exact mp.hi j (by lia))
  rw[e,bY0 p2 ha];rfl
 rw[if_neg (by lia)]
 have n1:n≠1:=λz=>bM8 pp (F:=(n,f)) mp z nr
 have alone:(n=4->NoQ p (n,f))->dW {nx:=λ_=>Q (.pu .non),rt:=Q} [some (.pu (.tup ((rwF (n+1) f).map .int))),some (.pu (.int p)),some (.ow [])]:=λnq=>by
  unfold dW;rw[aO];walk_at "u";rw[if_pos (by rfl)]
  exact⟨by decide,by decide,h [((n,f),1)] (RL.single mp (by show 2<=n;lia) n4 nr nq)⟩
 unfold k8;rw[aO];walk_at "u";simp only[uIf,hV,aN,a34,uC,isB,B.d,iD,iK,getElem?_cons_zero,bD]
 by_cases c:n=4
 ·subst c;rw[if_pos (by rfl)]
  refine⟨f,p,rfl,pp,mp,λv u w s v0 v1 u0 u1 w0 w1 s0 s1 e=> ?_,λnq=> ?_⟩
  ·have m1:=MP.qu p2 v0 v1 u0 u1;have m2:=MP.qu p2 w0 w1 s0 s1;have k1:NoR p (quF v u):=λc hc=>by have:=nr c hc;rw[e]at this;exact(bM6 m2.hi this).1
   have k2:NoR p (quF w s):=λc hc=>by have:=nr c hc;rw[e]at this;exact(bM6 m2.hi this).2
   dsimp only;simp only[aH];unfold dW;rw[aO];walk_at "u";rw[if_neg (by decide)]
   unfold k7;rw[aO];walk_at "u";rw[at0,at1];dsimp only;refine aT2 ?_
   by_cases c:[v,u,(1:Int)]=[w,s,1]
   ·have c1:v=w:=by simp at c;exact c.1
    have c2:u=s:=by simp at c;exact c.2
    subst c1 c2;rw[decide_eq_true rfl];dsimp only;rw[if_pos (by decide)]
    refine⟨by decide,by decide,h [(quF v u,2)] ⟨λa ha=> ?_,λx hx=> ?_,pairwise_singleton _ _,show 1<=2 by decide⟩⟩
    ·show tm p (tm p a (quF v u)) (quF v u)=tm p a (4,f)
     rw[e,sW m1.hi]
    ·rw[List.mem_singleton.mp hx];exact⟨m1,le_refl _,show 2<=4 by decide,show 1<=2 by decide,le_refl _,k1,λz=>by cases z⟩
   ·rw[decide_eq_false c];dsimp only;rw[if_neg (by decide)]
    have nc: ¬(v=w/\u=s):=λz=>c (by rw[z.1,z.2])
    unfold k6;rw[iO];have fin2: ∀(v u w s:Int),MP p (quF v u).1 (quF v u).2->MP p (quF w s).1 (quF w s).2->NoR p (quF v u)->NoR p (quF w s)->((4,f):Nat×(Nat->Int))=tm p (quF v u) (quF w s)->ltL [v,u,1] [w,s,1]=true->Q (.ow [.tup [.tup ([v,u,1].map D.int),.int 1],.tup [.tup ([w,s,1].map D.int),.int 1]]):=λv u w s m1 m2 k1 k2 e lt=>by
     refine h [(quF v u,1),(quF w s,1)] ⟨λa ha=> ?_,λx hx=> ?_,?_,le_refl _⟩
     ·show tm p (tm p a (quF v u)) (quF w s)=tm p a (4,f)
      rw[e,sW m1.hi]
     ·rcases List.mem_cons.mp hx with rfl|hx
      ·exact⟨m1,le_refl _,show 2<=4 by decide,le_refl _,show 1<=2 by decide,k1,λz=>by cases z⟩
      ·rw[List.mem_singleton.mp hx];exact⟨m2,le_refl _,show 2<=4 by decide,le_refl _,show 1<=2 by decide,k2,λz=>by cases z⟩
     ·refine List.pairwise_cons.mpr ⟨λy hy=> ?_,pairwise_singleton _ _⟩
      rw[List.mem_singleton.mp hy];exact .inr ⟨rfl,lt⟩
    refine eF (t0:=0) 2 (λk=>(if ltL [w,s,1] [v,u,1]=true then [D.tup ([w,s,1].map D.int),.tup ([v,u,1].map D.int)]else [.tup ([v,u,1].map D.int),.tup ([w,s,1].map D.int)]).getD k .non) [some (.pu (.tup ((rwF (4+1) f).map .int))),some (.pu (.int p)),some (.pu (.lst [.tup ([v,u,1].map D.int),.tup ([w,s,1].map D.int)]))] ?_ (by decide) (λx l'=>[x,some (.ow l')]) none rfl (λ_ _ _=>rfl) (λ_ _=>zero_lt_succ _) (λ_ _ _ q=>q) (λ_ _ _=>rfl)
     (λk=> .tup [(if ltL [w,s,1] [v,u,1]=true then [D.tup ([w,s,1].map D.int),.tup ([v,u,1].map D.int)]else [.tup ([v,u,1].map D.int),.tup ([w,s,1].map D.int)]).getD k .non,.int 1]) ?_ ?_
    ·intro Q' q;walk_at "u";refine⟨v,w,[u,1],[s,1],rfl,?_⟩;cases l:ltL [w,s,1] [v,u,1]
     ·rw[l]at q;exact q
     ·rw[l]at q;exact q
    ·intro k l' Q' hk q;walk_at "u";exact⟨by decide,q⟩
    ·cases l:ltL [w,s,1] [v,u,1]
     ·exact fin2 v u w s m1 m2 k1 k2 e (row_lt nc l)
     ·exact fin2 w s v u m2 m1 k2 k1 (by rw[e,a22 m1.hi m2.hi]) l
  ·exact alone λ_=>nq
 ·rw[if_neg (by simp;lia)]
  refine⟨by decide,?_⟩
  exact alone λz=>absurd z c
structure SP (p:Int)(F:Nat×(Nat->Int))(xs:List ((Nat×(Nat->Int))×Nat)):Prop where
 prod:allT p lD xs=F
 mem: ∀x∈xs,MP p x.1.1 x.1.2/\1<=x.1.1/\x.1.1<=4/\1<=x.2/\x.2<=4/\(2<=x.1.1->NoR p x.1)/\(x.1.1=4->NoQ p x.1)
 ord:xs.Pairwise ltP
 len:xs.length<=300
theorem SP.of {p:Int}(pp:Pr p){F L:Nat×(Nat->Int)}{cs:List (Int×Nat)}{rs:List ((Nat×(Nat->Int))×Nat)}(h4:F.1<=4)(lk:LK p F p.toNat cs L)(rl:RL p L rs):SP p F (cs.map lnP++rs):=by
 have p2:=pp.lo;have p3:=pp.hi;have rg: ∀x∈cs,0<=x.1/\x.1<p:=λx hx=>⟨(lk.mem x hx).1,by have:=(lk.mem x hx).2.1;lia⟩
 have mcs:=b52 p2 rg;have mA:=MP.allT p2 (cs.map lnP) (MP.one p2) mcs;refine⟨by rw[nM,rl.prod _ mA];exact lk.prod.symm,λx hx=> ?_,?_,?_⟩
 ·rcases List.mem_append.mp hx with hx|hx
  ·obtain⟨y,hy,rfl⟩:=List.mem_map.mp hx;have hd:=aT9 p (cs.map lnP) lD (lnP y) hx;have e:F.1=(allT p lD (cs.map lnP)).1+L.1:=congrArg Prod.fst lk.prod;have hd':0+1*y.2<=(allT p lD (cs.map lnP)).1:=hd;refine⟨mcs _ hx,le_refl _,show 1<=4 by decide,(lk.mem y hy).2.2,show y.2<=4 by lia,λz=> ?_,λz=> ?_⟩
   ·have:2<=1:=z
    lia
   ·have:1=4:=z
    lia
  ·obtain⟨a,b,c,d,e,f,g⟩:=rl.mem x hx;exact⟨a,by lia,c,d,by lia,λ_=>f,g⟩
 ·rw[List.pairwise_append];refine⟨?_,rl.ord,λx hx y hy=> ?_⟩
  ·rw[List.pairwise_map];refine lk.asc.imp λ{a b} h=> .inr ⟨rfl,?_⟩
   show ltL [a.1,1] [b.1,1]=true
   unfold ltL;rw[if_neg (by lia),decide_eq_true h]
  ·obtain⟨z,hz,rfl⟩:=List.mem_map.mp hx;have:=(rl.mem y hy).2.1;exact .inl (show 1<y.1.1 by lia)
 ·have a:=lk.len;have b:=rl.len;rw[length_append,length_map]
  lia
def jP:Φ:=λds Q=> ∃(n:Nat) (g:Nat->Int) (p:Int),ds=[aH (rwF (n+1) g),.int p]/\n<=4/\p∈prL/\MP p n (md p g)/\ ∀xs,SP p (n,md p g) xs->Q (.ow (xs.map sX))
def sZ:US:=(bQ (uOp hJ (a9 2) (aI eA (a6 (a9 3) (a6 (a9 1) aE)))))
def t4:US:=(aK (bF3 (aI iT (a6 (aI cX (a6 (a9 0) (a6 (a9 1) aE))) (a6 (a9 1) aE))) (rM (dP 2 (dP 3 rL)))) sZ)
def o7:US:=(aK (eW (bY (uOp (gIn true) (a9 1) (aI dU aE))) (λ_ _=>False) cN) t4)
theorem a73: ∀ds Q,jP ds Q->ds.length=2:=by rintro ds Q ⟨n,f,p,rfl,_⟩;rfl
theorem aC9: ∀ds Q,jP ds Q->o7 {nx:=λ_=>Q (.pu .non),rt:=Q} (init ["f","p","a","l"] ds):=by
 rintro ds Q ⟨n,g,p,rfl,n4,hp,mp,h⟩;have pp:=a70 hp;have p2:=pp.lo;unfold o7;show(aK _ _:US) _ [some (.pu (aH (rwF (n+1) g))),some (.pu (.int p)),none,none];rw[aO];walk_at "u";refine⟨rfl,p,T_SMALL_PRIMES,rfl,.inr (.inl rfl),?_⟩;rw[decide_eq_true (show p∈T_SMALL_PRIMES by rw[<-bL8];exact hp)]
 dsimp only;rw[if_neg (by decide)]
 unfold t4;rw[aO];walk_at "u";refine⟨n+1,g,p,rfl,by lia,by lia,?_⟩
 walk_at "u"
 have e:cF (md p g) (n+1)=n+1:=lC (le_refl _) (λm h1 h2=>by lia) (.inr (by rw[add_sub_cancel,mp.top];decide))
 rw[e];refine⟨n,md p g,p,rfl,by lia,pp,mp,λcs L lk=> ?_⟩
 walk_at "u"
 refine⟨by decide,by decide,trivial,?_⟩
 unfold sZ;rw[iO,b12];walk_at "u";have hL:L.1<=4:=by
  have e:n=(allT p lD (cs.map lnP)).1+L.1:=congrArg Prod.fst lk.prod
  lia
 refine⟨L.1,L.2,p,rfl,hL,pp,lk.mp,lk.nr,λrs rl=> ?_⟩
 have sp:=SP.of pp (F:=(n,md p g)) n4 lk rl;have e2:(cs.map λx=>sX (lnP x))++rs.map sX=(cs.map lnP++rs).map sX:=by rw[map_append,map_map];rfl
 walk_at "u"
 rw[e2];refine⟨?_,h _ sp⟩;rw[<-length_append,e2,length_map];exact le_trans sp.len (by decide)
def stB (xs:List ((Nat×(Nat->Int))×Nat)):Bool:=match xs with
 | [x]=>decide (x.2=1)
 | _=>false
theorem aH9 {p:Int}(hp:2<=p){g a h:Nat×(Nat->Int)}(ma:MP p a.1 a.2)(mh:MP p h.1 h.2): ∀k,powT p (tm p g a) h k=tm p g (powT p a h k)
 | 0=>rfl
 | k+1=>by
  show tm p (powT p (tm p g a) h k) h=tm p g (tm p (powT p a h k) h)
  rw[aH9 hp ma mh k,sW (MP.powT hp ma mh k).hi]
theorem aI0 {p:Int}(hp:2<=p){g:Nat×(Nat->Int)}: ∀(l:List ((Nat×(Nat->Int))×Nat)) {a:Nat×(Nat->Int)},MP p a.1 a.2->(∀x∈l,MP p x.1.1 x.1.2)->allT p (tm p g a) l=tm p g (allT p a l)
 | [],a,_,_=>rfl
 | x::l,a,ma,h=>by
  show allT p (powT p (tm p g a) x.1 x.2) l=tm p g (allT p (powT p a x.1 x.2) l)
  rw[aH9 hp ma (h x (.head _)),aI0 hp l (MP.powT hp ma (h x (.head _)) x.2) λy hy=>h y (.tail _ hy)]
theorem bY1 {p:Int}(f:Nat->Int){z y:Int}(h:z%p=y%p): ∀n,ps f z n%p=ps f y n%p:=by
 have pw: ∀n,z^n%p=y^n%p:=by
  intro n
  induction n with
  | zero=>rw[pow_zero,pow_zero]
  | succ n ih=>rw[Int.pow_succ,Int.pow_succ,mul_emod,ih,h,<-mul_emod]
 intro n
 induction n with
 | zero=>rfl
 | succ n ih=>
  show(ps f z n+f n*z^n)%p=(ps f y n+f n*y^n)%p
  rw[add_emod,ih,mul_emod,pw,<-mul_emod,<-add_emod]
theorem NoR.any {p:Int}(hp:2<=p){F:Nat×(Nat->Int)}(h:NoR p F)(z:Nat)(hz:z<p.toNat):ps F.2 (z:Int) (F.1+1)%p≠0:=by
 by_cases z0:z=0
 ·subst z0;exact h 0 hz
 ·intro q;refine h (p.toNat-z) (by lia) ?_
  unfold va;rw[<-q];refine bY1 F.2 ?_ _;have e: -(((p.toNat-z:Nat)):Int)=(z:Int)+p*(-1):=by lia
  rw[e,Int.add_mul_emod_self_left]
theorem bM9 {p X r:Int}(h:X%p=r): ∃k,X=r+p*k:=⟨X/p,by rw[<-h];exact(Int.emod_add_mul_ediv X p).symm⟩
theorem no_div {p:Int}(pp:Pr p){k:Int}(h2:2<=k)(h:k<p):1<=p%k:=by
 have h0:=emod_nonneg p (show k≠0 by lia)
 refine Decidable.byContradiction λz=> ?_
 obtain⟨m,hm⟩:=Int.dvd_of_emod_eq_zero (show p%k=0 by lia)
 obtain⟨t,ht⟩:=bM9 (pp.inv k (by lia) h)
 have h1:k*(aC6 k p (p.toNat-2)-m*t)=1:=by
  rw[Int.mul_sub,Int.mul_comm k,ht,<-mul_assoc,<-hm]
  lia
 have h3:k∣1:=⟨_,h1.symm⟩;have:=Int.le_of_dvd (by decide) h3
 lia
structure Bk (p:Int)(k:Nat)(B:Nat->Int):Prop where
 rng: ∀j,0<=B j/\B j<p
 inv: ∀j,1<=j->j<k->B j*(j:Int)%p=1
theorem Bk.step {p:Int}(pp:Pr p){k:Nat}(h2:2<=k)(hk:(k:Int)<p){B:Nat->Int}(b:Bk p k B):Bk p (k+1) (λx=>if x=k then(p-p/(k:Int))*B (p%(k:Int)).toNat%p else B x):=by
 have p2:=pp.lo;refine⟨λj=> ?_,λj j1 jk=> ?_⟩
 ·split
  ·exact⟨emod_nonneg _ (by lia),emod_lt_of_pos _ (by lia)⟩
  ·exact b.rng j
 ·by_cases c:j=k
  ·subst c;rw[if_pos rfl];have r1:=no_div pp (k:=(j:Int)) (by lia) hk
   have r2:=emod_lt_of_pos p (show(0:Int)< (j:Int)by lia)
   have iv:=b.inv (p%(j:Int)).toNat (by lia) (by lia)
   rw[show(((p%(j:Int)).toNat:Nat):Int)=p%(j:Int)by lia]at iv
   have dm:=Int.emod_add_mul_ediv p (j:Int);generalize p%(j:Int)=r at *;generalize p/(j:Int)=q at *;generalize B r.toNat=x at *;obtain⟨t,ht⟩:=bM9 iv;rw[emL];have e:(p-q)*x*(j:Int)=1+p*(t+x*(j:Int)-x):=by
    have:(p-q)*x*(j:Int)=x*r+p*(x*(j:Int)-x):=by
     have:(j:Int)*q=p-r:=by lia
     grind
    rw[this,ht]
    grind
   rw[e,Int.add_mul_emod_self_left];exact emod_eq_of_lt (by decide) (by lia)
  ·rw[if_neg c];exact b.inv j j1 (by lia)
theorem aU1 {js:List Nat}{cap:List (Option Nat)}{last t0 t1:Nat}{ui:UI}{te:UE}{ρ:Ev}{Q:B->Ev->Prop}(n:Nat)(it i1 i2:Nat->D)(hit: ∀i,i<n->it i= .tup [i1 i,i2 i])(ρ1:Ev)(hui: ∀Q:Nat->(Nat->D)->Ev->Prop,Q n it ρ1->ui ρ Q)(hn:n<=1000000)
  (G:Option B->Option B->List D->Ev) (x0 y0:Option B) (h0:nI (xZ ρ1 js) cap last=G x0 y0 []) (h1: ∀x y l b c,((G x y l).set t0 (some b)).set t1 (some c)=G (some b) (some c) l) (h1': ∀x y l,t0< (G x y l).length/\t1< (G x y l).length)
  (h2: ∀x y l (Q:List D->Prop),Q l->kX (G x y l) last Q) (h3: ∀x y l l',(G x y l).set last (some (.ow l'))=G x y l')
  (f:Nat->D) (hte: ∀i l (Q':B->Ev->Prop),i<n->Q' (.pu (f i)) (G (some (.pu (i1 i))) (some (.pu (i2 i))) l)->te (G (some (.pu (i1 i))) (some (.pu (i2 i))) l) Q') (hq:Q (.ow ((List.range n).map f)) (xZ ρ1 js)) :
  eX js cap last ui (rM (dP t0 (dP t1 rL))) (λρ Q=>Q true ρ) te ρ Q:=by
 refine hui _ ⟨λi ρ'=> ∃x y,ρ'=G x y ((List.range i).map f),⟨x0,y0,h0⟩,?_,?_⟩
 ·rintro i ρ' hi ⟨x,y,rfl⟩;rw[hit i hi];refine⟨(h1' _ _ _).1,by rw[length_set];exact(h1' _ _ _).2,rfl,?_⟩
  rw[h1];dsimp only;rw[if_pos rfl];refine hte i _ _ hi (h2 _ _ _ _ ⟨?_,some (.pu (i1 i)),some (.pu (i2 i)),?_⟩)
  ·rw[length_map,length_range];exact lt_of_lt_of_le hi (le_trans hn (by decide))
  ·rw[h3,range_succ,map_append];rfl
 ·rintro ρ' ⟨x,y,rfl⟩;exact h2 _ _ _ _ hq
theorem aU2 {js:List Nat}{cap:List (Option Nat)}{last t0:Nat}{ui:UI}{tt:UT}{te:UE}{ρ:Ev}{Q:B->Ev->Prop}(n:Nat)(it:Nat->D)(ρ1:Ev)(hui: ∀Q:Nat->(Nat->D)->Ev->Prop,Q n it ρ1->ui ρ Q)(hn:n<=1000)
  (G:Option B->List D->Ev) (x0:Option B) (h0:nI (xZ ρ1 js) cap last=G x0 []) (h1: ∀x l b,(G x l).set t0 (some b)=G (some b) l) (h1': ∀x l,t0< (G x l).length) (h2: ∀x l (Q:List D->Prop),Q l->kX (G x l) last Q) (h3: ∀x l l',(G x l).set last (some (.ow l'))=G x l')
  (c:Nat->Bool) (P:D->Prop) (htt: ∀i l (Q':Bool->Ev->Prop),i<n->Q' (c i) (G (some (.pu (it i))) l)->tt (G (some (.pu (it i))) l) Q')
  (hte: ∀i l (Q':B->Ev->Prop),i<n->c i=true->(∀d,P d->Q' (.pu d) (G (some (.pu (it i))) l))->te (G (some (.pu (it i))) l) Q') (hq: ∀l:List D,l.length<=n->(∀d∈l,P d)->Q (.ow l) (xZ ρ1 js)) :
  eX js cap last ui (cE t0) tt te ρ Q:=by
 refine hui _ ⟨λi ρ'=> ∃x l,l.length<=i/\(∀d∈l,P d)/\ρ'=G x l,⟨x0,[],le_refl _,by simp,h0⟩,?_,?_⟩
 ·rintro i ρ' hi ⟨x,l,hl,hP,rfl⟩;refine⟨h1' _ _,?_⟩;rw[h1];dsimp only;refine htt i _ _ hi ?_
  by_cases hc:c i=true
  ·rw[if_pos hc];refine hte i _ _ hi hc λd hd=>h2 _ _ _ ⟨?_,some (.pu (it i)),l++[d],?_,?_,?_⟩
   ·exact lt_of_le_of_lt hl (lt_of_lt_of_le hi (le_trans hn (by decide)))
   ·rw[length_append];exact Nat.succ_le_succ hl
   ·intro e he;rcases List.mem_append.mp he with he|he
    ·exact hP e he
    ·have:e=d:=by simpa using he
     rw[this];exact hd
   ·rw[h3];rfl
  ·rw[if_neg hc];exact⟨some (.pu (it i)),l,Nat.le_succ_of_le hl,hP,rfl⟩
 ·rintro ρ' ⟨x,l,hl,hP,rfl⟩;exact h2 _ _ _ (hq l hl hP)
def aU3 (n:Nat)(f:Nat->Int)(g:Nat×(Nat->Int)):List Int:=rwF (cF (divL g.2 g.1 (n+1-g.1) f) (n+1)) (divL g.2 g.1 (n+1-g.1) f)
def ptD (n:Nat)(f:Nat->Int)(x:(Nat×(Nat->Int))×Nat):D:= .tup [aH (rwF (x.1.1+1) x.1.2),.int (x.2:Int),aH (aU3 n f x.1)]
def jQ:Φ:=λds Q=> ∃(n:Nat) (f:Nat->Int) (p:Int),ds=[aH (rwF (n+1) f),.int p]/\n<=4/\p∈prL/\MP p n (md p f)/\(∀j,(f j).natAbs<=2^9)/\ ∀xs,SP p (n,md p f) xs->Q (.ow (xs.map (ptD n f)))
def o8:US:=(bQ (eX [0] [none,none,some 0,none] 3 (fM (aI jP (a6 (a9 0) (a6 (a9 1) aE)))) (rM (dP 0 (dP 1 rL))) (λρ Q=>Q true ρ) (eC (a6 (a9 0) (a6 (a9 1) (a6 (uIx (uV (aI bO (a6 (a9 2) (a6 (a9 0) aE)))) (uC (.int 1))) aE))))))
theorem a74: ∀ds Q,jQ ds Q->ds.length=2:=by rintro ds Q ⟨n,f,p,rfl,_⟩;rfl
theorem b53 {p:Int}(pp:Pr p){n:Nat}{f:Nat->Int}(n4:n<=4)(fb: ∀j,(f j).natAbs<=2^9){g:Nat×(Nat->Int)}(mg:MP p g.1 g.2)(g4:g.1<=4):bL6 (n+1) g.1 9 8 f g.2:=
 ⟨by lia,by lia,mg.top,mg.hi,λm _=>fb m,λj=>bM7 pp mg j,by lia,by decide⟩
theorem aD0: ∀ds Q,jQ ds Q->o8 {nx:=λ_=>Q (.pu .non),rt:=Q} (init ["f","p"] ds):=by
 rintro ds Q ⟨n,f,p,rfl,n4,hp,mp,fb,h⟩;have pp:=a70 hp;unfold o8;show(bQ _:US) _ [some (.pu (aH (rwF (n+1) f))),some (.pu (.int p))];rw[iO]
 have key: ∀xs,SP p (n,md p f) xs->eX [0] [none,none,some 0,none] 3 (λρ Q=>Q (xs.map sX).length (λi=>(xs.map sX).getD i .non) ρ) (rM (dP 0 (dP 1 rL))) (λρ Q=>Q true ρ) (eC (a6 (a9 0) (a6 (a9 1) (a6 (uIx (uV (aI bO (a6 (a9 2) (a6 (a9 0) aE)))) (uC (.int 1))) aE)))) [some (.pu (aH (rwF (n+1) f))),some (.pu (.int p))] λb _=>Q b:=by
  intro xs sp
  refine aU1 (t0:=0) (t1:=1) xs.length (λi=>(xs.map sX).getD i .non) (λi=>aH (rwF ((xs.getD i (lD,0)).1.1+1) (xs.getD i (lD,0)).1.2)) (λi=> .int ((xs.getD i (lD,0)).2:Int)) (λi hi=> ?_) [some (.pu (aH (rwF (n+1) f))),some (.pu (.int p))] (λQ' q=> ?_) (le_trans sp.len (by decide)) (λx y l=>[x,y,some (.pu (aH (rwF (n+1) f))),some (.ow l)]) none none rfl (λ_ _ _ _ _=>rfl) (λ_ _ _=>⟨by simp,by simp⟩) (λ_ _ _ _ q=>q) (λ_ _ _ _=>rfl) (λi=>ptD n f (xs.getD i (lD,0))) ?_ ?_
  ·rw[getD_eq_getElem?_getD,getElem?_map,getD_eq_getElem?_getD,getElem?_eq_getElem hi];rfl
  ·rw[length_map];exact q
  ·intro i l Q' hi q;have hm:xs.getD i (lD,0)∈xs:=by
    rw[getD_eq_getElem?_getD,getElem?_eq_getElem hi];exact getElem_mem hi
   obtain⟨mx,x1,x4,_⟩:=sp.mem _ hm;generalize xs.getD i (lD,0)=x at *;walk_at "u";refine⟨n+1,x.1.1,9,8,f,x.1.2,rfl,b53 pp n4 fb mx x4,?_⟩;walk_at "u";rw[at1];exact⟨by decide,q⟩
  ·have e:(List.range xs.length).map (λi=>ptD n f (xs.getD i (lD,0)))=xs.map (ptD n f):=by
    apply ext_getElem
    ·simp
    ·intro i h1 h2;simp at h1;simp[getD_eq_getElem?_getD,h1]
   rw[e];exact h xs sp
 exact⟨n,f,p,rfl,n4,hp,mp,λxs sp=>key xs sp⟩
structure RF (n:Nat)(f:Nat->Int):Prop where
 n1:1<=n
 n4:n<=4
 top:f n=1
 hi: ∀j,n<j->f j=0
 fb: ∀j,(f j).natAbs<=2^9
theorem RF.mp {n:Nat}{f:Nat->Int}(h:RF n f){p:Int}(hp:2<=p):MP p n (md p f):=by
 refine⟨?_,λj hj=> ?_,λj=>⟨emod_nonneg _ (by lia),emod_lt_of_pos _ (by lia)⟩⟩
 ·show f n%p=1
  rw[h.top];exact emod_eq_of_lt (by decide) (by lia)
 ·show f j%p=0
  rw[h.hi j hj,zero_emod]
def PRow (n:Nat)(f:Nat->Int)(size:Int)(d:D):Prop:= ∃(p:Int) (xs:List ((Nat×(Nat->Int))×Nat)),p∈prL/\size%(p*p)=0/\SP p (n,md p f) xs/\d= .tup [.int p,.lst (xs.map (ptD n f))]
def iU:Φ:=λds Q=> ∃(n:Nat) (f:Nat->Int) (size:Int),ds=[aH (rwF (n+1) f),.int size]/\RF n f/\ ∀l:List D,l.length<=46->(∀d∈l,PRow n f size d)->Q (.ow l)
def mF:US:=(bQ (eX [0,1] [none,some 0,some 1,none] 3 (fM (aI dU aE)) (cE 0) (bY (uOp (iK false) (uOp n5 (a9 2) (uOp fQ (a9 0) (a9 0))) (uC (.int 0)))) (eC (a6 (a9 0) (a6 (aI jQ (a6 (a9 1) (a6 (a9 0) aE))) aE)))))
theorem a02: ∀ds Q,iU ds Q->ds.length=2:=by rintro ds Q ⟨n,f,p,rfl,_⟩;rfl
theorem a75: ∀ds Q,iU ds Q->mF {nx:=λ_=>Q (.pu .non),rt:=Q} (init ["f","s"] ds):=by
 rintro ds Q ⟨n,f,size,rfl,rf,h⟩;unfold mF;show(bQ _:US) _ [some (.pu (aH (rwF (n+1) f))),some (.pu (.int size))];rw[iO]
 refine aU2 (t0:=0) 46 (λi=>(T_SMALL_PRIMES.map D.int).getD i .non) [some (.pu (aH (rwF (n+1) f))),some (.pu (.int size))] (λQ' q=> ?_) (by decide) (λx l=>[x,some (.pu (aH (rwF (n+1) f))),some (.pu (.int size)),some (.ow l)]) none rfl (λ_ _ _=>rfl) (λ_ _=>zero_lt_succ _) (λ_ _ _ q=>q) (λ_ _ _=>rfl)
  (λi=>decide (size%(T_SMALL_PRIMES.getD i 0*T_SMALL_PRIMES.getD i 0)=0)) (PRow n f size) ?_ ?_ (λl hl hP=>h l hl hP)
 ·exact⟨rfl,q⟩
 ·intro i l Q' hi q;have e:(T_SMALL_PRIMES.map D.int).getD i .non= .int (T_SMALL_PRIMES.getD i 0):=by
   have hi':i<T_SMALL_PRIMES.length:=by rw[aM9];exact hi
   rw[getD_eq_getElem?_getD,getElem?_map,getD_eq_getElem?_getD,getElem?_eq_getElem hi'];rfl
  have hm:T_SMALL_PRIMES.getD i 0∈T_SMALL_PRIMES:=by
   have hi':i<T_SMALL_PRIMES.length:=by rw[aM9];exact hi
   rw[getD_eq_getElem?_getD,getElem?_eq_getElem hi'];exact getElem_mem hi'
  obtain⟨p2,p3⟩:=tp_ok _ hm;rw[e]at q⊢;generalize T_SMALL_PRIMES.getD i 0=p at *;have pq:0<p*p:=Int.mul_pos (by lia) (by lia)
  walk_at "u"
  refine⟨cmL (by lia) (by lia),by lia,?_⟩
  rw[cI _ pq];exact q
 ·intro i l Q' hi hc q;have e:(T_SMALL_PRIMES.map D.int).getD i .non= .int (T_SMALL_PRIMES.getD i 0):=by
   have hi':i<T_SMALL_PRIMES.length:=by rw[aM9];exact hi
   rw[getD_eq_getElem?_getD,getElem?_map,getD_eq_getElem?_getD,getElem?_eq_getElem hi'];rfl
  have hm:T_SMALL_PRIMES.getD i 0∈prL:=by
   have hi':i<T_SMALL_PRIMES.length:=by rw[aM9];exact hi
   rw[bL8,getD_eq_getElem?_getD,getElem?_eq_getElem hi'];exact getElem_mem hi'
  have pp:=a70 hm;have hc':=of_decide_eq_true hc;rw[e]at q⊢;generalize T_SMALL_PRIMES.getD i 0=p at *;walk_at "u";refine⟨n,f,p,rfl,rf.n4,hm,rf.mp pp.lo,rf.fb,λxs sp=> ?_⟩
  walk_at "u"
  exact⟨by decide,q _ ⟨p,xs,hm,hc',sp,rfl⟩⟩
theorem bA3 {p:Int}(hp:2<=p){F:Nat×(Nat->Int)}{xs:List ((Nat×(Nat->Int))×Nat)}(sp:SP p F xs){x:(Nat×(Nat->Int))×Nat}(hx:x∈xs)(h2:2<=x.2): ∃R:Nat×(Nat->Int),MP p R.1 R.2/\F=tm p (tm p x.1 x.1) R:=by
 obtain⟨l,m,rfl⟩:=List.append_of_mem hx;obtain⟨k,hk⟩: ∃k,x.2=k+2:=⟨x.2-2,by omega⟩
 have mx:=(sp.mem x hx).1;have ml: ∀y∈l,MP p y.1.1 y.1.2:=λy hy=>(sp.mem y (mem_append_left _ hy)).1
 have mm: ∀y∈m,MP p y.1.1 y.1.2:=λy hy=>(sp.mem y (mem_append_right _ (.tail _ hy))).1
 have mA:=MP.allT hp l (MP.one hp) ml;have mP:=MP.powT hp mA mx k;have mxx:=MP.tm hp mx mx;refine⟨allT p (powT p (allT p lD l) x.1 k) m,MP.allT hp m mP mm,?_⟩;rw[<-sp.prod,nM];show allT p (powT p (allT p lD l) x.1 x.2) m=_;rw[hk];show allT p (tm p (tm p (powT p (allT p lD l) x.1 k) x.1) x.1) m=_;rw[<-sW mx.hi,a22 mP.hi mxx.hi,aI0 hp m mP mm]
structure Outs (n:Nat)(f:Nat->Int)(size p:Int)(g:Nat×(Nat->Int)):Prop where
 pr:p∈prL
 sq:size%(p*p)=0
 mg:MP p g.1 g.2
 g1:1<=g.1
 g4:g.1<=4
 tw: ∃R:Nat×(Nat->Int),MP p R.1 R.2/\(n,md p f)=tm p (tm p g g) R
 all: ∀c∈aU3 n f g,c%(p*p)=0
def bY2 (n:Nat)(f:Nat->Int)(g:Nat×(Nat->Int)):List Int:=rwF (cF (divQ g.2 g.1 (n+1-g.1) f) (n+1-g.1)) (divQ g.2 g.1 (n+1-g.1) f)
def gW:Φ:=λds Q=> ∃(n:Nat) (f:Nat->Int) (size:Int) (l:List D),ds=[aH (rwF (n+1) f),.lst l]/\RF n f/\l.length<=46/\(∀d∈l,PRow n f size d)/\Q (.pu .non)/\ ∀p g,Outs n f size p g->Q (.pu (.tup [.int p,aH (bY2 n f g)]))
def yH:US:=(bQ (uC .non))
def kM:US:=(aK (jX (fM (a9 1)) (rM (dP 2 (dP 3 rL))) (jX (fM (a9 3)) (rM (dP 4 (dP 5 (dP 6 rL)))) (eW (aY2 (bY (uOp (nW λi j=>decide (j<=i)) (a9 5) (uC (.int 2)))) (bY (aI bG3 (a6 (eX [2] [none,some 2,none] 2 (fM (a9 6)) (cE 0) (λρ Q=>Q true ρ) (uOp (iK false) (uOp n5 (a9 0) (uOp fQ (a9 1) (a9 1))) (uC (.int 0)))) aE)))) (bQ (eC (a6 (a9 2) (a6 (uIx (uV (aI bO (a6 (a9 0) (a6 (a9 4) aE)))) (uC (.int 0))) aE)))) cN))) yH)
theorem yI: ∀ds Q,gW ds Q->ds.length=2:=by rintro ds Q ⟨n,f,p,l,rfl,_⟩;rfl
theorem a03: ∀ds Q,gW ds Q->kM {nx:=λ_=>Q (.pu .non),rt:=Q} (init ["f","r","p","a","g","o","c"] ds):=by
 rintro ds Q ⟨n,f,size,l,rfl,rf,l46,hP,h0,h1⟩;unfold kM;show(aK _ _:US) _ [some (.pu (aH (rwF (n+1) f))),some (.pu (.lst l)),none,none,none,none,none];rw[aO];refine bG l.length (λi=>l.getD i .non) [some (.pu (aH (rwF (n+1) f))),some (.pu (.lst l)),none,none,none,none,none] (λQ' q=>q)
  (λi ρ=> ∃a b c d e,ρ=[some (.pu (aH (rwF (n+1) f))),some (.pu (.lst l)),a,b,c,d,e]) ⟨none,none,none,none,none,rfl⟩ ?_ ?_
 ·rintro i ρ hi ⟨a,b,c,d,e,rfl⟩;have hm:l.getD i .non∈l:=by
   rw[getD_eq_getElem?_getD,getElem?_eq_getElem hi];exact getElem_mem hi
  obtain⟨p,xs,hp,hs,sp,e1⟩:=hP _ hm;have pp:=a70 hp;rw[e1];refine⟨by simp,by simp,rfl,?_⟩
  show(jX _ _ _:US) _ [some (.pu (aH (rwF (n+1) f))),some (.pu (.lst l)),some (.pu (.int p)),some (.pu (.lst (xs.map (ptD n f)))),c,d,e]
  refine bG xs.length (λi=>(xs.map (ptD n f)).getD i .non) [some (.pu (aH (rwF (n+1) f))),some (.pu (.lst l)),some (.pu (.int p)),some (.pu (.lst (xs.map (ptD n f)))),c,d,e] (λQ' q=> ?_)
   (λj ρ=> ∃c d e,ρ=[some (.pu (aH (rwF (n+1) f))),some (.pu (.lst l)),some (.pu (.int p)),some (.pu (.lst (xs.map (ptD n f)))),c,d,e]) ⟨c,d,e,rfl⟩ ?_ ?_
  ·walk_at "u"
   rw[length_map];exact q
  ·rintro j ρ hj ⟨c,d,e,rfl⟩;have hx:xs[j]∈xs:=getElem_mem hj;have e2:(xs.map (ptD n f)).getD j .non=ptD n f xs[j]:=by
    rw[getD_eq_getElem?_getD,getElem?_map,getElem?_eq_getElem hj];rfl
   rw[e2];obtain⟨mx,x1,x4,_⟩:=sp.mem _ hx;have tw:2<=xs[j].2->_:=λh2=>bA3 pp.lo sp hx h2
   generalize xs[j]=x at *;refine⟨by simp,by simp,by simp,rfl,?_⟩
   show(eW _ _ _:US) _ [some (.pu (aH (rwF (n+1) f))),some (.pu (.lst l)),some (.pu (.int p)),some (.pu (.lst (xs.map (ptD n f)))),some (.pu (aH (rwF (x.1.1+1) x.1.2))),some (.pu (.int (x.2:Int))),some (.pu (aH (aU3 n f x.1)))]
   simp only[aH];walk_at "u"
   by_cases c2:(2:Int)<=(x.2:Int)
   ·rw[if_pos c2];have p2:=pp.lo;have p3:=pp.hi;have pq:0<p*p:=Int.mul_pos (by lia) (by lia)
    generalize hr:aU3 n f x.1=r at *;have rl:r.length<=1000:=by
     rw[<-hr];unfold aU3;rw[aM6];have:=qL (divL x.1.2 x.1.1 (n+1-x.1.1) f) (n+1);have:=rf.n4
     lia
    refine eF (t0:=0) r.length (λk=>(r.map D.int).getD k .non) [some (.pu (.tup ((rwF (n+1) f).map .int))),some (.pu (.lst l)),some (.pu (.int p)),some (.pu (.lst (xs.map (ptD n f)))),some (.pu (.tup ((rwF (x.1.1+1) x.1.2).map .int))),some (.pu (.int (x.2:Int))),some (.pu (.tup (r.map .int)))] (λQ' q=> ?_) (by lia) (λx l'=>[x,some (.pu (.int p)),some (.ow l')]) none rfl (λ_ _ _=>rfl) (λ_ _=>zero_lt_succ _) (λ_ _ _ q=>q) (λ_ _ _=>rfl) (λk=> .bl (decide (r.getD k 0%(p*p)=0))) ?_ ?_
    ·walk_at "u"
     rw[length_map];exact q
    ·intro k l' Q' hk q;have e3:(r.map D.int).getD k .non= .int (r.getD k 0):=by
      rw[getD_eq_getElem?_getD,getElem?_map,getD_eq_getElem?_getD,getElem?_eq_getElem hk];rfl
     rw[e3]at q⊢;walk_at "u";refine⟨cmL (by lia) (by lia),by lia,?_⟩
     rw[cI _ pq];exact q
    ·have e4:(List.range r.length).map (λk=>D.bl (decide (r.getD k 0%(p*p)=0)))=((List.range r.length).map λk=>decide (r.getD k 0%(p*p)=0)).map D.bl:=by rw[map_map];rfl
     rw[e4];dsimp only;rw[vG];dsimp only
     by_cases c3:(((List.range r.length).map λk=>decide (r.getD k 0%(p*p)=0)).all id)=true
     ·rw[if_pos c3];walk_at "u";refine⟨n+1,x.1.1,9,8,f,x.1.2,rfl,b53 pp rf.n4 rf.fb mx x4,?_⟩;walk_at "u";rw[at0];refine⟨by decide,h1 p x.1 ⟨hp,hs,mx,x1,x4,tw (by lia),λc hc=> ?_⟩⟩
      rw[hr]at hc;obtain⟨k,hk,rfl⟩:=List.mem_iff_getElem.mp hc;rw[all_eq_true]at c3;have:=c3 (decide (r.getD k 0%(p*p)=0)) (List.mem_map.mpr ⟨k,List.mem_range.mpr hk,rfl⟩);have:=of_decide_eq_true (show decide (r.getD k 0%(p*p)=0)=true from this)
      rw[getD_eq_getElem?_getD,getElem?_eq_getElem hk]at this;exact this
     ·rw[if_neg c3];exact⟨_,_,_,rfl⟩
   ·rw[if_neg c2];exact⟨_,_,_,rfl⟩
  ·rintro ρ ⟨c,d,e,rfl⟩;exact⟨_,_,_,_,_,rfl⟩
 ·rintro ρ ⟨a,b,c,d,e,rfl⟩;exact h0
theorem amgm {g q b m:Int}(h1:g+(q+1)<=2*(b+1))(hg:0<=g)(hq:0<=q)(h2:m<g*(q+1)):m< (b+1)*(b+1):=by
 have a1:0<=(g-(q+1))*(g-(q+1)):=by
  rcases le_total 0 (g-(q+1))with h|h
  ·exact mul_nonneg h h
  ·exact Int.mul_nonneg_of_nonpos_of_nonpos h h
 have a2:(g+(q+1))*(g+(q+1))<=(2*(b+1))*(2*(b+1)):=Int.mul_le_mul h1 h1 (by lia) (by lia)
 grind
theorem b15 {g m:Int}(hg:1<=g)(h:g<=(g+m/g)/2):g*g<=m:=by
 have h1:g<=m/g:=by lia
 have h2:g*(m/g)<=m:=by
  have:=Int.emod_add_mul_ediv m g;have:=emod_nonneg m (show g≠0 by lia)
  lia
 exact Int.le_trans (Int.mul_le_mul_of_nonneg_left h1 (by lia)) h2
theorem aU4 {g m:Int}(hg:1<=g)(hm:0<=m):m< ((g+m/g)/2+1)*((g+m/g)/2+1):=by
 have e:=Int.emod_add_mul_ediv m g;have l:=emod_lt_of_pos m (show 0<g by lia)
 have q0:0<=m/g:=Int.ediv_nonneg hm (by lia)
 refine amgm (g:=g) (q:=m/g) (by lia) (by lia) q0 ?_
 rw[mul_add,mul_one]
 lia
def uF:Φ:=λds Q=> ∃m:Int,ds=[.int m]/\0<=m/\Sm m/\ ∀r:Int,0<=r->r*r<=m->m< (r+1)*(r+1)->Q (.pu (.int r))
def yJ:US:=(aK (b9 1 (a9 0)) (aK (b9 2 (uOp aB8 (uOp hJ (a9 0) (uC (.int 1))) (uC (.int 2)))) (aK (aK3 (bY (uOp (nW λi j=>decide (i<j)) (a9 2) (a9 1))) (aK (b9 1 (a9 2)) (b9 2 (uOp aB8 (uOp hJ (a9 1) (uOp aB8 (a9 0) (a9 1))) (uC (.int 2)))))) (rK 1))))
theorem Sm.le {i m:Int}(h:Sm m)(h0:0<=i)(h1:i<=m):Sm i:=by
 unfold Sm at h⊢;exact lt_of_le_of_lt (by lia) h
theorem bA4: ∀ds Q,uF ds Q->yJ {nx:=λ_=>Q (.pu .non),rt:=Q} (init ["m","g","b"] ds):=by
 rintro ds Q ⟨m,rfl,m0,ms,h⟩;unfold yJ;show(aK _ _:US) _ [some (.pu (.int m)),none,none];walk_at "u";rw[pH _ (by decide)]
 refine⟨⟨by decide,aS5 (by decide) (by decide)⟩,?_⟩
 refine⟨λn ρ=> ∃g b:Int,ρ=[some (.pu (.int m)),some (.pu (.int g)),some (.pu (.int b))]/\n=g.toNat/\0<=g/\g<=m/\m< (g+1)*(g+1)/\((m=0/\b=0)\/(1<=g/\b=(g+m/g)/2)),⟨_,m,(m+1)/2,rfl,rfl,m0,Int.le_refl _,?_,?_⟩,?_⟩
 ·have:m*1<=m*m+m:=by
   rcases le_total m 0 with z|z
   ·have:m=0:=by lia
    subst this;decide
   ·have:=mul_nonneg z z
    lia
  grind
 ·by_cases z:m=0
  ·subst z;exact .inl ⟨rfl,rfl⟩
  ·right
   rw[Int.ediv_self z];exact⟨by lia,rfl⟩
 ·rintro n ρ ⟨g,b,rfl,rfl,g0,gm,hg,hb⟩;walk_at "u";split
  ·rename_i hlt
   rcases hb with⟨rfl,rfl⟩| ⟨g1,rfl⟩
   ·lia
   ·have b1:1<=(g+m/g)/2:=by
     have:1<=m/g:=Int.le_ediv_of_mul_le (by lia) (by lia)
     lia
    rw[pH _ (show 0< (g+m/g)/2 by lia),pH _ (by decide)]
    refine⟨⟨by lia,ms.le (by lia) (by lia)⟩,⟨by decide,aS5 (by decide) (by decide)⟩,_,?_,_,_,rfl,rfl,by lia,by lia,aU4 g1 m0,.inr ⟨b1,rfl⟩⟩
    lia
  ·rename_i hge
   refine h g g0 ?_ hg
   rcases hb with⟨rfl,rfl⟩| ⟨g1,rfl⟩
   ·have:g=0:=by lia
    subst this;decide
   ·exact b15 g1 (by lia)
theorem b16: ∀ds Q,uF ds Q->ds.length=1:=by rintro ds Q ⟨i,rfl,_⟩;rfl
def ev (p:List Int)(z:Int):Int:=ps (λj=>p.getD j 0) z p.length
theorem ev2 (a b z:Int):ev [a,b,1] z=a+b*z+z*z:=by simp[ev,ps];grind
theorem ev3 (a b c z:Int):ev [a,b,c,1] z=a+b*z+c*(z*z)+z*z*z:=by simp[ev,ps];grind
theorem ev4 (a b c d z:Int):ev [a,b,c,d,1] z=a+b*z+c*(z*z)+d*(z*z*z)+z*z*z*z:=by simp[ev,ps];grind
def qq (v u w s:Int):List Int:=[v*w,u*w+v*s,v+w+u*s,u+s,1]
def Red (p:List Int):Prop:=(∃z,ev p z=0)\/ ∃v u w s,p=qq v u w s
structure Fac (p l r:List Int):Prop where
 l2:2<=l.length
 r2:2<=r.length
 l4:l.length<=4
 r4:r.length<=4
 l1:l.getD (l.length-1) 0=1
 r1:r.getD (r.length-1) 0=1
 pr:rwF (l.length+r.length-1) (conv (λj=>l.getD j 0) (λj=>r.getD j 0) l.length)=p
 bl: ∀x∈l,x.natAbs<=2^40
 br: ∀x∈r,x.natAbs<=2^40
theorem fN.cs {p:List Int}(h:fN p):(∃a b,p=[a,b,1])\/(∃a b c,p=[a,b,c,1])\/ ∃a b c d,p=[a,b,c,d,1]:=by
 obtain⟨q,rfl⟩:=h.one;have lo:=h.ok.lo;have hi:=h.ok.hi;rw[length_append,List.length_singleton]at lo hi
 match q,lo,hi with
 | [a,b],_,_=>exact .inl ⟨a,b,rfl⟩
 | [a,b,c],_,_=>exact .inr (.inl ⟨a,b,c,rfl⟩)
 | [a,b,c,d],_,_=>exact .inr (.inr ⟨a,b,c,d,rfl⟩)
 | [],h,_=>simp at h
 | [_],h,_=>simp at h
 | _::_::_::_::_::_,_,h=>simp at h
theorem bN0 {p:List Int}(h:fN p){z:Int}(hz:ev p z=0):z∣p.getD 0 0:=by
 rcases h.cs with⟨a,b,rfl⟩| ⟨a,b,c,rfl⟩| ⟨a,b,c,d,rfl⟩
 ·rw[ev2]at hz;exact⟨-(b+z),by show a=_;grind⟩
 ·rw[ev3]at hz;exact⟨-(b+c*z+z*z),by show a=_;grind⟩
 ·rw[ev4]at hz;exact⟨-(b+c*z+d*(z*z)+z*z*z),by show a=_;grind⟩
theorem b54 {p:List Int}(h:fN p):ev p 0=p.getD 0 0:=by
 rcases h.cs with⟨a,b,rfl⟩| ⟨a,b,c,rfl⟩| ⟨a,b,c,d,rfl⟩
 ·rw[ev2];simp
 ·rw[ev3];simp
 ·rw[ev4];simp
def n8 (z:Int):Nat->Int:=λj=>[-z,1].getD j 0
theorem cY {a b:Int}{m n:Nat}(h1:a.natAbs<=m)(h2:b.natAbs<=n):(a*b).natAbs<=m*n:=by rw[natAbs_mul];exact mul_le_mul h1 h2
set_option maxHeartbeats 2000000 in
theorem quo {p:List Int}(h:fN p){z:Int}(hz:ev p z=0)(z9:z.natAbs<=499): ∃r:List Int,r.length+1=p.length/\2<=r.length/\r.getD (r.length-1) 0=1/\p=rwF p.length (λm=>conv (λj=>r.getD j 0) (n8 z) r.length m+0)/\(∀x∈r,x.natAbs<=2^40)/\Fac p [-z,1] r:=by
 have sm:=h.ok.small;have n1:(-z).natAbs<=2^40:=by rw[natAbs_neg];exact le_trans z9 (by decide)
 have k1:(1:Int).natAbs<=2^40:=by decide
 rcases h.cs with⟨a,b,rfl⟩| ⟨a,b,c,rfl⟩| ⟨a,b,c,d,rfl⟩
 ·rw[ev2]at hz;simp only[forall_mem_cons]at sm;have bd: ∀x∈[b+z,1],x.natAbs<=2^40:=by
   simp only[forall_mem_cons];refine⟨?_,k1,by simp⟩
   have:(2:Nat)^40=1099511627776:=by decide
   omega
  refine⟨[b+z,1],rfl,by simp,rfl,?_,bd,⟨by simp,by simp,by simp,by simp,rfl,rfl,?_,by simp only[forall_mem_cons];exact⟨n1,k1,by simp⟩,bd⟩⟩
  ·simp[rwF,conv,shF,n8,range_succ]
   grind
  ·simp[rwF,conv,shF,range_succ]
   grind
 ·rw[ev3]at hz;simp only[forall_mem_cons]at sm;have m1:(z*z).natAbs<=499*499:=cY z9 z9;have m2:(c*z).natAbs<=499*499:=cY sm.2.2.1 z9;have bd: ∀x∈[b+c*z+z*z,c+z,1],x.natAbs<=2^40:=by
   simp only[forall_mem_cons];have:(2:Nat)^40=1099511627776:=by decide
   refine⟨?_,?_,k1,by simp⟩
   ·omega
   ·omega
  refine⟨[b+c*z+z*z,c+z,1],rfl,by simp,rfl,?_,bd,⟨by simp,by simp,by simp,by simp,rfl,rfl,?_,by simp only[forall_mem_cons];exact⟨n1,k1,by simp⟩,bd⟩⟩
  ·simp[rwF,conv,shF,n8,range_succ]
   grind
  ·simp[rwF,conv,shF,range_succ]
   grind
 ·rw[ev4]at hz;simp only[forall_mem_cons]at sm;have m1:(z*z).natAbs<=499*499:=cY z9 z9;have m2:(c*z).natAbs<=499*499:=cY sm.2.2.1 z9;have m3:(d*(z*z)).natAbs<=499*(499*499):=cY sm.2.2.2.1 m1;have m4:(z*z*z).natAbs<=499*499*499:=cY m1 z9;have m5:(d*z).natAbs<=499*499:=cY sm.2.2.2.1 z9;have bd: ∀x∈[b+c*z+d*(z*z)+z*z*z,c+d*z+z*z,d+z,1],x.natAbs<=2^40:=by
   simp only[forall_mem_cons];have:(2:Nat)^40=1099511627776:=by decide
   refine⟨?_,?_,?_,k1,by simp⟩
   ·omega
   ·omega
   ·omega
  refine⟨[b+c*z+d*(z*z)+z*z*z,c+d*z+z*z,d+z,1],rfl,by simp,rfl,?_,bd,⟨by simp,by simp,by simp,by simp,rfl,rfl,?_,by simp only[forall_mem_cons];exact⟨n1,k1,by simp⟩,bd⟩⟩
  ·simp[rwF,conv,shF,n8,range_succ]
   grind
  ·simp[rwF,conv,shF,range_succ]
   grind
theorem fac_qq {v u w s:Int}(h: ∀x∈[v,u,w,s],x.natAbs<=2^40):Fac (qq v u w s) [v,u,1] [w,s,1]:=by
 simp only[forall_mem_cons]at h;have k1:(1:Int).natAbs<=2^40:=by decide
 refine⟨by simp,by simp,by simp,by simp,rfl,rfl,?_,?_,?_⟩
 ·simp[rwF,conv,shF,qq,range_succ]
  grind
 ·simp only[forall_mem_cons];exact⟨h.1,h.2.1,k1,by simp⟩
 ·simp only[forall_mem_cons];exact⟨h.2.2.1,h.2.2.2.1,k1,by simp⟩
def gN:Φ:=λds Q=> ∃m:Int,ds=[.int m]/\m.natAbs<=499/\ ∀l:List Int,l.length<=1000->(m=0->l=[0])->(m≠0-> ∀x,x∈l↔x∣m)->(∀x∈l,x.natAbs<=499)->Q (.ow (l.map .int))
def t5:US:=(aK (b9 1 (iL aE)) (aK (jX (a40 (a6 (uC (.int 1)) (a6 (uOp hJ (aI bG0 (a6 (a9 0) aE)) (uC (.int 1))) aE))) (cE 2) (eW (bY (uOp (iK false) (uOp n5 (a9 0) (a9 2)) (uC (.int 0)))) (aK (aB7 1 (a9 2)) (aB7 1 (vE (a9 2)))) cN)) (rK 1)))
def o9:US:=(aK (eW (bY (uOp (iK false) (a9 0) (uC (.int 0)))) (bQ (iL (a6 (uC (.int 0)) aE))) cN) t5)
theorem a76: ∀ds Q,gN ds Q->ds.length=1:=by rintro ds Q ⟨m,rfl,_⟩;rfl
theorem uU {x m:Int}(h:x∣m)(hm:m≠0):x.natAbs<=m.natAbs/\1<=x.natAbs:=by
 have h1:=Int.natAbs_dvd_natAbs.mpr h;refine⟨Nat.le_of_dvd (by lia) h1,?_⟩
 rcases Nat.eq_zero_or_pos x.natAbs with z|z
 ·rw[z]at h1;have:=Nat.zero_dvd.mp h1
  lia
 ·exact z
theorem aD1: ∀ds Q,gN ds Q->o9 {nx:=λ_=>Q (.pu .non),rt:=Q} (init ["m","f","d"] ds):=by
 rintro ds Q ⟨m,rfl,m9,h⟩;unfold o9;show(aK _ _:US) _ [some (.pu (.int m)),none,none];rw[aO];walk_at "u"
 by_cases m0:m=0
 ·rw[if_pos m0];exact⟨by decide,h [0] (by simp) (λ_=>rfl) (λz=>absurd m0 z) (by simp)⟩
 rw[if_neg m0];unfold t5;rw[aO];walk_at "u";refine⟨by decide,?_⟩
 refine bG m.natAbs (λk=> .int (1+k)) [some (.pu (.int m)),some (.ow []),none] ?_
  (λi ρ=> ∃(l:List Int) (z:Option B),ρ=[some (.pu (.int m)),some (.ow (l.map .int)),z]/\l.length<=2*i/\ ∀x,x∈l↔(x∣m/\1<=x.natAbs/\x.natAbs<=i)) ⟨[],none,rfl,by simp,λx=> ?_⟩ ?_ ?_
 ·intro Q' q;walk_at "u";have e:(if m<0 then -m else m)=(m.natAbs:Int):=by split<;>lia
  rw[e];refine⟨by lia,?_⟩
  rw[show((m.natAbs:Int)+1-1).toNat=m.natAbs by lia]
  exact q
 ·simp;lia
 ·rintro i ρ hi ⟨l,z,rfl,ll,hl⟩;walk_at "u";refine⟨by simp,by lia,?_⟩
  rw[cI _ (show(0:Int)<1+(i:Int)by lia)]
  split
  ·rename_i hd
   have dv:(1+(i:Int))∣m:=Int.dvd_of_emod_eq_zero hd;refine⟨?_,?_,l++[1+(i:Int),-(1+(i:Int))],some (.pu (.int (1+(i:Int)))),?_,?_,λx=> ?_⟩
   ·rw[length_map];exact lt_of_lt_of_le (show _<2000 by lia) (by decide)
   ·rw[length_append,length_map];exact lt_of_lt_of_le (show _<2000 by simp;lia) (by decide)
   ·rw[map_append];simp
   ·rw[length_append];simp;lia
   ·rw[List.mem_append,hl];constructor
    ·rintro(⟨h1,h2,h3⟩|hx)
     ·exact⟨h1,h2,by lia⟩
     ·simp at hx
      rcases hx with rfl|rfl
      ·exact⟨dv,by lia,by lia⟩
      ·exact⟨by first|exact Int.neg_dvd.mpr dv| (rw[show -1+ -(i:Int)= -(1+(i:Int))by lia];exact Int.neg_dvd.mpr dv),by lia,by lia⟩
    ·rintro⟨h1,h2,h3⟩
     by_cases c:x.natAbs<=i
     ·exact .inl ⟨h1,h2,c⟩
     ·refine .inr ?_
      simp
      lia
  ·rename_i hd
   have dv: ¬(1+(i:Int))∣m:=λz=>hd (Int.emod_eq_zero_of_dvd z)
   refine⟨l,_,rfl,by lia,λx=> ?_⟩
   rw[hl];constructor
   ·rintro⟨h1,h2,h3⟩;exact⟨h1,h2,by lia⟩
   ·rintro⟨h1,h2,h3⟩;refine⟨h1,h2,?_⟩
    by_cases c:x.natAbs<=i
    ·exact c
    ·exfalso
     have:x=1+(i:Int)\/x= -(1+(i:Int)):=by lia
     rcases this with rfl|rfl
     ·exact dv h1
     ·exact dv (Int.neg_dvd.mp h1)
 ·rintro ρ ⟨l,z,rfl,ll,hl⟩;walk_at "u";refine h l (by lia) (λz=>absurd z m0) (λ_ x=> ?_) λx hx=> ?_
  ·rw[hl];exact⟨λq=>q.1,λq=>⟨q,(uU q m0).2,(uU q m0).1⟩⟩
  ·have:=(hl x).mp hx
   lia
def eS:Φ:=λds Q=> ∃p:List Int,ds=[aH p]/\fN p/\((∀z,ev p z≠0)->Q (.pu .non))/\ ∀l r,Fac p l r->Red p->Q (.pu (.tup [aH l,aH r]))
def kY:US:=(bQ (uC .non))
def hZ:US:=(aK (jX (fM (aI gN (a6 (uIx (aN 0) (uC (.int 0))) aE))) (cE 1) (eW (bY (uOp (iK false) (aI iS (a6 (a9 0) (a6 (a9 1) aE))) (uC (.int 0)))) (aK (b9 2 (eC (a6 (vE (a9 1)) (a6 (uC (.int 1)) aE)))) (bQ (eC (a6 (a9 2) (a6 (uIx (uV (aI bO (a6 (a9 0) (a6 (a9 2) aE)))) (uC (.int 0))) aE))))) cN)) kY)
theorem uL: ∀ds Q,eS ds Q->ds.length=1:=by rintro ds Q ⟨m,rfl,_⟩;rfl
theorem t6 (p:List Int)(j:Nat)(h:p.length<=j):p.getD j 0=0:=by rw[getD_eq_getElem?_getD,getElem?_eq_none h];rfl
theorem vK: ∀ds Q,eS ds Q->hZ {nx:=λ_=>Q (.pu .non),rt:=Q} (init ["p","z","l"] ds):=by
 rintro ds Q ⟨p,rfl,hp,hn,hy⟩;have hlo:=hp.ok.lo;have hhi:=hp.ok.hi;unfold hZ;show(aK _ _:US) _ [some (.pu (.tup (p.map .int))),none,none];rw[aO];have p0:(p.getD 0 0).natAbs<=499:=cC hp.ok.small 0;have key: ∀l:List Int,(p.getD 0 0=0->l=[0])->(p.getD 0 0≠0-> ∀x,x∈l↔x∣p.getD 0 0)->(∀x∈l,ev p x≠0)-> ∀z,ev p z≠0:=λl l0 l1 hl z hz=>by
  by_cases c:p.getD 0 0=0
  ·have:=hl 0 (by rw[l0 c];simp)
   rw[b54 hp]at this;exact this c
  ·exact hl z ((l1 c z).mpr (bN0 hp hz)) hz
 unfold jX;simp only[fM];walk_at "u";rw[a62 (by lia)]
 refine⟨p.getD 0 0,rfl,p0,λl l9 l0 l1 lb=> ?_⟩
 dsimp only;rw[length_map];refine⟨λi ρ=> ∃z1 z2,ρ=[some (.pu (.tup (p.map .int))),z1,z2]/\ ∀k,k<i->ev p (l.getD k 0)≠0,⟨none,none,rfl,λk hk=>by lia⟩,?_,?_⟩
 ·rintro i ρ hi ⟨z1,z2,rfl,hk⟩;have e3:(l.map D.int).getD i .non= .int (l.getD i 0):=by
   rw[getD_eq_getElem?_getD,getElem?_map,getElem?_eq_getElem hi,getD_eq_getElem?_getD,getElem?_eq_getElem hi];rfl
  rw[e3];have mem:l.getD i 0∈l:=by rw[getD_eq_getElem?_getD,getElem?_eq_getElem hi];exact getElem_mem hi
  have zb:=lb _ mem;generalize ez:l.getD i 0=z at zb;walk_at "u";refine⟨by simp,?_⟩
  refine⟨p.length,9,9,λj=>p.getD j 0,z,by rw[<-sU];rfl,⟨λj=>le_trans (cC hp.ok.small j) (by decide),le_trans zb (by decide),by lia,by decide,by lia⟩,?_⟩
  show(if ev p z=0 then _ else _)
  by_cases c:ev p z=0
  ·rw[if_pos c];refine⟨by decide,?_⟩
   obtain⟨r,r1,r2,r3,r4,r5,fac⟩:=quo hp c zb;refine⟨p.length,1,9,9,λm=>conv (λj=>r.getD j 0) (n8 z) r.length m+0,n8 z,?_,⟨by lia,by decide,rfl,λj hj=> ?_,λm hm=> ?_,λj=> ?_,by lia,by decide⟩,?_⟩
   ·rw[<-r4];rfl
   ·unfold n8;rw[t6];simp;lia
   ·have e:p.getD m 0=conv (λj=>r.getD j 0) (n8 z) r.length m+0:=by
     have:p[m]? =some (conv (λj=>r.getD j 0) (n8 z) r.length m+0):=by
      conv=>lhs;rw[r4]
      rw[b47 hm]
     rw[getD_eq_getElem?_getD,this];rfl
    rw[<-e];exact le_trans (cC hp.ok.small m) (by decide)
   ·unfold n8;refine cC (b:=2^9) (λx hx=> ?_) j
    simp at hx
    rcases hx with rfl|rfl
    ·rw[natAbs_neg];exact le_trans zb (by decide)
    ·decide
   ·have dc:=a67 (u:=λj=>r.getD j 0) (b:=n8 z) (low:=λ_=>0) (d:=1) rfl (λj hj=>by unfold n8;rw[t6];simp;lia) (λ_ _=>rfl) r.length
    have el:p.length-1=r.length:=by lia
    rw[el];have qe:rwF (cF (divQ (n8 z) 1 r.length λm=>conv (λj=>r.getD j 0) (n8 z) r.length m+0) r.length) (divQ (n8 z) 1 r.length λm=>conv (λj=>r.getD j 0) (n8 z) r.length m+0)=r:=by
     have cn:cF (divQ (n8 z) 1 r.length λm=>conv (λj=>r.getD j 0) (n8 z) r.length m+0) r.length=r.length:=lC (le_refl _) (λm a b=>by lia) (.inr (by
      rw[dc.2 (r.length-1) (by lia),r3];decide))
     rw[cn]
     conv=>rhs;rw[sU r]
     exact iF λj hj=>dc.2 j hj
    rw[qe];walk_at "u";rw[show atI [aH r,aH (rwF (cF (divL (n8 z) 1 r.length λm=>conv (λj=>r.getD j 0) (n8 z) r.length m+0) p.length) (divL (n8 z) 1 r.length λm=>conv (λj=>r.getD j 0) (n8 z) r.length m+0))] 0=some (aH r)from b6 (j:=0) rfl]
    refine⟨by decide,hy [-z,1] r fac (.inl ⟨z,c⟩)⟩
  ·rw[if_neg c];refine⟨_,_,rfl,λk hk2=> ?_⟩
   by_cases ck:k<i
   ·exact hk k ck
   ·have:k=i:=by lia
    rw[this,ez];exact c
 ·rintro ρ ⟨z1,z2,rfl,hk⟩;unfold kY;walk_at "u";refine hn (key l l0 l1 λx hx=> ?_)
  obtain⟨k,hk2,rfl⟩:=List.getElem_of_mem hx;have:=hk k hk2;rw[getD_eq_getElem?_getD,getElem?_eq_getElem hk2]at this;exact this
def jR:Φ:=λds Q=> ∃t m:Int,ds=[.int t,.int m]/\t.natAbs<=2^20/\m.natAbs<=2^20/\ ∀l:List Int,l.length<=2->(∀u,u∈l↔u*(t-u)=m)->Q (.ow (l.map .int))
def t7:US:=(aK (eW (bY (uOp (iK true) (uOp fQ (a9 3) (a9 3)) (a9 2))) (bQ (iL aE)) cN) (bQ (iL (a6 (uOp aB8 (uOp hJ (a9 0) (a9 3)) (uC (.int 2))) (a6 (uOp aB8 (uOp M.gSub (a9 0) (a9 3)) (uC (.int 2))) aE)))))
def t8:US:=(aK (b9 3 (aI uF (a6 (a9 2) aE))) t7)
def t9:US:=(aK (eW (bY (uOp (nW λi j=>decide (i<j)) (a9 2) (uC (.int 0)))) (bQ (iL aE)) cN) t8)
def oA:US:=(aK (b9 2 (uOp M.gSub (uOp fQ (a9 0) (a9 0)) (uOp fQ (uC (.int 4)) (a9 1)))) t9)
theorem a77: ∀ds Q,jR ds Q->ds.length=2:=by rintro ds Q ⟨m,n,rfl,_⟩;rfl
theorem sq_nn (x:Int):0<=x*x:=by
 rcases le_total 0 x with h|h
 ·exact mul_nonneg h h
 ·exact Int.mul_nonneg_of_nonpos_of_nonpos h h
theorem bN1 {a b:Int}(ha:0<=a)(h:a<=b):a*a<=b*b:=Int.mul_le_mul h h ha (by lia)
theorem c14 {g x:Int}(hg:0<=g)(h1:g*g<=x*x)(h2:x*x< (g+1)*(g+1)):x=g\/x= -g:=by
 have e:(x.natAbs:Int)*(x.natAbs:Int)=x*x:=Int.natAbs_mul_self;have a1:(x.natAbs:Int)<=g:=by
  by_cases c:(x.natAbs:Int)<=g
  ·exact c
  ·have:=bN1 (a:=g+1) (b:=(x.natAbs:Int)) (by lia) (by lia)
   lia
 have a2:g<=(x.natAbs:Int):=by
  by_cases c:g<=(x.natAbs:Int)
  ·exact c
  ·have:=bN1 (a:=(x.natAbs:Int)+1) (b:=g) (by lia) (by lia)
   have h3:(x.natAbs:Int)*(x.natAbs:Int)< ((x.natAbs:Int)+1)*((x.natAbs:Int)+1):=by
    have:((x.natAbs:Int)+1)*((x.natAbs:Int)+1)=(x.natAbs:Int)*(x.natAbs:Int)+2*(x.natAbs:Int)+1:=by grind
    lia
   lia
 lia
theorem par {t g m:Int}(h:g*g=t*t-4*m):(t+g)%2=0/\(t-g)%2=0:=by
 have h1:(t-g)*(t+g)=4*m:=by grind
 rcases Int.emod_two_eq (t+g)with c|c
 ·exact⟨c,by lia⟩
 ·exfalso
  obtain⟨a,ha⟩: ∃a,t+g=2*a+1:=⟨(t+g)/2,by lia⟩
  obtain⟨b,hb⟩: ∃b,t-g=2*b+1:=⟨(t-g)/2,by lia⟩
  rw[ha,hb]at h1;have:2*(2*(b*a)+b+a-2*m)+1=0:=by grind
  lia
theorem aD2: ∀ds Q,jR ds Q->oA {nx:=λ_=>Q (.pu .non),rt:=Q} (init ["t","m","s","g"] ds):=by
 rintro ds Q ⟨t,m,rfl,ht,hm,h⟩;have p20:(2:Nat)^20=1048576:=by decide
 have tt:(t*t).natAbs<=2^20*2^20:=cY ht ht;unfold oA;show(aK _ _:US) _ [some (.pu (.int t)),some (.pu (.int m)),none,none];rw[aO];walk_at "u";refine⟨cmL (by omega) (by omega),cmL (by decide) (by decide),?_⟩
 have id1: ∀u:Int,u*(t-u)=m↔(2*u-t)*(2*u-t)=t*t-4*m:=λu=>by
  constructor
  ·intro q;grind
  ·intro q;have:4*(u*(t-u))=4*m:=by grind
   omega
 generalize esq:t*t-4*m=sq at id1;have sqb:sq.natAbs<=2^60:=by
  have:(2:Nat)^60=1152921504606846976:=by decide
  have:(2:Nat)^20*2^20=1099511627776:=by decide
  omega
 unfold t9;rw[aO];walk_at "u"
 by_cases s0:sq<0
 ·rw[if_pos s0];refine⟨by decide,h [] (by simp) λu=> ?_⟩
  rw[id1];simp;intro q;have:=sq_nn (2*u-t);omega
 rw[if_neg s0];unfold t8;rw[aO];walk_at "u";refine⟨sq,rfl,by omega,Sm.pow sqb (by decide),λg g0 g1 g2=> ?_⟩
 have g30:g<=2^30:=by
  by_cases c:g<=2^30
  ·exact c
  ·have:=bN1 (a:=2^30+1) (b:=g) (by decide) (by omega)
   have:((2:Int)^30+1)*(2^30+1)>2^60:=by decide
   have:((2^60:Nat):Int)=2^60:=by decide
   omega
 have k30:(2:Int)^30=1073741824:=by decide
 unfold t7;dsimp only;rw[aO];walk_at "u";refine⟨cmL (by omega) (by omega),?_⟩
 by_cases c:g*g=sq
 ·rw[if_neg (λz=>z c)]
  rw[pH _ (by decide),pH _ (by decide)]
  have pp:=par (t:=t) (g:=g) (m:=m) (by rw[c,esq])
  refine⟨⟨by decide,aS5 (by decide) (by decide)⟩,⟨by decide,aS5 (by decide) (by decide)⟩,by decide,?_⟩
  refine h [(t+g)/2,(t-g)/2] (by simp) λu=> ?_
  rw[id1];simp;constructor
  ·rintro(rfl|rfl)
   ·have:2*((t+g)/2)-t=g:=by omega
    rw[this];exact c
   ·have:2*((t-g)/2)-t= -g:=by omega
    rw[this,Int.neg_mul_neg];exact c
  ·intro q;have:=c14 (g:=g) (x:=2*u-t) g0 (by omega) (by omega)
   omega
 ·rw[if_pos c];refine⟨by decide,h [] (by simp) λu=> ?_⟩
  rw[id1];simp;intro q;rw[<-q]at g1 g2 c;rcases c14 g0 g1 g2 with z|z
  ·rw[z]at c;exact c rfl
  ·rw[z,Int.neg_mul_neg]at c;exact c rfl
def bN2 (g:UG)(tb:US)(E:UD)(b:B)(ρ1:Ev):Prop:=match iD b.d with
 | some l=> ∃Pv:Nat->Ev->Prop,Pv 0 ρ1/\(∀i ρ,i<l.length->Pv i ρ->g (.pu (l.getD i .non)) ρ λρ2=>tb {E with nx:=Pv (i+1),ct:=Pv (i+1),bk:=E.nx} ρ2)/\ ∀ρ,Pv l.length ρ->E.nx ρ
 | none=>False
theorem a78 {φ:Φ}{t:UA}{g:UG}{tb:US}{E:UD}{ρ:Ev}:jX (fM (aI φ t)) g tb E ρ=t ρ λds ρ1=>φ ds λb=>bN2 g tb E b ρ1:=rfl
theorem zG {g:UG}{tb:US}{E:UD}{ρ1:Ev}(l:List Int)(Pv:Nat->Ev->Prop)(h0:Pv 0 ρ1)(hs: ∀i ρ,i<l.length->Pv i ρ->g (.pu (.int (l.getD i 0))) ρ λρ2=>tb {E with nx:=Pv (i+1),ct:=Pv (i+1),bk:=E.nx} ρ2)(hd: ∀ρ,Pv l.length ρ->E.nx ρ):bN2 g tb E (.ow (l.map .int)) ρ1:=by
 show ∃Pv:Nat->Ev->Prop,Pv 0 ρ1/\(∀i ρ,i< (l.map D.int).length->Pv i ρ->g (.pu ((l.map D.int).getD i .non)) ρ λρ2=>tb {E with nx:=Pv (i+1),ct:=Pv (i+1),bk:=E.nx} ρ2)/\ ∀ρ,Pv (l.map D.int).length ρ->E.nx ρ
 rw[length_map];refine⟨Pv,h0,λi ρ hi hp=> ?_,hd⟩
 have e3:(l.map D.int).getD i .non= .int (l.getD i 0):=by
  rw[getD_eq_getElem?_getD,getElem?_map,getElem?_eq_getElem hi,getD_eq_getElem?_getD,getElem?_eq_getElem hi];rfl
 rw[e3];exact hs i ρ hi hp
theorem aI1 {l:List Int}{i:Nat}(hi:i<l.length):l.getD i 0∈l:=by rw[getD_eq_getElem?_getD,getElem?_eq_getElem hi];exact getElem_mem hi
theorem aU5 {l:List Int}{P:Int->Prop}(h: ∀k,k<l.length->P (l.getD k 0)): ∀x∈l,P x:=λx hx=>by
 obtain⟨k,hk,rfl⟩:=List.getElem_of_mem hx;have:=h k hk;rw[getD_eq_getElem?_getD,getElem?_eq_getElem hk]at this;exact this
def dN:Φ:=λds Q=> ∃a b c d:Int,ds=[aH [a,b,c,d,1]]/\(∀x∈[a,b,c,d],x.natAbs<=499)/\a≠0/\((∀v u w s,[a,b,c,d,1]≠qq v u w s)->Q (.pu .non))/\
 ∀v u w s,[a,b,c,d,1]=qq v u w s->(∀x∈[v,u,w,s],x.natAbs<=2^40)->Q (.pu (.tup [aH [v,u,1],aH [w,s,1]]))
def fE:US:=(aK (jX (fM (aI gN (a6 (uIx (aN 0) (uC (.int 0))) aE))) (cE 1) (aK (b9 2 (uOp aB8 (uIx (aN 0) (uC (.int 0))) (a9 1))) (jX (fM (aI jR (a6 (uIx (aN 0) (uC (.int 3))) (a6 (uOp M.gSub (uOp M.gSub (uIx (aN 0) (uC (.int 2))) (a9 1)) (a9 2)) aE)))) (cE 3) (aK (b9 4 (uOp M.gSub (uIx (aN 0) (uC (.int 3))) (a9 3))) (eW (bY (uOp (iK false) (uOp hJ (uOp fQ (a9 3) (a9 2)) (uOp fQ (a9 1) (a9 4))) (uIx (aN 0) (uC (.int 1))))) (bQ (eC (a6 (eC (a6 (a9 1) (a6 (a9 3) (a6 (uC (.int 1)) aE)))) (a6 (eC (a6 (a9 2) (a6 (a9 4) (a6 (uC (.int 1)) aE)))) aE)))) cN))))) (bQ (uC .non)))
theorem qN: ∀ds Q,dN ds Q->ds.length=1:=by rintro ds Q ⟨a,b,c,d,rfl,_⟩;rfl
theorem bA5 {u t m:Int}(h:u*(t-u)=m)(ht:t.natAbs<=2^20)(hm:m.natAbs<=2^20):u.natAbs<=2^20:=by
 by_cases c:t-u=0
 ·have:u=t:=by lia
  rw[this];exact ht
 ·have h1:m.natAbs=u.natAbs*(t-u).natAbs:=by rw[<-h,natAbs_mul]
  have h2:u.natAbs*1<=u.natAbs*(t-u).natAbs:=Nat.mul_le_mul_left _ (by lia)
  lia
theorem sB: ∀ds Q,dN ds Q->fE {nx:=λ_=>Q (.pu .non),rt:=Q} (init ["p","v","w","u","s"] ds):=by
 rintro ds Q ⟨a,b,c,d,rfl,hs,a0,hn,hy⟩;simp only[forall_mem_cons]at hs;obtain⟨ha,hb,hc,hd,_⟩:=hs;have p20:(2:Nat)^20=1048576:=by decide
 have p40:(2:Nat)^40=1099511627776:=by decide
 unfold fE;show(aK _ _:US) _ [some (.pu (.tup [.int a,.int b,.int c,.int d,.int 1])),none,none,none,none];have i0:atI [D.int a,.int b,.int c,.int d,.int 1] 0=some (.int a):=b6 (j:=0) rfl;have i1:atI [D.int a,.int b,.int c,.int d,.int 1] 1=some (.int b):=b6 (j:=1) rfl;have i2:atI [D.int a,.int b,.int c,.int d,.int 1] 2=some (.int c):=b6 (j:=2) rfl
 have i3:atI [D.int a,.int b,.int c,.int d,.int 1] 3=some (.int d):=b6 (j:=3) rfl;rw[aO,a78];walk_at "u";rw[i0];refine⟨a,rfl,ha,λl l9 _ l1 lb=> ?_⟩
 have ld:=l1 a0;refine zG l (λi ρ=> ∃z1 z2 z3 z4,ρ=[some (.pu (.tup [.int a,.int b,.int c,.int d,.int 1])),z1,z2,z3,z4]/\ ∀k,k<i-> ∀u w s,[a,b,c,d,1]≠qq (l.getD k 0) u w s) ⟨none,none,none,none,rfl,λk hk=>by lia⟩ ?_ ?_
 ·rintro i ρ hi ⟨z1,z2,z3,z4,rfl,hk⟩;have mem:=aI1 hi;have vb:=lb _ mem;have vd:=(ld _).mp mem;generalize ev':l.getD i 0=v at vb vd;obtain⟨w,rfl⟩:=vd;have v0:v≠0:=λz=>a0 (by rw[z,zero_mul])
  have wb:w.natAbs<=499:=by
   rw[natAbs_mul]at ha;have:1*w.natAbs<=v.natAbs*w.natAbs:=Nat.mul_le_mul_right _ (by lia)
   lia
  refine⟨by simp,?_⟩
  show(aK _ _:US) _ [some (.pu (.tup [.int (v*w),.int b,.int c,.int d,.int 1])),some (.pu (.int v)),z2,z3,z4]
  rw[aO,qG];walk_at "u";rw[i0];dsimp only;rw[Int.mul_fdiv_cancel_left _ v0];refine⟨⟨v0,aS5 (by lia) (by lia)⟩,?_⟩
  rw[a78];walk_at "u";rw[i3,i2];dsimp only;refine⟨d,c-v-w,rfl,by lia,by lia,λus _ hus=> ?_⟩
  refine zG us (λj ρ=> ∃z3 z4,ρ=[some (.pu (.tup [.int (v*w),.int b,.int c,.int d,.int 1])),some (.pu (.int v)),some (.pu (.int w)),z3,z4]/\ ∀k,k<j->us.getD k 0*w+v*(d-us.getD k 0)≠b) ⟨_,_,rfl,λk hk=>by lia⟩ ?_ ?_
  ·rintro j ρ hj ⟨z3,z4,rfl,hk2⟩;have um:=(hus _).mp (aI1 hj);generalize eu:us.getD j 0=u at um;have ub:=bA5 um (by lia) (by lia)
   refine⟨by simp,?_⟩
   show(aK _ _:US) _ [some (.pu (.tup [.int (v*w),.int b,.int c,.int d,.int 1])),some (.pu (.int v)),some (.pu (.int w)),some (.pu (.int u)),z4]
   rw[aO];walk_at "u";rw[i3];dsimp only;rw[i1];refine⟨cmL (by lia) (by lia),cmL (by lia) (by lia),?_⟩
   dsimp only
   by_cases q:u*w+v*(d-u)=b
   ·rw[if_pos q];refine⟨by decide,by decide,by decide,hy v u w (d-u) ?_ ?_⟩
    ·unfold qq;rw[<-q];have e1:v+w+u*(d-u)=c:=by rw[um];lia
     have e2:u+(d-u)=d:=by lia
     rw[e1,e2]
    ·simp only[forall_mem_cons];exact⟨by lia,by lia,by lia,by lia,by simp⟩
   ·rw[if_neg q];refine⟨_,_,rfl,λk hk3=> ?_⟩
    by_cases ck:k<j
    ·exact hk2 k ck
    ·have:k=j:=by lia
     rw[this,eu];exact q
  ·rintro ρ ⟨z3,z4,rfl,hk2⟩;have no:=aU5 (P:=λu=>u*w+v*(d-u)≠b) hk2
   refine⟨_,_,_,_,rfl,λk hk3=> ?_⟩
   by_cases ck:k<i
   ·exact hk k ck
   ·have:k=i:=by lia
    rw[this,ev'];intro u w' s q;unfold qq at q
    injection q with q0 q;injection q with q1 q;injection q with q2 q;injection q with q3 q
    have ww:w'=w:=by
     have:=Int.eq_of_mul_eq_mul_left v0 q0
     lia
    subst ww;have us':s=d-u:=by lia
    subst us';exact no u ((hus u).mpr (by lia)) q1.symm
 ·rintro ρ ⟨z1,z2,z3,z4,rfl,hk⟩;walk_at "u";refine hn λv u w s q=> ?_
  have no:=aU5 (P:=λv=> ∀u w s,[a,b,c,d,1]≠qq v u w s) hk
  refine no v ((ld v).mpr ?_) u w s q
  unfold qq at q
  injection q with q0 q
  exact⟨w,q0⟩
def mG:Φ:=λds Q=> ∃p:List Int,ds=[aH p]/\fN p/\(¬Red p->Q (.pu .non))/\ ∀l r,Fac p l r->Red p->Q (.pu (.tup [aH l,aH r]))
def kA:US:=(rK 1)
def tD:US:=(aK (eW (aY2 (bY (aR9 false (a9 1))) (bY (uOp (iK false) (hV (aN 0)) (uC (.int 5))))) (b9 1 (aI dN (a6 (a9 0) aE))) cN) kA)
def zH:US:=(aK (b9 1 (aI eS (a6 (a9 0) aE))) tD)
def vL:US:=(aK (sJ (aI bT (a6 (a9 0) aE))) zH)
theorem aU6: ∀ds Q,mG ds Q->ds.length=1:=by rintro ds Q ⟨a,rfl,_⟩;rfl
theorem b17: ∀ds Q,mG ds Q->vL {nx:=λ_=>Q (.pu .non),rt:=Q} (init ["p","q"] ds):=by
 rintro ds Q ⟨p,rfl,hp,hn,hy⟩;unfold vL;show(aK _ _:US) _ [some (.pu (.tup (p.map .int))),none];rw[aO];walk_at "u";refine⟨p,rfl,hp,?_⟩;try dsimp only
 unfold zH;rw[aO];walk_at "u";refine⟨p,rfl,hp,λnr=> ?_,λl r fac red=> ?_⟩
 ·try dsimp only
  unfold tD;rw[aO];walk_at "u";rw[length_map]
  by_cases c:(p.length:Int)=5
  ·simp only[c,if_true];have sm:=hp.ok.small;rcases hp.cs with⟨a,b,rfl⟩| ⟨a,b,c',rfl⟩| ⟨a,b,c',d,rfl⟩
   ·simp at c
   ·simp at c
   ·simp only[forall_mem_cons]at sm;refine⟨a,b,c',d,rfl,by simp only[forall_mem_cons];exact⟨sm.1,sm.2.1,sm.2.2.1,sm.2.2.2.1,by simp⟩,λz=> ?_,λnq=> ?_,λv u w s q bd=> ?_⟩
    ·refine nr 0 ?_
     rw[b54 hp];exact z
    ·unfold kA;walk_at "u";refine hn λrd=> ?_
     rcases rd with⟨z,hz⟩| ⟨v,u,w,s,q⟩
     ·exact nr z hz
     ·exact nq v u w s q
    ·unfold kA;walk_at "u";exact hy _ _ (by rw[q];exact fac_qq bd) (.inr ⟨v,u,w,s,q⟩)
  ·simp only[c,if_true,if_false];unfold kA;walk_at "u";refine hn λrd=> ?_
   rcases rd with⟨z,hz⟩| ⟨v,u,w,s,q⟩
   ·exact nr z hz
   ·rw[q]at c;exact c rfl
 ·try dsimp only
  unfold tD;rw[aO];walk_at "u";unfold kA;walk_at "u";exact hy l r fac red
def fOf (p:List Int):Nat->Int:=λj=>p.getD j 0
theorem fN.rf {p:List Int}(h:fN p):RF (p.length-1) (fOf p):=by
 have lo:=h.ok.lo;have hi:=h.ok.hi;refine⟨by omega,by omega,?_,λj hj=> ?_,λj=> ?_⟩
 ·obtain⟨q,rfl⟩:=h.one;show(q++[1]).getD _ 0=1;rw[length_append,getD_eq_getElem?_getD,getElem?_append_right (by simp)]
  simp
 ·show p.getD j 0=0
  rw[getD_eq_getElem?_getD,getElem?_eq_none (by omega)]
  rfl
 ·exact le_trans (cC h.ok.small j) (by decide)
theorem fN.row {p:List Int}(h:fN p):aH p=aH (rwF (p.length-1+1) (fOf p)):=by
 have lo:=h.ok.lo;have e:=sU p;rw[show p.length-1+1=p.length by omega]
 exact congrArg aH e
def nN:Φ:=λds Q=> ∃(r:List Int) (k:Int),ds=[aH r,.int k]/\r.length<=1000/\ -1000<=k/\k<=1000/\Q (.pu (aH (r++replicate (k-(r.length:Int)).toNat 0)))
def tE:US:=(bQ (uOp hJ (a9 0) (uOp b37 (eC (a6 (uC (.int 0)) aE)) (uOp M.gSub (a9 1) (hV (aN 0))))))
theorem aN2: ∀ds Q,nN ds Q->ds.length=2:=by rintro ds Q ⟨r,k,rfl,_⟩;rfl
theorem aU7: ∀ds Q,nN ds Q->tE {nx:=λ_=>Q (.pu .non),rt:=Q} (init ["r","s"] ds):=by
 rintro ds Q ⟨r,k,rfl,hr,k0,k1,h⟩;unfold tE;simp only[aH];show(bQ _:US) _ [some (.pu (.tup (r.map .int))),some (.pu (.int k))];walk_at "u";rw[length_map];have e:(replicate (k-(r.length:Int)).toNat [D.int 0]).flatten=(replicate (k-(r.length:Int)).toNat 0).map D.int:=aS6 _ _;rw[e,<-map_append]
 refine⟨by decide,⟨by simp,by lia,by lia,le_trans (show 1*(k-(r.length:Int)).toNat<=1000 by lia) (by decide)⟩,?_,h⟩
 rw[length_map,List.length_replicate];exact le_trans (show r.length+(k-(r.length:Int)).toNat<=3000 by lia) (by decide)
def cT:ΦX:=λds Q Ex=> ∃p:List Int,ds=[aH p]/\fN p/\(¬Red p->Q (.pu .non))/\(Red p-> ∀l r,Fac p l r->Ex "FallsApart" [aH l,aH r])
def gI:USX:=(λEx=>aK ((λ_=>(b9 1 (aI mG (a6 (a9 0) aE)))) Ex) ((λEx=>eW (bY (aR9 true (a9 1))) ((wQ "FallsApart" (uIx (aN 1) (uC (.int 0))) (uIx (aN 1) (uC (.int 1)))) Ex) ((λ_=>cN) Ex)) Ex))
theorem tF: ∀ds Q Ex,cT ds Q Ex->ds.length=1:=by rintro ds Q Ex ⟨p,rfl,_⟩;rfl
theorem uM: ∀ds Q Ex,cT ds Q Ex->gI Ex {nx:=λ_=>Q (.pu .non),rt:=Q} (init ["p","q"] ds):=by
 rintro ds Q Ex ⟨p,rfl,rp,h0,h1⟩;unfold gI;dsimp only;show(aK _ _:US) _ [some (.pu (aH p)),none];rw[aO];walk_at "u";refine⟨p,rfl,rp,λnr=> ?_,λl r fac red=> ?_⟩
 ·walk_at "u"
  simpa using h0 nr
 ·walk_at "u"
  simp only[at0,at1];exact h1 red l r fac
def eG:ΦX:=λds Q Ex=> ∃(p:List Int) (size:Int),ds=[aH p,.int size]/\fN p/\Q (.pu .non)/\((∃q g,Outs (p.length-1) (fOf p) size q g)-> ∀es,Ex "NotWhole" es)
def jI:USX:=(λEx=>aK ((λ_=>(b9 2 (aI gW (a6 (a9 0) (a6 (aI iU (a6 (a9 0) (a6 (a9 1) aE))) aE))))) Ex) ((λEx=>eW (bY (aR9 true (a9 2))) ((λEx=>aK ((λ_=>(bF3 (a9 2) (rM (dP 3 (dP 4 rL))))) Ex) ((wQ "NotWhole" (a9 3) (aI nN (a6 (aI cS (a6 (eX [3] [none,some 3,none] 2 (fM (a9 4)) (cE 0) (λρ Q=>Q true ρ) (uOp n5 (a9 0) (a9 1))) aE)) (a6 (uOp M.gSub (hV (aN 0)) (uC (.int 1))) aE)))) Ex)) Ex) ((λ_=>cN) Ex)) Ex))
theorem wZ: ∀ds Q Ex,eG ds Q Ex->ds.length=2:=by rintro ds Q Ex ⟨p,size,rfl,_⟩;rfl
theorem yK: ∀ds Q Ex,eG ds Q Ex->jI Ex {nx:=λ_=>Q (.pu .non),rt:=Q} (init ["p","s","o","q","f"] ds):=by
 rintro ds Q Ex ⟨p,size,rfl,rp,h0,h1⟩;have rf:=rp.rf;rw[rp.row];generalize p.length-1=n at *;generalize fOf p=f at *;unfold jI;dsimp only;show(aK _ _:US) _ [some (.pu (aH (rwF (n+1) f))),some (.pu (.int size)),none,none,none];rw[aO];walk_at "u";refine⟨n,f,size,rfl,rf,λl hl hP=>⟨n,f,size,l,rfl,rf,hl,hP,?_,λq g outs=> ?_⟩⟩
 ·walk_at "u"
  simpa using h0
 ·have pp:=a70 outs.pr;have p2:=pp.lo;have p3:=pp.hi;have ql:(bY2 n f g).length<=5:=by
   unfold bY2;rw[aM6];have:=qL (divQ g.2 g.1 (n+1-g.1) f) (n+1-g.1);have:=rf.n4
   lia
  generalize bY2 n f g=r at *;simp only[aH];walk_at "u";refine⟨by decide,by decide,trivial,?_⟩
  refine eF (t0:=0) r.length (λk=>(r.map D.int).getD k .non) [some (.pu (.tup ((rwF (n+1) f).map .int))),some (.pu (.int size)),some (.pu (.tup [.int q,.tup (r.map .int)])),some (.pu (.int q)),some (.pu (.tup (r.map .int)))] (λQ' q=> ?_) (by lia) (λx l'=>[x,some (.pu (.int q)),some (.ow l')]) none rfl (λ_ _ _=>rfl) (λ_ _=>zero_lt_succ _) (λ_ _ _ q=>q) (λ_ _ _=>rfl) (λk=> .int (r.getD k 0%q)) ?_ ?_
  ·walk_at "u"
   rw[length_map];exact q
  ·intro k l' Q' hk q';have e3:(r.map D.int).getD k .non= .int (r.getD k 0):=by
    rw[getD_eq_getElem?_getD,getElem?_map,getD_eq_getElem?_getD,getElem?_eq_getElem hk];rfl
   rw[e3]at q'⊢;walk_at "u";refine⟨by lia,?_⟩
   rw[cI _ (by lia)]
   exact q'
  ·have e4:(List.range r.length).map (λk=>D.int (r.getD k 0%q))=((List.range r.length).map λk=>r.getD k 0%q).map D.int:=by rw[map_map];rfl
   rw[e4];have n4:=rf.n4;walk_at "u";refine⟨_,_,rfl,by rw[length_map,length_range];lia,?_,?_,h1 ⟨q,g,outs⟩ _⟩
   ·rw[bD];lia
   ·rw[bD];lia
structure RingOk (p:List Int):Prop where
 rp:fN p
 irr: ¬Red p
 meas:(sA 4 (fW p)).natAbs<=39999
 whole: ¬ ∃q g,Outs (p.length-1) (fOf p) (sA 4 (fW p)) q g
def tG:ΦM:=λds Q Ex=> ∃p:List Int,ds=[aH p]/\fN p/\(¬Red p->(sA 4 (fW p)).natAbs<=39999->Q [aH p,.int ((p.length:Int)-1),.int (sA 4 (fW p))])/\(Red p-> ∀l r,Fac p l r->Ex "FallsApart" [aH l,aH r])/\(¬Red p-> ¬RingOk p->Ex "TooGreat" []/\ ∀es,Ex "NotWhole" es)
def a79:USX:=(λEx=>aK ((λ_=>(sJ (aI bT (a6 (a9 1) aE)))) Ex) ((λEx=>aK ((λEx=>sJ (aL7 cT (a6 (a9 1) aE) Ex)) Ex) ((λEx=>aK ((λ_=>(b9 2 (aI lB (a6 (a9 1) aE)))) Ex) ((λEx=>aK ((λEx=>eW (bY (uOp (nW λi j=>decide (j<i)) (aI bG0 (a6 (a9 2) aE)) (uC (.int 39999)))) ((aL8 "TooGreat" (a6 (uC (.str "a ring's measure is from -39,999 to 39,999")) aE)) Ex) ((λ_=>cN) Ex)) Ex) ((λEx=>sJ (aL7 eG (a6 (a9 1) (a6 (a9 2) aE)) Ex)) Ex)) Ex)) Ex)) Ex))
def a80:UE:=(a9 1)
def a81:UE:=(uOp M.gSub (hV (aN 1)) (uC (.int 1)))
def a82:UE:=(a9 2)
theorem bA6: ∀ds Q Ex,tG ds Q Ex->ds.length+1=2:=by rintro ds Q Ex ⟨p,rfl,_⟩;rfl
theorem bN3: ∀a ds Q Ex,tG ds Q Ex->a79 Ex {nx:=λρ=>ρ[0]? =some (some (.pu (.adr a)))/\a80 ρ λb1 ρ1=>a81 ρ1 λb2 ρ2=>a82 ρ2 λb3 _=>Q [b1.d,b2.d,b3.d],rt:=λ_=>False} (init ["s","p","m"] (.adr a::ds)):=by
 rintro a ds Q Ex ⟨p,rfl,rp,h0,hr,h1⟩;have lo:=rp.ok.lo;unfold a79;dsimp only;show(aK _ _:US) _ [some (.pu (.adr a)),some (.pu (aH p)),none];rw[aO];walk_at "u";refine⟨p,rfl,rp,?_⟩;walk_at "u";refine⟨p,rfl,rp,λnr=> ?_,hr⟩
 refine⟨p,rfl,rp,?_⟩
 walk_at "u"
 by_cases c:(39999:Int)< (if sA 4 (fW p)<0 then -sA 4 (fW p)else sA 4 (fW p))
 ·rw[if_pos c];refine⟨by decide,(h1 nr λz=> ?_).1⟩
  have:=z.meas;split at c<;>omega
 ·rw[if_neg c];have me:(sA 4 (fW p)).natAbs<=39999:=by split at c<;>omega
  refine⟨p,sA 4 (fW p),rfl,rp,⟨trivial,?_⟩,λo=>(h1 nr λz=>z.whole o).2⟩
  unfold a80 a81 a82;simp only[aH];walk_at "u";rw[length_map];exact h0 nr me
def iV:Φ:=λds Q=> ∃(U V e:Nat) (u b:Nat->Int),ds=[aH (rwF U u),aH (rwF V b)]/\1<=U/\U<=100/\1<=V/\V<=100/\e<8000/\(∀j,V<=j->b j=0)/\(∀j,(u j).natAbs<=2^e)/\(∀j,(b j).natAbs<=2^e)/\Q (.pu (aH (rwF (U+V-1) (conv u b U))))
def qO:US:=(aK (b9 2 (uOp fQ (iL (a6 (uC (.int 0)) aE)) (uOp M.gSub (uOp hJ (hV (aN 0)) (hV (aN 1))) (uC (.int 1))))) (aK (jX (jY (a6 (hV (aN 0)) aE)) (cE 3) (jX (jY (a6 (hV (aN 1)) aE)) (cE 4) (b32 2 (uOp hJ (uIx (aN 2) (uOp hJ (a9 3) (a9 4))) (uOp fQ (uIx (aN 0) (a9 3)) (uIx (aN 1) (a9 4)))) (uOp hJ (a9 3) (a9 4))))) (bQ (aI cS (a6 (a9 2) aE)))))
theorem aD3: ∀ds Q,iV ds Q->ds.length=2:=by rintro ds Q ⟨U,V,e,u,b,rfl,_⟩;rfl
theorem bN4 (u b:Nat->Int)(i N:Nat):(rwF N λm=>if m<i+0 then conv u b (i+1) m else conv u b i m)=rwF N (conv u b i):=by
 apply iF
 intro m hm
 by_cases c:m<i+0
 ·rw[if_pos c];show conv u b i m+u i*shF b i m=_;unfold shF;rw[if_neg (by omega)]
  omega
 ·rw[if_neg c]
theorem bN5 {u b:Nat->Int}{i V N:Nat}(hz: ∀j,V<=j->b j=0):(rwF N λm=>if m<i+V then conv u b (i+1) m else conv u b i m)=rwF N (conv u b (i+1)):=by
 apply iF
 intro m hm
 by_cases c:m<i+V
 ·rw[if_pos c]
 ·rw[if_neg c];show _=conv u b i m+u i*shF b i m;unfold shF;rw[if_pos (by omega),hz _ (by omega)]
  omega
theorem bN6 (u b:Nat->Int)(i j N:Nat):(rwF N λx=>if x=i+j then conv u b i (i+j)+u i*b j else if x<i+j then conv u b (i+1) x else conv u b i x)=rwF N λm=>if m<i+(j+1)then conv u b (i+1) m else conv u b i m:=by
 apply iF
 intro m hm
 by_cases c:m=i+j
 ·subst c;rw[if_pos rfl,if_pos (by omega)]
  show _=conv u b i (i+j)+u i*shF b i (i+j)
  unfold shF;rw[if_pos (by omega),show i+j-i=j by omega]
 ·rw[if_neg c]
  by_cases c3:m<i+j
  ·rw[if_pos c3,if_pos (by omega)]
  ·rw[if_neg c3,if_neg (by omega)]
theorem aN3: ∀ds Q,iV ds Q->qO {nx:=λ_=>Q (.pu .non),rt:=Q} (init ["l","r","w","i","j"] ds):=by
 rintro ds Q ⟨U,V,e,u,b,rfl,U1,U9,V1,V9,e8,hz,hu,hb,h⟩;unfold qO;simp only[aH];show(aK _ _:US) _ [some (.pu (.tup ((rwF U u).map .int))),some (.pu (.tup ((rwF V b).map .int))),none,none,none];walk_at "u";rw[bD,bD,show(U:Int)+(V:Int)-1=((U+V-1:Nat):Int)by omega,toNat_natCast,aH4]
 refine⟨by decide,⟨by omega,by omega,le_trans (show 1*(U+V-1)<=300 by omega) (by decide)⟩,?_⟩
 refine bG U (λi=> .int (0+i)) [some (.pu (.tup ((rwF U u).map .int))),some (.pu (.tup ((rwF V b).map .int))),some (.ow ((rwF (U+V-1) λ_=>0).map .int)),none,none] ?_
  (λi ρ=> ∃x y,ρ=[some (.pu (.tup ((rwF U u).map .int))),some (.pu (.tup ((rwF V b).map .int))),some (.ow ((rwF (U+V-1) (conv u b i)).map .int)),x,y]) ⟨none,none,rfl⟩ ?_ ?_
 ·intro Q' q;walk_at "u";rw[bD];refine⟨⟨by omega,by omega⟩,?_⟩
  rw[toNat_natCast];exact q
 ·rintro i ρ hi ⟨x,y,rfl⟩;rw[zero_add];refine⟨by simp,?_⟩
  show(jX _ _ _:US) _ [some (.pu (.tup ((rwF U u).map .int))),some (.pu (.tup ((rwF V b).map .int))),some (.ow ((rwF (U+V-1) (conv u b i)).map .int)),some (.pu (.int (i:Int))),y]
  refine bG V (λj=> .int (0+j)) [some (.pu (.tup ((rwF U u).map .int))),some (.pu (.tup ((rwF V b).map .int))),some (.ow ((rwF (U+V-1) (conv u b i)).map .int)),some (.pu (.int (i:Int))),y] ?_
   (λj ρ=> ∃y,ρ=[some (.pu (.tup ((rwF U u).map .int))),some (.pu (.tup ((rwF V b).map .int))),some (.ow ((rwF (U+V-1) λm=>if m<i+j then conv u b (i+1) m else conv u b i m).map .int)),some (.pu (.int (i:Int))),y]) ⟨y,by rw[bN4]⟩ ?_ ?_
  ·intro Q' q;walk_at "u";rw[bD];refine⟨⟨by omega,by omega⟩,?_⟩
   rw[toNat_natCast];exact q
  ·rintro j ρ hj ⟨y,rfl⟩;rw[zero_add];have hij:i+j<U+V-1:=by omega
   have c2:(i:Int)+(j:Int)=((i+j:Nat):Int):=by omega
   walk_at "u"
   rw[c2,qK hij,qK hi,qK hj];dsimp only;rw[bD,b11 hij,if_neg (show ¬i+j<i+j by omega)]
   refine⟨by simp,.inr ⟨Sm.pow (hu i) (by omega),Sm.pow (hb j) (by omega)⟩,some (.pu (.int (j:Int))),?_⟩
   rw[aM7 hij,bN6]
  ·rintro ρ ⟨y,rfl⟩;rw[bN5 hz];exact⟨_,_,rfl⟩
 ·rintro ρ ⟨x,y,rfl⟩;walk_at "u";exact h
theorem bN7 (t u:UE)(ρ:Ev)(Q:B->Ev->Prop):uP t u ρ Q=t ρ λx ρ1=>isB (λc ρ1=>if c=true then u ρ1 Q else Q (.pu (.bl false)) ρ1) x ρ1:=rfl
def tH:Φ:=λds Q=> ∃l:List Int,ds=[aH l]/\2<=l.length/\l.length<=100/\l.getD (l.length-1) 0=1/\Q (.pu (.bl true))
def a83:US:=(bQ (uP (aI bG3 (a6 (eX [] [none,none] 1 (fM (a9 0)) (cE 0) (λρ Q=>Q true ρ) (aI sS (a6 (a9 0) aE))) aE)) (uOp (iK false) (uIx (aN 0) (vE (uC (.int 1)))) (uC (.int 1)))))
def a84:US:=(aK (eW (uOr (aK1 (bY (aI b76 (a6 (a9 0) (a6 (uC (.ty "tuple")) aE))))) (bY (uOp (nW λi j=>decide (i<j)) (hV (aN 0)) (uC (.int 2))))) (bQ (uC (.bl false))) cN) a83)
theorem bA7: ∀ds Q,tH ds Q->ds.length=1:=by rintro ds Q ⟨l,rfl,_⟩;rfl
theorem bN8: ∀ds Q,tH ds Q->a84 {nx:=λ_=>Q (.pu .non),rt:=Q} (init ["f"] ds):=by
 rintro ds Q ⟨l,rfl,l2,l9,l1,h⟩;unfold a84;show(aK _ _:US) _ [some (.pu (.tup (l.map .int)))];rw[aO];walk_at "u";rw[length_map];rw[if_neg (show ¬(l.length:Int)<2 by omega)]
 unfold a83;rw[iO,bN7,eZ,fU];refine bA0 _ none [] l (by omega) ?_
 walk_at "u"
 rw[vG];have ea:(replicate l.length true).all id=true:=by simp
 have el:atI (l.map D.int) (-1)=some (.int 1):=by
  conv=>lhs;rw[sU l]
  rw[zE (by omega),l1]
 simp only[ea,if_true,el]
 simpa using h
def x6:Φ:=λds Q=> ∃p l r:List Int,ds=[aH l,aH r,aH p]/\Fac p l r/\Q (.pu (.bl true))
def aI2:US:=(bQ (uOp (bU2 false) (aI iV (a6 (a9 0) (a6 (a9 1) aE))) (a9 2)))
def aN4:US:=(aK (eW (uOr (aK1 (bY (aI tH (a6 (a9 0) aE)))) (aK1 (bY (aI tH (a6 (a9 1) aE))))) (bQ (uC (.bl false))) cN) aI2)
theorem bN9: ∀ds Q,x6 ds Q->ds.length=3:=by rintro ds Q ⟨p,l,r,rfl,_⟩;rfl
theorem bY3: ∀ds Q,x6 ds Q->aN4 {nx:=λ_=>Q (.pu .non),rt:=Q} (init ["l","r","p"] ds):=by
 rintro ds Q ⟨p,l,r,rfl,fac,h⟩;obtain⟨l2,r2,l4,r4,l1,r1,pr,bl,br⟩:=fac;unfold aN4;show(aK _ _:US) _ [some (.pu (aH l)),some (.pu (aH r)),some (.pu (aH p))];rw[aO];walk_at "u";refine⟨l,rfl,l2,by omega,l1,?_⟩
 simp only[isB,reduceCtorEq,if_false];refine⟨r,rfl,r2,by omega,r1,?_⟩
 simp only[isB,reduceCtorEq,if_false];unfold aI2;rw[iO,b12];walk_at "u";refine⟨l.length,r.length,40,λj=>l.getD j 0,λj=>r.getD j 0,by rw[<-sU,<-sU],by omega,by omega,by omega,by omega,by decide,t6 r,λj=>cC bl j,λj=>cC br j,?_⟩
 walk_at "u"
 rw[pr];exact aT2 (by rw[false_xor,decide_eq_true rfl];exact h)
def tmO (l r:List Int):List Int:=rwF (l.length+r.length-1) (conv (λj=>l.getD j 0) (λj=>r.getD j 0) l.length)
theorem t11 (a b:Int):tmO [a,1] [b,1]=[a*b,a+b,1]:=by
 simp[tmO,rwF,conv,shF,range_succ];try grind
theorem t12 (a b c:Int):tmO [a,1] [b,c,1]=[a*b,a*c+b,a+c,1]:=by
 simp[tmO,rwF,conv,shF,range_succ];try grind
theorem t21 (a b c:Int):tmO [a,b,1] [c,1]=[a*c,a+b*c,b+c,1]:=by
 simp[tmO,rwF,conv,shF,range_succ];try grind
theorem t13 (a b c d:Int):tmO [a,1] [b,c,d,1]=[a*b,a*c+b,a*d+c,a+d,1]:=by
 simp[tmO,rwF,conv,shF,range_succ];try grind
theorem t31 (a b c d:Int):tmO [a,b,c,1] [d,1]=[a*d,a+b*d,b+c*d,c+d,1]:=by
 simp[tmO,rwF,conv,shF,range_succ];try grind
theorem t22 (a b c d:Int):tmO [a,b,1] [c,d,1]=qq a b c d:=by
 simp[tmO,rwF,conv,shF,range_succ,qq];try grind
theorem vM {x y:Int}(hx:x.natAbs<=15)(hy:y.natAbs<=15):(x*y).natAbs<=225:=by rw[natAbs_mul];exact mul_le_mul hx hy
theorem rS {p:List Int}(h:2<=p.length)(h2:p.length<=4)(hs: ∀x∈p,x.natAbs<=499):fN (p++[1]):=by
 refine⟨⟨by simp;lia,by simp;lia,λx hx=> ?_⟩,p,rfl⟩
 rcases List.mem_append.mp hx with z|z
 ·exact hs x z
 ·rw[List.mem_singleton.mp z];decide
def i4 (p:List Int):Prop:=fN p/\Red p
theorem d11 {a b:Int}(ha:a.natAbs<=15)(hb:b.natAbs<=15):i4 (tmO [a,1] [b,1]):=by
 rw[t11];have m:=vM ha hb;refine⟨rS (p:=[_,_]) (by simp) (by simp) (by simp only[forall_mem_cons];exact⟨by lia,by lia,by simp⟩),.inl ⟨-a,?_⟩⟩
 rw[ev2];grind
theorem d12 {a b c:Int}(ha:a.natAbs<=15)(hb:b.natAbs<=15)(hc:c.natAbs<=15):i4 (tmO [a,1] [b,c,1]):=by
 rw[t12];have m:=vM ha hb;have m2:=vM ha hc;refine⟨rS (p:=[_,_,_]) (by simp) (by simp) (by simp only[forall_mem_cons];exact⟨by lia,by lia,by lia,by simp⟩),.inl ⟨-a,?_⟩⟩
 rw[ev3];grind
theorem d21 {a b c:Int}(ha:a.natAbs<=15)(hb:b.natAbs<=15)(hc:c.natAbs<=15):i4 (tmO [a,b,1] [c,1]):=by
 rw[t21];have m:=vM ha hc;have m2:=vM hb hc;refine⟨rS (p:=[_,_,_]) (by simp) (by simp) (by simp only[forall_mem_cons];exact⟨by lia,by lia,by lia,by simp⟩),.inl ⟨-c,?_⟩⟩
 rw[ev3];grind
theorem d13 {a b c d:Int}(ha:a.natAbs<=15)(hb:b.natAbs<=15)(hc:c.natAbs<=15)(hd:d.natAbs<=15):i4 (tmO [a,1] [b,c,d,1]):=by
 rw[t13];have m:=vM ha hb;have m2:=vM ha hc;have m3:=vM ha hd;refine⟨rS (p:=[_,_,_,_]) (by simp) (by simp) (by simp only[forall_mem_cons];exact⟨by lia,by lia,by lia,by lia,by simp⟩),.inl ⟨-a,?_⟩⟩
 rw[ev4];grind
theorem d31 {a b c d:Int}(ha:a.natAbs<=15)(hb:b.natAbs<=15)(hc:c.natAbs<=15)(hd:d.natAbs<=15):i4 (tmO [a,b,c,1] [d,1]):=by
 rw[t31];have m:=vM ha hd;have m2:=vM hb hd;have m3:=vM hc hd;refine⟨rS (p:=[_,_,_,_]) (by simp) (by simp) (by simp only[forall_mem_cons];exact⟨by lia,by lia,by lia,by lia,by simp⟩),.inl ⟨-d,?_⟩⟩
 rw[ev4];grind
theorem d22 {a b c d:Int}(ha:a.natAbs<=15)(hb:b.natAbs<=15)(hc:c.natAbs<=15)(hd:d.natAbs<=15):i4 (tmO [a,b,1] [c,d,1]):=by
 rw[t22];have m:=vM ha hc;have m1:=vM hb hc;have m2:=vM ha hd;have m3:=vM hb hd;refine⟨?_,.inr ⟨a,b,c,d,rfl⟩⟩;unfold qq;exact rS (p:=[_,_,_,_]) (by simp) (by simp) (by simp only[forall_mem_cons];exact⟨by lia,by lia,by lia,by lia,by simp⟩)
theorem pM: ∀p∈([[0,499,1],[-499,498,1],[0,0,1],[4,0,0,0,1],[-499,1,-499,1],[6,0,-5,0,1]]:List (List Int)),i4 p:=by
 simp only[forall_mem_cons];refine⟨?_,?_,?_,?_,?_,?_,by simp⟩
 ·exact⟨rS (p:=[0,499]) (by decide) (by decide) (by decide),.inl ⟨0,by decide⟩⟩
 ·exact⟨rS (p:=[-499,498]) (by decide) (by decide) (by decide),.inl ⟨1,by decide⟩⟩
 ·exact⟨rS (p:=[0,0]) (by decide) (by decide) (by decide),.inl ⟨0,by decide⟩⟩
 ·exact⟨rS (p:=[4,0,0,0]) (by decide) (by decide) (by decide),.inr ⟨2,2,2,-2,by decide⟩⟩
 ·exact⟨rS (p:=[-499,1,-499]) (by decide) (by decide) (by decide),.inl ⟨499,by decide⟩⟩
 ·exact⟨rS (p:=[6,0,-5,0]) (by decide) (by decide) (by decide),.inr ⟨-2,0,-3,0,by decide⟩⟩
theorem bO0 (D:UD)(ρ:Ev):cN D ρ=D.nx ρ:=rfl
theorem bO1 (i:Nat)(n1:Str)(mk:Addr->Addr->List D->D)(names:List Str)(tb:USY)(th1:D->US)(th2:US)(E:UD)(ρ:Ev):bK2 i n1 mk names tb th1 th2 E ρ=tb (λn es ρ1=>(n=n1/\ ∀a d,th1 (mk a d es) (a55 i E) (ρ1.set i (some (.pu (mk a d es)))))\/(n∈names/\th2 E ρ1)) E ρ:=rfl
def x8:Φ:=λds Q=> ∃c:Int,ds=[.int c]/\ ∀p:List Int,i4 p->Q (.pu (aH p))
def x9:US:=(bQ (uIx (aN 2) (uIx (aN 1) (uC (.int 1)))))
def xA:US:=(aK (b9 2 (iL (a6 (eC (a6 (uC (.int 0)) (a6 (uC (.int 499)) (a6 (uC (.int 1)) aE)))) (a6 (eC (a6 (vE (uC (.int 499))) (a6 (uC (.int 498)) (a6 (uC (.int 1)) aE)))) (a6 (eC (a6 (uC (.int 0)) (a6 (uC (.int 0)) (a6 (uC (.int 1)) aE)))) (a6 (eC (a6 (uC (.int 4)) (a6 (uC (.int 0)) (a6 (uC (.int 0)) (a6 (uC (.int 0)) (a6 (uC (.int 1)) aE)))))) (a6 (eC (a6 (vE (uC (.int 499))) (a6 (uC (.int 1)) (a6 (vE (uC (.int 499))) (a6 (uC (.int 1)) aE))))) (a6 (eC (a6 (uC (.int 6)) (a6 (uC (.int 0)) (a6 (vE (uC (.int 5))) (a6 (uC (.int 0)) (a6 (uC (.int 1)) aE)))))) aE)))))))) x9)
def vN:US:=(bQ (aI iV (a6 (a9 6) (a6 (a9 7) aE))))
def a85:US:=(aK (eW (aY2 (bY (uOp (iK false) (uIx (aN 1) (uC (.int 2))) (uC (.int 0)))) (bY (uOp (iK false) (uIx (aN 3) (uC (.int 0))) (uIx (aN 3) (uC (.int 1)))))) (b9 7 (a9 6)) cN) vN)
def vO:US:=(aK (b9 7 (aI cS (a6 (uOp hJ (uSl (aN 5) (nF (uIx (aN 3) (uC (.int 0)))) (nF (uOp hJ (uIx (aN 3) (uC (.int 0))) (uIx (aN 3) (uC (.int 1)))))) (iL (a6 (uC (.int 1)) aE))) aE))) a85)
def vP:US:=(aK (b9 6 (aI cS (a6 (uOp hJ (uSl (aN 5) nE (nF (uIx (aN 3) (uC (.int 0))))) (iL (a6 (uC (.int 1)) aE))) aE))) vO)
def a86:US:=(aK (b9 5 (eX [] [none,none] 1 (fM (uSl (aN 4) (nF (uC (.int 3))) nE)) (cE 0) (λρ Q=>Q true ρ) (uOp M.gSub (a9 0) (uC (.int 15))))) vP)
def a87:US:=(aK (b9 4 (aI sR (a6 (a9 0) (a6 (iL (a6 (uC (.int 3)) (a6 (uC (.int 6)) (a6 (uC (.int 4)) (a6 (uC (.int 31)) (a6 (uC (.int 31)) (a6 (uC (.int 31)) (a6 (uC (.int 31)) aE)))))))) (a6 (uC (.int 999999937)) aE))))) a86)
def vQ:US:=(aK (b9 3 (uIx (uV (iL (a6 (eC (a6 (uC (.int 1)) (a6 (uC (.int 1)) aE))) (a6 (eC (a6 (uC (.int 1)) (a6 (uC (.int 2)) aE))) (a6 (eC (a6 (uC (.int 2)) (a6 (uC (.int 1)) aE))) (a6 (eC (a6 (uC (.int 1)) (a6 (uC (.int 3)) aE))) (a6 (eC (a6 (uC (.int 3)) (a6 (uC (.int 1)) aE))) (a6 (eC (a6 (uC (.int 2)) (a6 (uC (.int 2)) aE))) aE)))))))) (uIx (aN 1) (uC (.int 1))))) a87)
def vR:US:=(aK (eW (bY (uOp (iK false) (uIx (aN 1) (uC (.int 0))) (uC (.int 2)))) xA cN) vQ)
def a88:US:=(aK (b9 1 (aI sR (a6 (a9 0) (a6 (iL (a6 (uC (.int 3)) (a6 (uC (.int 6)) (a6 (uC (.int 4)) aE)))) (a6 (uC (.int 999999937)) aE))))) vR)
theorem bA8: ∀ds Q,x8 ds Q->ds.length=1:=by rintro ds Q ⟨c,rfl,_⟩;rfl
def a89 (L:List (Int×Int)):UA:=L.foldr (λp t=>a6 (eC (a6 (uC (.int p.1)) (a6 (uC (.int p.2)) aE))) t) aE
def b18 (L:List (Int×Int)):List D:=L.map λp=> .tup [.int p.1,.int p.2]
theorem aI3: ∀(L:List (Int×Int)) (ρ:Ev) (Q:List D->Ev->Prop),Q (b18 L) ρ->a89 L ρ Q
 | [],_,_,h=>h
 | p::L,ρ,Q,h=>by
  show(2<=sizeLine/\a89 L ρ λxs ρ2=>Q (D.tup [.int p.1,.int p.2]::xs) ρ2)
  exact⟨by decide,aI3 L ρ _ h⟩
theorem bO2 {L:List (Int×Int)}{ti:UE}{ρ:Ev}{Q:B->Ev->Prop}(hl:L.length<=1000)(h:ti ρ λj ρ2=>gIx (.lst (b18 L)) j.d λb=>Q (.pu b) ρ2):uIx (uV (iL (a89 L))) ti ρ Q:=by
 show a89 L ρ _
 refine aI3 L ρ _ ⟨?_,h⟩
 show(L.map _).length<=sizeLine
 rw[length_map];exact le_trans hl (by decide)
theorem bO3 {Q:B->Prop}{n:Nat}(n6:n<6)(h: ∀p:List Int,i4 p->Q (.pu (aH p))):(match atI [D.tup [D.int 0,D.int 499,D.int 1],D.tup [D.int (-499),D.int 498,D.int 1],D.tup [D.int 0,D.int 0,D.int 1],D.tup [D.int 4,D.int 0,D.int 0,D.int 0,D.int 1],D.tup [D.int (-499),D.int 1,D.int (-499),D.int 1],D.tup [D.int 6,D.int 0,D.int (-5),D.int 0,D.int 1]] (n:Int)with
  | some d=>Q (.pu d)
  | none=>False):=by
 obtain⟨p,hp,e⟩: ∃p,i4 p/\atI [D.tup [D.int 0,D.int 499,D.int 1],D.tup [D.int (-499),D.int 498,D.int 1],D.tup [D.int 0,D.int 0,D.int 1],D.tup [D.int 4,D.int 0,D.int 0,D.int 0,D.int 1],D.tup [D.int (-499),D.int 1,D.int (-499),D.int 1],D.tup [D.int 6,D.int 0,D.int (-5),D.int 0,D.int 1]] (n:Int)=some (aH p):=by
  match n,n6 with
  | 0,_=>exact⟨[0,499,1],pM _ (by simp),b6 (j:=0) rfl⟩
  | 1,_=>exact⟨[-499,498,1],pM _ (by simp),b6 (j:=1) rfl⟩
  | 2,_=>exact⟨[0,0,1],pM _ (by simp),b6 (j:=2) rfl⟩
  | 3,_=>exact⟨[4,0,0,0,1],pM _ (by simp),b6 (j:=3) rfl⟩
  | 4,_=>exact⟨[-499,1,-499,1],pM _ (by simp),b6 (j:=4) rfl⟩
  | 5,_=>exact⟨[6,0,-5,0,1],pM _ (by simp),b6 (j:=5) rfl⟩
 rw[e];exact h p hp
theorem b55 {l:List Int}(h: ∀x∈l,x.natAbs<=15)(j:Nat):(l.getD j 0).natAbs<=2^10:=by
 rw[getD_eq_getElem?_getD];cases e:l[j]? with
 | none=>simp
 | some x=>exact le_trans (h x (mem_of_getElem? e)) (by decide)
theorem yL {Q:B->Prop}{l r:List Int}{d0 d1 d2 d3 d4 d5:Option B}(h: ∀p:List Int,i4 p->Q (.pu (aH p)))(l1:1<=l.length)(l2:l.length<=100)(r1:1<=r.length)(r2:r.length<=100)(bl: ∀x∈l,x.natAbs<=15)(br: ∀x∈r,x.natAbs<=15)(d:i4 (tmO l r)) :
  vN {nx:=λ_=>Q (.pu .non),rt:=Q} [d0,d1,d2,d3,d4,d5,some (.pu (aH l)),some (.pu (aH r))]:=by
 unfold vN;walk_at "u";refine⟨l.length,r.length,10,λj=>l.getD j 0,λj=>r.getD j 0,by rw[<-sU,<-sU],l1,l2,r1,r2,by decide,λj hj=> ?_,b55 bl,b55 br,h _ d⟩
 show r.getD j 0=0
 rw[getD_eq_getElem?_getD,getElem?_eq_none hj];rfl
theorem bO4: ∀ds Q,x8 ds Q->a88 {nx:=λ_=>Q (.pu .non),rt:=Q} (init ["c","d","n","s","f","p","l","r"] ds):=by
 rintro ds Q ⟨c,rfl,h⟩;unfold a88;show(aK _ _:US) _ [some (.pu (.int c)),none,none,none,none,none,none,none];rw[aO];walk_at "u";refine⟨by decide,c,[3,6,4],_,rfl,by decide,by decide,by decide,λway hw=> ?_⟩
 obtain⟨w0,w1,w2,rfl⟩: ∃w0 w1 w2,way=[w0,w1,w2]:=by
  match way,hw.1 with
  | [w0,w1,w2],_=>exact⟨w0,w1,w2,rfl⟩
 have b1:=hw.2 1 w1 6 rfl rfl;simp only[map_cons,map_nil];have a0:atI [D.int w0,.int w1,.int w2] 0=some (.int w0):=b6 (j:=0) rfl;have a1:atI [D.int w0,.int w1,.int w2] 1=some (.int w1):=b6 (j:=1) rfl;have a2:atI [D.int w0,.int w1,.int w2] 2=some (.int w2):=b6 (j:=2) rfl;generalize [D.int w0,.int w1,.int w2]=W at *;obtain⟨n,rfl⟩: ∃n:Nat,w1=(n:Int):=⟨w1.toNat,by lia⟩
 have n6:n<6:=by lia
 show vR _ [some (.pu (.int c)),some (.ow W),none,none,none,none,none,none]
 unfold vR;rw[aO,b48,bX2,b12];simp only[uIx,aN,a34,uC,gIx,iD,B.d,getElem?_cons_zero,getElem?_cons_succ,a0,iK,isB,false_xor,decide_eq_true_eq]
 by_cases c1:w0=2
 ·rw[if_pos c1];unfold xA;rw[aO];walk_at "u";refine⟨by decide,by decide,by decide,by decide,by decide,by decide,by decide,?_⟩
  unfold x9;walk_at "u";rw[a1];dsimp only;exact bO3 n6 h
 rw[if_neg c1,bO0];show vQ _ [some (.pu (.int c)),some (.ow W),none,none,none,none,none,none];unfold vQ;rw[aO,qG];show(uIx (uV (iL (a89 [(1,1),(1,2),(2,1),(1,3),(3,1),(2,2)]))) (uIx (aN 1) (uC (.int 1)))) _ _;refine bO2 (by decide) ?_
 simp only[uIx,aN,a34,uC,gIx,iD,B.d,getElem?_cons_zero,getElem?_cons_succ,a1];obtain⟨x,y,xy,hxy⟩: ∃x y:Nat,((x=1/\y=1)\/(x=1/\y=2)\/(x=2/\y=1)\/(x=1/\y=3)\/(x=3/\y=1)\/(x=2/\y=2))/\atI (b18 [(1,1),(1,2),(2,1),(1,3),(3,1),(2,2)]) (n:Int)=some (.tup [.int (x:Int),.int (y:Int)]):=by
  match n,n6 with
  | 0,_=>exact⟨1,1,by simp,b6 (j:=0) rfl⟩
  | 1,_=>exact⟨1,2,by simp,b6 (j:=1) rfl⟩
  | 2,_=>exact⟨2,1,by simp,b6 (j:=2) rfl⟩
  | 3,_=>exact⟨1,3,by simp,b6 (j:=3) rfl⟩
  | 4,_=>exact⟨3,1,by simp,b6 (j:=4) rfl⟩
  | 5,_=>exact⟨2,2,by simp,b6 (j:=5) rfl⟩
 rw[hxy];dsimp only;unfold a87;rw[aO];walk_at "u";refine⟨by decide,c,[3,6,4,31,31,31,31],_,rfl,by decide,by decide,by decide,λfs hf=> ?_⟩
 obtain⟨f0,f1,f2,f3,f4,f5,f6,rfl⟩: ∃f0 f1 f2 f3 f4 f5 f6,fs=[f0,f1,f2,f3,f4,f5,f6]:=by
  match fs,hf.1 with
  | [f0,f1,f2,f3,f4,f5,f6],_=>exact⟨f0,f1,f2,f3,f4,f5,f6,rfl⟩
 have g3:=hf.2 3 f3 31 rfl rfl;have g4:=hf.2 4 f4 31 rfl rfl;have g5:=hf.2 5 f5 31 rfl rfl;have g6:=hf.2 6 f6 31 rfl rfl;try dsimp only
 unfold a86;rw[aO,qG];have ecut:cutD ([f0,f1,f2,f3,f4,f5,f6].map D.int) (some 3) none=[f3,f4,f5,f6].map D.int:=rfl
 refine eF (t0:=0) 4 (λk=>([f3,f4,f5,f6].map D.int).getD k .non) [some (.pu (.int c)),some (.ow W),none,some (.pu (.tup [.int (x:Int),.int (y:Int)])),some (.ow ([f0,f1,f2,f3,f4,f5,f6].map D.int)),none,none,none] ?_ (by lia) (λx l=>[x,some (.ow l)]) none rfl (λ_ _ _=>rfl) (λ_ _=>zero_lt_succ _) (λ_ _ _ q=>q) (λ_ _ _=>rfl) (λk=> .int ([f3,f4,f5,f6].getD k 0-15)) ?_ ?_
 ·intro Q' q;walk_at "u";rw[ecut];exact q
 ·intro k l Q' hk' q;have e3:([f3,f4,f5,f6].map D.int).getD k .non= .int ([f3,f4,f5,f6].getD k 0):=by
   rw[getD_eq_getElem?_getD,getElem?_map,getElem?_eq_getElem hk',getD_eq_getElem?_getD,getElem?_eq_getElem hk'];rfl
  rw[e3]at q⊢;walk_at "u";exact q
 rw[show((List.range 4).map λk=>D.int ([f3,f4,f5,f6].getD k 0-15))=[f3-15,f4-15,f5-15,f6-15].map D.int from rfl]
 have s3:(f3-15).natAbs<=15:=by lia
 have s4:(f4-15).natAbs<=15:=by lia
 have s5:(f5-15).natAbs<=15:=by lia
 have s6:(f6-15).natAbs<=15:=by lia
 generalize f3-15=p0 at *;generalize f4-15=p1 at *;generalize f5-15=p2 at *;generalize f6-15=p3 at *;have X0:atI [D.int (x:Int),.int (y:Int)] 0=some (.int (x:Int)):=b6 (j:=0) rfl;have X1:atI [D.int (x:Int),.int (y:Int)] 1=some (.int (y:Int)):=b6 (j:=1) rfl
 show vP _ [some (.pu (.int c)),some (.ow W),none,some (.pu (.tup [.int (x:Int),.int (y:Int)])),some (.ow ([f0,f1,f2,f3,f4,f5,f6].map D.int)),some (.ow ([p0,p1,p2,p3].map .int)),none,none]
 unfold vP;rw[aO];walk_at "u";rw[X0];dsimp only;have go: ∀l r:List Int,(x=y->i4 (tmO l l))->i4 (tmO l r)->1<=l.length->l.length<=100->1<=r.length->r.length<=100->(∀x∈l,x.natAbs<=15)->(∀x∈r,x.natAbs<=15)->cutD ([p0,p1,p2,p3].map D.int) none (some (x:Int))++[D.int 1]=l.map D.int->cutD ([p0,p1,p2,p3].map D.int) (some (x:Int)) (some ((x:Int)+(y:Int)))++[D.int 1]=r.map D.int->
   (0+1<=sizeLine/\(cutD ([p0,p1,p2,p3].map D.int) none (some (x:Int))).length+(0+1)<=sizeLine/\vO {nx:=λ_=>Q (.pu .non),rt:=Q} [some (.pu (.int c)),some (.ow W),none,some (.pu (.tup [.int (x:Int),.int (y:Int)])),some (.ow ([f0,f1,f2,f3,f4,f5,f6].map D.int)),some (.ow ([p0,p1,p2,p3].map .int)),some (.pu (.tup (cutD ([p0,p1,p2,p3].map D.int) none (some (x:Int))++[D.int 1]))),none]):=by
  intro l r dll dlr l1 l2 r1 r2 bl br el er;have cl: ∀a b,(cutD ([p0,p1,p2,p3].map D.int) a b).length<=4:=λa b=>by
   unfold cutD;rw[length_take,length_drop];simp
   lia
  refine⟨by decide,le_trans (Nat.add_le_add_right (cl _ _) _) (by decide),?_⟩
  rw[el];unfold vO;rw[aO];walk_at "u";rw[X0,X1];dsimp only;refine⟨by decide,le_trans (Nat.add_le_add_right (cl _ _) _) (by decide),?_⟩
  rw[er];unfold a85;rw[aO];walk_at "u";rw[a2,X0,X1];dsimp only;split
  ·split
   ·rename_i _ xy
    exact yL (l:=l) (r:=l) h l1 l2 l1 l2 bl bl (dll (by lia))
   ·exact yL (l:=l) (r:=r) h l1 l2 r1 r2 bl br dlr
  ·exact yL (l:=l) (r:=r) h l1 l2 r1 r2 bl br dlr
 have o1:(1:Int).natAbs<=15:=by decide
 rcases xy with⟨rfl,rfl⟩| ⟨rfl,rfl⟩| ⟨rfl,rfl⟩| ⟨rfl,rfl⟩| ⟨rfl,rfl⟩| ⟨rfl,rfl⟩
 ·exact go [p0,1] [p1,1] (λ_=>d11 s3 s3) (d11 s3 s4) (by simp) (by simp) (by simp) (by simp) (by simp[s3]) (by simp[s4]) rfl rfl
 ·exact go [p0,1] [p1,p2,1] (λz=>by cases z) (d12 s3 s4 s5) (by simp) (by simp) (by simp) (by simp) (by simp[s3]) (by simp[s4,s5]) rfl rfl
 ·exact go [p0,p1,1] [p2,1] (λz=>by cases z) (d21 s3 s4 s5) (by simp) (by simp) (by simp) (by simp) (by simp[s3,s4]) (by simp[s5]) rfl rfl
 ·exact go [p0,1] [p1,p2,p3,1] (λz=>by cases z) (d13 s3 s4 s5 s6) (by simp) (by simp) (by simp) (by simp) (by simp[s3]) (by simp[s4,s5,s6]) rfl rfl
 ·exact go [p0,p1,p2,1] [p3,1] (λz=>by cases z) (d31 s3 s4 s5 s6) (by simp) (by simp) (by simp) (by simp) (by simp[s3,s4,s5]) (by simp[s6]) rfl rfl
 ·exact go [p0,p1,1] [p2,p3,1] (λ_=>d22 s3 s4 s3 s4) (d22 s3 s4 s5 s6) (by simp) (by simp) (by simp) (by simp) (by simp[s3,s4]) (by simp[s5,s6]) rfl rfl
def qP:Φ:=λds Q=> ∃p:List Int,ds=[aH p]/\i4 p/\Q (.pu (.bl true))
def zI:US:=(bQ (uP (a9 2) (aI x6 (a6 (uIx (aN 1) (uC (.int 0))) (a6 (uIx (aN 1) (uC (.int 1))) (a6 (a9 0) aE))))))
def zJ:US:=(aK (bK2 3 "FallsApart" (λa d es=> .xob a d ["left","right"] es) ["TooGreat","NotWhole"] (λEx=>sJ (b06 ["poly","degree","measure"] tG (a6 (a9 0) aE) Ex)) (λx=>(aK (b9 1 (eC (a6 (b42 x 3 "left") (a6 (b42 x 3 "right") aE)))) (aK (b9 2 (uP (b07 x 3 true) (uP (b07 x 3 true) (aF6 (b07 x 3 false))))) (b9 2 (uP (a9 2) (uP (aF6 (b07 x 3 false)) (aF6 (b07 x 3 false)))))))) (b9 2 (uC (.bl false)))) zI)
def zK:US:=(aK (b9 2 (uC (.bl false))) zJ)
def vS:US:=(aK (b9 1 (eC (a6 (eC aE) (a6 (eC aE) aE)))) zK)
theorem aU8: ∀ds Q,qP ds Q->ds.length=1:=by rintro ds Q ⟨p,rfl,_⟩;rfl
theorem b19: ∀ds Q,qP ds Q->vS {nx:=λ_=>Q (.pu .non),rt:=Q} (init ["p","t","c","e"] ds):=by
 rintro ds Q ⟨p,rfl,⟨rp,red⟩,h⟩;unfold vS;show(aK _ _:US) _ [some (.pu (aH p)),none,none,none];rw[aO];walk_at "u";refine⟨by decide,by decide,by decide,?_⟩
 unfold zK;rw[aO];walk_at "u";unfold zJ;rw[aO,bO1];walk_at "u";refine⟨p,rfl,rp,λnr=>absurd red nr,λ_ l r fac=> .inl ⟨rfl,λa d=> ?_⟩,λnr=>absurd red nr⟩
 refine⟨trivial,trivial,by decide,trivial,trivial,trivial,trivial,trivial,?_⟩
 unfold zI;walk_at "u";simp only[at0,at1];exact⟨p,l,r,rfl,fac,h⟩
def a90:US:=(eW (uOr (aK1 (bY (aI x6 (a6 (uIx (aN 3) (uC (.int 0))) (a6 (uIx (aN 3) (uC (.int 1))) (a6 (a9 2) aE)))))) (aK1 (bY (aI qP (a6 (a9 2) aE))))) (bQ (uC (.bl false))) cN)
def a91:US:=(aK (eW (uOr (aK1 (bY (aI b76 (a6 (a9 3) (a6 (uC (.ty "tuple")) aE))))) (bY (uOp (iK true) (hV (aN 3)) (uC (.int 2))))) (bQ (uC (.bl false))) cN) a90)
def a92:US:=(aK (b9 3 (aI mG (a6 (a9 2) aE))) a91)
def vT:US:=(aK (b9 2 (aI x8 (a6 (aI a19 (a6 (a9 0) (a6 (a9 1) aE))) aE))) a92)
def aU9:US:=(bQ (uC (.bl true)))
def aN5:US:=(aK (jX (jY (a6 (uC (.int 2)) aE)) (cE 1) vT) aU9)
theorem rd_law: ∀ds Q,aF9 ds Q->aN5 {nx:=λ_=>Q (.pu .non),rt:=Q} (init ["s","k","p","f"] ds):=by
 rintro ds Q ⟨ns,rfl,hl,hQ⟩;unfold aN5;show(aK _ _:US) _ [some (.pu (.rol (ns.map .int))),none,none,none];rw[aO];refine bG 2 (λk=> .int (0+k)) [some (.pu (.rol (ns.map .int))),none,none,none] ?_
  (λi ρ=> ∃x1 x2 x3,ρ=[some (.pu (.rol (ns.map .int))),x1,x2,x3]) ⟨_,_,_,rfl⟩ ?_ ?_
 ·intro Q' q;walk_at "u";exact⟨⟨by decide,by decide⟩,q⟩
 ·rintro i ρ hi ⟨x1,x2,x3,rfl⟩;refine⟨by simp,?_⟩
  show vT _ [some (.pu (.rol (ns.map .int))),some (.pu (.int (0+(i:Int)))),x2,x3]
  unfold vT;rw[aO];walk_at "u";refine⟨ns,0+(i:Int),rfl,hl,by lia,by lia,λcc=>⟨cc,rfl,λp dr=> ?_⟩⟩
  unfold a92;try dsimp only
  rw[aO];walk_at "u";refine⟨p,rfl,dr.1,λnr=>absurd dr.2 nr,λl r fac _=> ?_⟩
  unfold a91;try dsimp only
  rw[aO];walk_at "u";rw[if_neg (λz=>z rfl)]
  unfold a90;rw[b48];walk_at "u";simp only[at0,at1];refine⟨p,l,r,rfl,fac,?_⟩;simp only[isB,reduceCtorEq,if_false];refine⟨p,rfl,dr,?_⟩;simp only[isB,reduceCtorEq,if_false];exact⟨_,_,_,rfl⟩
 ·rintro ρ ⟨x1,x2,x3,rfl⟩;unfold aU9;walk_at "u";exact hQ
abbrev fF:=gU
abbrev jC:=kL
theorem qQ: ∀ds Q,fF ds Q->ds.length=2:=yG
theorem sC: ∀ds Q,fF ds Q->jC {nx:=λ_=>Q (.pu .non),rt:=Q} (init ["f","p","u","s","total","v","w"] ds):=a01
theorem bA9:bootBuiltins "sorted"=some (.builtin "sorted"):=by decide +kernel
end M
end
namespace M
open PySem PySem.Spec PyProof.Rows L2
set_option maxHeartbeats 4000000
def top (i:Nat):Stmt:=PySem.Challenge.pw_ringhouse_k11_apart_told.main.body.getD i (.Pass ⟨0,0,0,0⟩)
abbrev eH:Stmt:=top 9
abbrev jJ:List Str:=["row"]
abbrev iW:List Str:=["row"]
abbrev eT:Stmt:=top 10
abbrev mH:List Str:=["row"]
abbrev gJ:List Str:=["row"]
abbrev a23:Stmt:=top 12
abbrev b56:List Str:=["row","size"]
abbrev a93:List Str:=["row"]
abbrev qR:Stmt:=top 13
abbrev a94:List Str:=["row","size"]
abbrev tI:List Str:=["row","size"]
abbrev gX:Stmt:=top 14
abbrev rT:List Str:=["f","g","degree","size","left","quotient","at","many","j","c"]
abbrev jK:List Str:=["f","g"]
abbrev nO:Stmt:=top 15
abbrev zL:List Str:=["f","z","value","c"]
abbrev qS:List Str:=["f","z"]
abbrev xB:Stmt:=top 18
abbrev aV0:List Str:=["m","guess","better"]
abbrev yM:List Str:=["m"]
abbrev gC:Stmt:=top 19
abbrev pN:List Str:=[]
abbrev iX:List Str:=[]
abbrev uG:Stmt:=top 21
abbrev aI4:List Str:=["poly","pair"]
abbrev vU:List Str:=["poly"]
abbrev lF:Stmt:=top 22
abbrev xC:List Str:=["m","found","d"]
abbrev oB:List Str:=["m"]
abbrev fP:Stmt:=top 23
abbrev nP:List Str:=["poly","z","left"]
abbrev i5:List Str:=["poly"]
abbrev dX:Stmt:=top 24
abbrev kB:List Str:=["poly","v","w","u","s"]
abbrev fG:List Str:=["poly"]
abbrev lH:Stmt:=top 26
abbrev xD:List Str:=["total","times","square","gap"]
abbrev oC:List Str:=["total","times"]
abbrev a24:Stmt:=top 28
abbrev b57:List Str:=["table","total","sign","i"]
abbrev eI:List Str:=["table"]
abbrev kC:Stmt:=top 29
abbrev tJ:List Str:=["table","i"]
abbrev qT:List Str:=["table","i"]
abbrev kD:Stmt:=top 31
abbrev tK:List Str:=["poly","n","sums"]
abbrev qU:List Str:=["poly"]
abbrev gO:Stmt:=top 32
abbrev oE:List Str:=["poly","many","n","sums","k","total"]
abbrev mI:List Str:=["poly","many"]
abbrev iY:Stmt:=top 34
abbrev qV:List Str:=["row","p"]
abbrev oF:List Str:=["row","p"]
abbrev iZ:Stmt:=top 35
abbrev tL:List Str:=["a","b","p","low","turn","quotient","rest"]
abbrev kN:List Str:=["a","b","p"]
abbrev mJ:Stmt:=top 36
abbrev vV:List Str:=["f","k","p"]
abbrev tM:List Str:=["f","k","p"]
abbrev j0:Stmt:=top 37
abbrev tN:List Str:=["c","p","value","step"]
abbrev kO:List Str:=["c","p"]
abbrev lJ:Stmt:=top 39
abbrev xE:List Str:=["poly","p","parts","left"]
abbrev oG:List Str:=["poly","p"]
abbrev jS:Stmt:=top 40
abbrev uW:List Str:=["f","p","parts","left","c","often"]
abbrev mK:List Str:=["f","p"]
abbrev dD:Stmt:=top 41
abbrev i6:List Str:=["f","p","pair"]
abbrev gK:List Str:=["f","p"]
abbrev dY:Stmt:=top 42
abbrev kE:List Str:=["f","p","u","s","total","v","w"]
abbrev fH:List Str:=["f","p"]
abbrev gP:Stmt:=top 45
abbrev oH:List Str:=["poly","size"]
abbrev mL:List Str:=["poly","size"]
abbrev j2:Stmt:=top 46
abbrev qW:List Str:=["poly","p"]
abbrev oJ:List Str:=["poly","p"]
abbrev fX:Stmt:=top 47
abbrev mM:List Str:=["poly","rows","p","parts","g","often","rest"]
abbrev kP:List Str:=["poly","rows"]
abbrev cP:Stmt:=top 51
abbrev nQ:List Str:=["poly","pair"]
abbrev i7:List Str:=["poly"]
abbrev dE:Stmt:=top 52
abbrev mO:List Str:=["poly","size","found","p","f"]
abbrev kQ:List Str:=["poly","size"]
abbrev aN6:Stmt:=top 54
abbrev bO5:List Str:=["_law_script","_law_k"]
abbrev aN7:List Str:=["_law_script","_law_k"]
abbrev a25:Stmt:=top 55
abbrev b58:List Str:=["_law_cell_here","_law_k","_law_prime","_law_far"]
abbrev a95:List Str:=["_law_cell_here","_law_k","_law_prime"]
abbrev a26:Stmt:=top 56
abbrev b59:List Str:=["_law_cell_here","_law_widths","_law_prime","_law_left","_law_found","_law_k"]
abbrev a96:List Str:=["_law_cell_here","_law_widths","_law_prime"]
abbrev a27:Stmt:=top 57
abbrev b60:List Str:=["_law_found"]
abbrev a97:List Str:=["_law_found"]
abbrev nR:Stmt:=top 58
abbrev zM:List Str:=["_law_one","_law_two","_law_places","_law_i","_law_j"]
abbrev qX:List Str:=["_law_one","_law_two"]
abbrev xF:Stmt:=top 59
abbrev aN8:List Str:=["_law_found"]
abbrev a98:List Str:=["_law_found"]
abbrev aN9:Stmt:=top 60
abbrev bO6:List Str:=["_law_left","_law_right","_law_poly"]
abbrev aO0:List Str:=["_law_left","_law_right","_law_poly"]
abbrev xG:Stmt:=top 61
abbrev aO1:List Str:=["_law_cell_here","_law_deep","_law_named","_law_sides","_law_found","_law_places","_law_left","_law_right"]
abbrev a99:List Str:=["_law_cell_here"]
abbrev uH:Stmt:=top 62
abbrev aI5:List Str:=["_law_poly","_law_told","_law_clean","e"]
abbrev vW:List Str:=["_law_poly"]
abbrev aA0:Stmt:=top 63
abbrev c15:List Str:=["_law_script","_law_k","_law_poly","_law_found"]
abbrev PP_law:List Str:=["_law_script"]
local macro_rules| `(tactic| walk_at "s")=> `(tactic| exact⟨rfl,rfl,rfl,by decide +kernel,rfl,by decide +kernel,by decide +kernel⟩)
theorem xH:aP jJ iW (a8 eH):=by walk_at "s"
theorem uN:aP mH gJ (a8 eT):=by walk_at "s"
theorem aA1:aP b56 a93 (a8 a23):=by walk_at "s"
theorem aV1:aP a94 tI (a8 qR):=by walk_at "s"
theorem bF:aP rT jK (a8 gX):=by walk_at "s"
theorem lK:aP zL qS (a8 nO):=by walk_at "s"
theorem pO:aP aV0 yM (a8 xB):=by walk_at "s"
theorem xI:aP pN iX (a8 gC):=by walk_at "s"
theorem vX:aP aI4 vU (a8 uG):=by walk_at "s"
theorem oK:aP xC oB (a8 lF):=by walk_at "s"
theorem i8:aP nP i5 (a8 fP):=by walk_at "s"
theorem bW:aP kB fG (a8 dX):=by walk_at "s"
theorem oM:aP xD oC (a8 lH):=by walk_at "s"
theorem j3:aP b57 eI (a8 a24):=by walk_at "s"
theorem aO2:aP tJ qT (a8 kC):=by walk_at "s"
theorem qY:aP tK qU (a8 kD):=by walk_at "s"
theorem eJ:aP oE mI (a8 gO):=by walk_at "s"
theorem aD4:aP qV oF (a8 iY):=by walk_at "s"
theorem fA:aP tL kN (a8 iZ):=by walk_at "s"
theorem aV2:aP vV tM (a8 mJ):=by walk_at "s"
theorem gY:aP tN kO (a8 j0):=by walk_at "s"
theorem oN:aP xE oG (a8 lJ):=by walk_at "s"
theorem dF:aP uW mK (a8 jS):=by walk_at "s"
theorem kZ:aP i6 gK (a8 dD):=by walk_at "s"
theorem bI:aP kE fH (a8 dY):=by walk_at "s"
theorem aA2:aP oH mL (a8 gP):=by walk_at "s"
theorem aD5:aP qW oJ (a8 j2):=by walk_at "s"
theorem dQ:aP mM kP (a8 fX):=by walk_at "s"
theorem mQ:aP nQ i7 (a8 cP):=by walk_at "s"
theorem gZ:aP mO kQ (a8 dE):=by walk_at "s"
theorem bY4:aP bO5 aN7 (a8 aN6):=by walk_at "s"
theorem aA3:aP b58 a95 (a8 a25):=by walk_at "s"
theorem pP:aP b59 a96 (a8 a26):=by walk_at "s"
theorem bO7:aP b60 a97 (a8 a27):=by walk_at "s"
theorem lL:aP zM qX (a8 nR):=by walk_at "s"
theorem bO8:aP aN8 a98 (a8 xF):=by walk_at "s"
theorem bY5:aP bO6 aO0 (a8 aN9):=by walk_at "s"
theorem j4:aP aO1 a99 (a8 xG):=by walk_at "s"
theorem fY:aP aI5 vW (a8 uH):=by walk_at "s"
theorem aO3:aP c15 PP_law (a8 aA0):=by walk_at "s"
abbrev j5:Stmt:=(aL9 (top 3)).getD 0 (.Pass ⟨0,0,0,0⟩)
theorem aD6:aP ["self","left","right"] ["self","left","right"] (a8 j5):=by walk_at "s"
abbrev mR:Stmt:=(aL9 (top 5)).getD 0 (.Pass ⟨0,0,0,0⟩)
theorem aV3:aP ["self","prime","number"] ["self","prime","number"] (a8 mR):=by walk_at "s"
abbrev tO:Stmt:=(aL9 (top 50)).getD 0 (.Pass ⟨0,0,0,0⟩)
theorem b61:aP ["self","poly","size"] ["self","poly"] (a8 tO):=by walk_at "s"
structure Zs (mg:Str->Option Value):Prop where
 z0:mg "len"=none
 z1:mg "all"=none
 z2:mg "abs"=none
 z3:mg "max"=none
 z4:mg "list"=none
 z5:mg "reversed"=none
 z6:mg "range"=none
 z7:mg "enumerate"=none
 z8:mg "tuple"=none
 z9:mg "sum"=none
 z10:mg "min"=none
 z11:mg "sorted"=none
 z12:mg "isinstance"=none
 z13:mg "int"=none
 z14:mg "bool"=none
 z15:mg "ValueError"=none
abbrev DT (P:Program)(w:World)(K:PySem.W.Frag)(mg:Str->Option Value)(base:Heap)(N:List Str)(q:Str)(t:Stmt)(k:Nat)(u:US):Prop:= ∀{f:Addr} {cdv:Value} {A:Around} {outer:List Env} {s:Shared} {H:Hp} {E:XK},dA k (A.deeper (envOfC q (a8 t) s.heap.objs.size f cdv))->sF (nU CX0 P w K mg base N q (a8 t) f cdv A outer s H E).nox (bK t) u
abbrev nS (P:Program)(w:World)(K:PySem.W.Frag)(mg:Str->Option Value)(base:Heap):Prop:=Fn P w K mg base "is_ring_poly" iW 1 fO
abbrev eB (P:Program)(w:World)(K:PySem.W.Frag)(mg:Str->Option Value)(base:Heap):Prop:=Fn P w K mg base "need_ring_poly" gJ 2 bT
abbrev aA4 (P:Program)(w:World)(K:PySem.W.Frag)(mg:Str->Option Value)(base:Heap):Prop:=Fn P w K mg base "cut" a93 1 pJ
abbrev zN (P:Program)(w:World)(K:PySem.W.Frag)(mg:Str->Option Value)(base:Heap):Prop:=Fn P w K mg base "padded" tI 1 nN
abbrev eK (P:Program)(w:World)(K:PySem.W.Frag)(mg:Str->Option Value)(base:Heap):Prop:=Fn P w K mg base "poly_parted" jK 2 bO
abbrev qZ (P:Program)(w:World)(K:PySem.W.Frag)(mg:Str->Option Value)(base:Heap):Prop:=Fn P w K mg base "poly_at" qS 1 iS
abbrev aI6 (P:Program)(w:World)(K:PySem.W.Frag)(mg:Str->Option Value)(base:Heap):Prop:=Fn P w K mg base "root" yM 1 uF
abbrev j6 (P:Program)(w:World)(K:PySem.W.Frag)(mg:Str->Option Value)(base:Heap):Prop:=Fn P w K mg base "small_primes" iX 1 dU
abbrev vY (P:Program)(w:World)(K:PySem.W.Frag)(mg:Str->Option Value)(base:Heap):Prop:=Fn P w K mg base "apart" vU 4 mG
abbrev oO (P:Program)(w:World)(K:PySem.W.Frag)(mg:Str->Option Value)(base:Heap):Prop:=Fn P w K mg base "dividers" oB 1 gN
abbrev mS (P:Program)(w:World)(K:PySem.W.Frag)(mg:Str->Option Value)(base:Heap):Prop:=Fn P w K mg base "line_and_rest" i5 3 eS
abbrev jD (P:Program)(w:World)(K:PySem.W.Frag)(mg:Str->Option Value)(base:Heap):Prop:=Fn P w K mg base "two_by_two_apart" fG 3 dN
abbrev uX (P:Program)(w:World)(K:PySem.W.Frag)(mg:Str->Option Value)(base:Heap):Prop:=Fn P w K mg base "two_with" oC 2 jR
abbrev bO9 (P:Program)(w:World)(K:PySem.W.Frag)(mg:Str->Option Value)(base:Heap):Prop:=Fn P w K mg base "det" eI 5 (cJ 4)
abbrev xJ (P:Program)(w:World)(K:PySem.W.Frag)(mg:Str->Option Value)(base:Heap):Prop:=Fn P w K mg base "without" qT 1 l8
abbrev xK (P:Program)(w:World)(K:PySem.W.Frag)(mg:Str->Option Value)(base:Heap):Prop:=Fn P w K mg base "measure" qU 6 lB
abbrev tP (P:Program)(w:World)(K:PySem.W.Frag)(mg:Str->Option Value)(base:Heap):Prop:=Fn P w K mg base "root_sums" mI 1 iP
abbrev jT (P:Program)(w:World)(K:PySem.W.Frag)(mg:Str->Option Value)(base:Heap):Prop:=Fn P w K mg base "mod_poly" oF 2 cX
abbrev rV (P:Program)(w:World)(K:PySem.W.Frag)(mg:Str->Option Value)(base:Heap):Prop:=Fn P w K mg base "mod_parted" kN 4 gT
abbrev zO (P:Program)(w:World)(K:PySem.W.Frag)(mg:Str->Option Value)(base:Heap):Prop:=Fn P w K mg base "scaled" tM 3 jZ
abbrev rW (P:Program)(w:World)(K:PySem.W.Frag)(mg:Str->Option Value)(base:Heap):Prop:=Fn P w K mg base "inverse_of" kO 1 gS
abbrev uY (P:Program)(w:World)(K:PySem.W.Frag)(mg:Str->Option Value)(base:Heap):Prop:=Fn P w K mg base "split_by" oG 6 jP
abbrev tQ (P:Program)(w:World)(K:PySem.W.Frag)(mg:Str->Option Value)(base:Heap):Prop:=Fn P w K mg base "lines_out" mK 5 iT
abbrev l5 (P:Program)(w:World)(K:PySem.W.Frag)(mg:Str->Option Value)(base:Heap):Prop:=Fn P w K mg base "rootless_parts" gK 2 eA
abbrev jE (P:Program)(w:World)(K:PySem.W.Frag)(mg:Str->Option Value)(base:Heap):Prop:=Fn P w K mg base "two_by_two_split" fH 1 fF
abbrev tT (P:Program)(w:World)(K:PySem.W.Frag)(mg:Str->Option Value)(base:Heap):Prop:=Fn P w K mg base "papers_of" mL 8 iU
abbrev uZ (P:Program)(w:World)(K:PySem.W.Frag)(mg:Str->Option Value)(base:Heap):Prop:=Fn P w K mg base "parts_at" oJ 7 jQ
abbrev rX (P:Program)(w:World)(K:PySem.W.Frag)(mg:Str->Option Value)(base:Heap):Prop:=Fn P w K mg base "outside_of" kP 3 gW
abbrev b62 (P:Program)(w:World)(K:PySem.W.Frag)(mg:Str->Option Value)(base:Heap):Prop:=Fn P w K mg base "_law_cell" aN7 1 a19
abbrev aV4 (P:Program)(w:World)(K:PySem.W.Frag)(mg:Str->Option Value)(base:Heap):Prop:=Fn P w K mg base "_law_mixed" a95 1 sQ
abbrev aV5 (P:Program)(w:World)(K:PySem.W.Frag)(mg:Str->Option Value)(base:Heap):Prop:=Fn P w K mg base "_law_draws" a96 2 sR
abbrev aV6 (P:Program)(w:World)(K:PySem.W.Frag)(mg:Str->Option Value)(base:Heap):Prop:=Fn P w K mg base "_law_whole" a97 1 sS
abbrev r6 (P:Program)(w:World)(K:PySem.W.Frag)(mg:Str->Option Value)(base:Heap):Prop:=Fn P w K mg base "_law_times_out" qX 1 iV
abbrev aV7 (P:Program)(w:World)(K:PySem.W.Frag)(mg:Str->Option Value)(base:Heap):Prop:=Fn P w K mg base "_law_monic" a98 2 tH
abbrev aO4 (P:Program)(w:World)(K:PySem.W.Frag)(mg:Str->Option Value)(base:Heap):Prop:=Fn P w K mg base "_law_pair" aO0 3 x6
abbrev aV8 (P:Program)(w:World)(K:PySem.W.Frag)(mg:Str->Option Value)(base:Heap):Prop:=Fn P w K mg base "_law_drawn" a99 3 x8
abbrev aA5 (P:Program)(w:World)(K:PySem.W.Frag)(mg:Str->Option Value)(base:Heap):Prop:=Fn P w K mg base "_law_refused" vW 12 qP
section
variable {P:Program}{w:World}{K:PySem.W.Frag}{mg:Str->Option Value}{base:Heap}
theorem vZ (Z:Zs mg){jL:Tok}(cD:mg "GREATEST_PLACE"=some (.int 499 jL)):DT P w K mg base jJ "is_ring_poly" eH 0 iQ:=λhr=>
 (aB (e6 (PUW.pt (xU (aW aQ9 (cH (bC 0) rfl Z.z0) aC (b5 _)) (xU (aW aR0 (cH (bC 0) rfl Z.z0) aC (b5 _)) (wF (aW bF8 (cU (bC 0) (pX aC)) aC (b5 _)))))) (aF (aU yY)) bU) (aF (aU (dB (aZ2 rfl) rfl Z.z1 aZ3 (aA (eY (js:=[]) (N:=["c",".acc"]) (cap:=[none,none]) (last:=1) (esc:=(a8 eH).names) (XN:=jJ) rfl rfl (by decide +kernel) (by decide) (by decide) rfl (gF (aM 0)) (λ_ _ _ _ _ _=>(bE 0 (aR (show Nodup (["c",".acc"]:List Str)by decide +kernel) rfl (Or.inl rfl)))) (λ_ _ _ _ _ _=>gR) (λ_ _ _ _ _ _=>(aK0 c03 (dB aY7 rfl Z.z2 b08 (aJ 0 a7)) (b36 rfl cD) (b5 _)))) a7)))))
theorem tU (Z:Zs mg)(jM:nS P w K mg base):DT P w K mg base mH "need_ring_poly" eT 1 gG:=λhr=>
 (aF (e6 (pT (zA (d7 jM hr (aJ 0 a7)))) (aF aQ7) bU))
theorem bB0 (Z:Zs mg):DT P w K mg base b56 "cut" a23 0 a66:=λhr=>
 (aB (bV 1 aA1.nd (cH (bC 0) rfl Z.z0)) (aB (a38 PassesOwn.never (PUW.pt (wG (aW aR0 (aM 1) aC (b5 _)) (sE (aW iE (cU (bC 0) (aG cR (aM 1) aC)) aC (b5 _))))) (aF (us_g 1 aA1.nd aC iu_sub))) (aF (aU (b85 (aM 0) pC (gL (aM 1)))))))
theorem aO5 (Z:Zs mg):DT P w K mg base a94 "padded" qR 0 tE:=λhr=>
 (aF (aU (aG bZ (aM 0) (aG bV0 (cQ (cO a7)) (aG cR (aM 1) (cH (bC 0) rfl Z.z0))))))
theorem xL (Z:Zs mg)(rB:aA4 P w K mg base):DT P w K mg base rT "poly_parted" gX 1 jG:=λhr=>
 (aB (bV 2 bF.nd (aG cR (cH (bC 1) rfl Z.z0) aC)) (aB (bV 3 bF.nd (dB (cu_max rfl) rfl Z.z3 bt_max (cO (aA (aG cR (cH (bC 0) rfl Z.z0) (aM 2)) a7)))) (aB (bV 4 bF.nd (d6 b34 rfl Z.z4 b45 (aJ 0 a7))) (aB (bV 5 bF.nd (aG bL (dO (cO a7)) (aM 3))) (aB (eR PassesOwn.never rfl (bU4 rfl Z.z5 rfl Z.z6 (aJ 3 a7)) (bE 6 (aR bF.nd rfl (Or.inl rfl))) (aB (bV 7 bF.nd (cU (bC 4) (aG bZ (aM 6) (aM 2)))) (aB (a41 5 (pv 5) (aM 7) (aM 6)) (aF (eR PassesOwn.never rfl (bU3 rfl Z.z7 (aJ 1 a7)) (vC rfl (dC 8 (aR bF.nd rfl (Or.inl rfl)) (dC 9 (aR bF.nd rfl (Or.inl rfl)) pU)) (cB (cB lY))) (aF (bU1 4 (pv 4) (aG bZ (aM 6) (aM 8)) (aG bL (aM 7) (aM 9)) bD1))))))) (aF (aU (cQ (aA (d7 rB hr (aA (d6 fT rfl Z.z8 eE (aJ 5 a7)) a7)) (aA (d7 rB hr (aA (d6 fT rfl Z.z8 eE (aJ 4 a7)) a7)) a7))))))))))
theorem aD7 (Z:Zs mg):DT P w K mg base zL "poly_at" nO 0 qM:=λhr=>
 (aB (bV 2 lK.nd aC) (aB (eR PassesOwn.never rfl (bU9 rfl Z.z5 (aJ 0 a7)) (bE 3 (aR lK.nd rfl (Or.inl rfl))) (aF (bV 2 lK.nd (aG bZ (aG bL (aM 2) (aM 1)) (aM 3))))) (aF (nB 2 (pv 2)))))
theorem b20 (Z:Zs mg):DT P w K mg base aV0 "root" xB 0 yJ:=λhr=>
 (aB (bV 1 pO.nd (aM 0)) (aB (bV 2 pO.nd (aG vD (aG bZ (aM 0) aC) aC)) (aB (a38 PassesOwn.never (aW aQ9 (aM 2) (aM 1) (b5 _)) (aB (bV 1 pO.nd (aM 2)) (aF (bV 2 pO.nd (aG vD (aG bZ (aM 1) (aG vD (aM 0) (aM 1))) aC))))) (aF (nB 1 (pv 1))))))
theorem w4 (Z:Zs mg){eN:Addr}(dG:mg "SMALL_PRIMES"=some (.ref eN))(mT:KT K eN (T_SMALL_PRIMES.map V.int)):DT P w K mg base pN "small_primes" gC 0 iR:=λhr=>
 (aF (aU (d6 b34 rfl Z.z4 b45 (aA (bV1 rfl dG mT) a7))))
theorem aV9 (Z:Zs mg)(b7:eB P w K mg base)(j7:mS P w K mg base)(fZ:jD P w K mg base):DT P w K mg base aI4 "apart" uG 3 vL:=λhr=>
 (aB (aK9 (d7 b7 hr (aJ 0 a7))) (aB (bV 1 vX.nd (d7 j7 hr (aJ 0 a7))) (aB (e6 (PUW.pt (wG (bV2 (aM 1)) (sE (aW iE (cH (bC 0) rfl Z.z0) aC (b5 _))))) (aF (bV 1 vX.nd (d7 fZ hr (aJ 0 a7)))) bU) (aF (nB 1 (pv 1))))))
theorem aA6 (Z:Zs mg):DT P w K mg base xC "dividers" lF 0 o9:=λhr=>
 (aB (e6 (aW iE (aM 0) aC (b5 _)) (aF (aU (dO (cO a7)))) bU) (aB (bV 1 oK.nd (dO a7)) (aB (eR PassesOwn.never rfl (xV rfl Z.z6 (cO (aA (aG bZ (dB aY7 rfl Z.z2 b08 (aJ 0 a7)) aC) a7))) (bE 2 (aR oK.nd rfl (Or.inl rfl))) (aF (e6 (aW iE (aG fS (aM 0) (aM 2)) aC (b5 _)) (aB (lN 1 (pv 1) (aM 2)) (aF (lN 1 (pv 1) (pX (aM 2))))) bU))) (aF (nB 1 (pv 1))))))
theorem uO (Z:Zs mg)(gD:oO P w K mg base)(iH:qZ P w K mg base)(aZ:eK P w K mg base):DT P w K mg base nP "line_and_rest" fP 2 hZ:=λhr=>
 (aB (eR PassesOwn.never rfl (gF (d7 gD hr (aA (cU (bC 0) aC) a7))) (bE 1 (aR i8.nd rfl (Or.inl rfl))) (aF (e6 (aW iE (d7 iH hr (aJ 0 (aJ 1 a7))) aC (b5 _)) (aB (bV 2 i8.nd (cQ (bI8 (pX (aM 1)) (cO a7)))) (aF (aU (cQ (aJ 2 (aA (cU (a35 (d7 aZ hr (aJ 0 (aJ 2 a7)))) aC) a7)))))) bU))) (aF (aU aY1)))
theorem r8 (Z:Zs mg)(gD:oO P w K mg base)(rC:uX P w K mg base):DT P w K mg base kB "two_by_two" dX 2 fE:=λhr=>
 (aB (eR PassesOwn.never rfl (gF (d7 gD hr (aA (cU (bC 0) aC) a7))) (bE 1 (aR bW.nd rfl (Or.inl rfl))) (aB (bV 2 bW.nd (aG vD (cU (bC 0) aC) (aM 1))) (aF (eR PassesOwn.never rfl (gF (d7 rC hr (aA (cU (bC 0) aC) (aA (aG cR (aG cR (cU (bC 0) aC) (aM 1)) (aM 2)) a7)))) (bE 3 (aR bW.nd rfl (Or.inl rfl))) (aB (bV 4 bW.nd (aG cR (cU (bC 0) aC) (aM 3))) (aF (e6 (aW iE (aG bZ (aG bL (aM 3) (aM 2)) (aG bL (aM 1) (aM 4))) (cU (bC 0) aC) (b5 _)) (aF (aU (cQ (sL (cQ (aJ 1 (aJ 3 (cO a7)))) (sL (cQ (aJ 2 (aJ 4 (cO a7)))) a7))))) bU))))))) (aF (aU aY1)))
theorem aA7 (Z:Zs mg)(aB1:aI6 P w K mg base):DT P w K mg base xD "two_with" lH 1 oA:=λhr=>
 (aB (bV 2 oM.nd (aG cR (aG bL (aM 0) (aM 0)) (aG bL aC (aM 1)))) (aB (e6 (aW aQ9 (aM 2) aC (b5 _)) (aF (aU (dO a7))) bU) (aB (bV 3 oM.nd (d7 aB1 hr (aJ 2 a7))) (aB (e6 (aW bF8 (aG bL (aM 3) (aM 3)) (aM 2) (b5 _)) (aF (aU (dO a7))) bU) (aF (aU (dO (aA (aG vD (aG bZ (aM 0) (aM 3)) aC) (aA (aG vD (aG cR (aM 0) (aM 3)) aC) a7)))))))))
theorem uI (Z:Zs mg){k:Nat}{cJ:Φ}(hk:1<=k)(xN:Fn P w K mg base "det" eI k cJ)(iI:xJ P w K mg base):DT P w K mg base b57 "det" a24 k (a61 cJ):=λhr=>
 (aB (e6 (aW iE (cH (pS 0 (pv 0)) rfl Z.z0) aC (b5 _)) (aF (aU (zB (a35 (zB (pS 0 (pv 0)) aC (λ_ _=>rfl))) aC (λ_ _=>rfl)))) bU) (aB (pV 1 j3.nd rfl (Or.inl rfl) aC (hl:=il (n:=4) rfl (by decide))) (aB (pV 2 j3.nd rfl (Or.inl rfl) aC (hl:=il (n:=4) rfl (by decide))) (aB (eR PassesOwn.never rfl (fB rfl Z.z6 (aA (cH (pS 0 (pv 0)) rfl Z.z0) a7)) (bE 3 (aR j3.nd rfl (Or.inl rfl))) (aB (bF4 1 j3.nd rfl (Or.inl rfl) (aG bL (aG bL (bX 2 (pv 2)) (zB (a35 (zB (pS 0 (pv 0)) (bX 3 (pv 3)) (λ_ _=>rfl))) aC (λ_ _=>rfl))) (wJ xN hr (le_refl _) rfl (aA (wJ iI hr hk rfl (aA (bX 0 (pv 0)) (aA (bX 3 (pv 3)) a7))) a7))) aY5 (hl:=il (n:=4) rfl (by decide))) (aF (pV 2 j3.nd rfl (Or.inl rfl) (pX (bX 2 (pv 2))) (hl:=il (n:=4) rfl (by decide)))))) (aF (nB 1 (pv 1)))))))
theorem aD8 (Z:Zs mg):DT P w K mg base tJ "without" kC 0 qH:=λhr=>
 (aF (aU (d6 fT rfl Z.z8 eE (aA (eY (js:=[]) (N:=["row",".acc"]) (cap:=[none,none]) (last:=1) (esc:=(a8 kC).names) (XN:=tJ) rfl rfl (by decide +kernel) (by decide) (by decide) rfl (gF (aG bZ (lW (bC 0) pC (gL (aM 1))) (lW (bC 0) (gL (aG bZ (aM 1) aC)) pC))) (λ_ _ _ _ _ _=>(bE 0 (aR (show Nodup (["row",".acc"]:List Str)by decide +kernel) rfl (Or.inl rfl)))) (λ_ _ _ _ _ _=>gR) (λ_ _ _ _ _ _=>(lW (bC 0) (gL aC) pC))) a7))))
theorem aD9 (Z:Zs mg)(b7:eB P w K mg base)(oP:tP P w K mg base)(xN:bO9 P w K mg base):DT P w K mg base tK "measure" kD 5 qJ:=λhr=>
 (aB (aK9 (d7 b7 hr (aJ 0 a7))) (aB (bV 1 qY.nd (aG cR (cH (bC 0) rfl Z.z0) aC)) (aB (bV 2 qY.nd (d7 oP hr (aJ 0 (aA (aG cR (aG bL aC (aM 1)) aC) a7)))) (aF (aU (d7 xN hr (aA (d6 fT rfl Z.z8 eE (aA (eY (js:=[1]) (N:=["i","sums","n",".acc"]) (cap:=[none,some 2,some 1,none]) (last:=3) (esc:=(a8 kD).names) (XN:=tK) rfl rfl (by decide +kernel) (by decide) (by decide) rfl (fB rfl Z.z6 (aJ 1 a7)) (λ_ _ _ _ _ _=>(bE 0 (aR (show Nodup (["i","sums","n",".acc"]:List Str)by decide +kernel) rfl (Or.inl rfl)))) (λ_ _ _ _ _ _=>gR) (λ_ _ _ _ _ _=>(d6 fT rfl Z.z8 eE (aA (lW (bC 1) (gL (aM 0)) (gL (aG bZ (aM 0) (aM 2)))) a7)))) a7)) a7)))))))
theorem a04 (Z:Zs mg):DT P w K mg base oE "root_sums" gO 0 mC:=λhr=>
 (aB (bV 2 eJ.nd (aG cR (cH (bC 0) rfl Z.z0) aC)) (aB (bV 3 eJ.nd (dO (aJ 2 a7))) (aB (eR PassesOwn.never rfl (xV rfl Z.z6 (cO (aJ 1 a7))) (bE 4 (aR eJ.nd rfl (Or.inr rfl))) (aB (bV 5 eJ.nd (dB (cu_sum rfl) rfl Z.z9 bt_sum (aA (eY (js:=[2,4]) (N:=["i","poly","n","sums","k",".acc"]) (cap:=[none,some 0,some 2,some 3,some 4,none]) (last:=5) (esc:=(a8 gO).names) (XN:=oE) rfl rfl (by decide +kernel) (by decide) (by decide) rfl (xV rfl Z.z6 (cO (aA (aG bZ (dB (cu_min rfl) rfl Z.z10 bt_min (aA (aG cR (aM 4) aC) (aJ 2 a7))) aC) a7))) (λ_ _ _ _ _ _=>(bE 0 (aR (show Nodup (["i","poly","n","sums","k",".acc"]:List Str)by decide +kernel) rfl (Or.inl rfl)))) (λ_ _ _ _ _ _=>gR) (λ_ _ _ _ _ _=>(aG bL (cU (bC 1) (aG cR (aM 2) (aM 0))) (cU (bC 3) (aG cR (aM 4) (aM 0)))))) a7))) (aB (e6 (aW c03 (aM 4) (aM 2) (b5 _)) (aF (us_g 5 eJ.nd (aG bL (aM 4) (cU (bC 0) (aG cR (aM 2) (aM 4)))) aY5)) bU) (aF (lN 3 (pv 3) (pX (aM 5))))))) (aF (nB 3 (pv 3))))))
theorem aA8 (Z:Zs mg)(rB:aA4 P w K mg base):DT P w K mg base qV "mod_poly" iY 1 nY:=λhr=>
 (aF (aU (d7 rB hr (aA (d6 fT rfl Z.z8 eE (aA (eY (js:=[1]) (N:=["c","p",".acc"]) (cap:=[none,some 1,none]) (last:=2) (esc:=(a8 iY).names) (XN:=qV) rfl rfl (by decide +kernel) (by decide) (by decide) rfl (gF (aM 0)) (λ_ _ _ _ _ _=>(bE 0 (aR (show Nodup (["c","p",".acc"]:List Str)by decide +kernel) rfl (Or.inl rfl)))) (λ_ _ _ _ _ _=>gR) (λ_ _ _ _ _ _=>(aG fS (aM 0) (aM 1)))) a7)) a7))))
theorem yN (Z:Zs mg)(bS:jT P w K mg base)(mU:rW P w K mg base)(aZ:eK P w K mg base)(rD:zO P w K mg base):DT P w K mg base tL "mod_parted" iZ 3 kK:=λhr=>
 (aB (bV 3 fA.nd (d7 bS hr (aJ 1 (aJ 2 a7)))) (aB (bV 4 fA.nd (d7 mU hr (aA (cU (bC 3) (pX aC)) (aJ 2 a7)))) (aB (aY3 (d7 aZ hr (aA (d7 bS hr (aJ 0 (aJ 2 a7))) (aA (d7 rD hr (aJ 3 (aJ 4 (aJ 2 a7)))) a7))) (vC rfl (dC 5 (aR fA.nd rfl (Or.inl rfl)) (dC 6 (aR fA.nd rfl (Or.inl rfl)) pU)) (cB (cB lY)))) (aF (aU (cQ (aA (d7 rD hr (aJ 5 (aJ 4 (aJ 2 a7)))) (aA (d7 bS hr (aJ 6 (aJ 2 a7))) a7))))))))
theorem aO6 (Z:Zs mg)(bS:jT P w K mg base):DT P w K mg base vV "scaled" mJ 2 sV:=λhr=>
 (aF (aU (d7 bS hr (aA (d6 fT rfl Z.z8 eE (aA (eY (js:=[1]) (N:=["c","k",".acc"]) (cap:=[none,some 1,none]) (last:=2) (esc:=(a8 mJ).names) (XN:=vV) rfl rfl (by decide +kernel) (by decide) (by decide) rfl (gF (aM 0)) (λ_ _ _ _ _ _=>(bE 0 (aR (show Nodup (["c","k",".acc"]:List Str)by decide +kernel) rfl (Or.inl rfl)))) (λ_ _ _ _ _ _=>gR) (λ_ _ _ _ _ _=>(aG bL (aM 1) (aM 0)))) a7)) (aJ 2 a7)))))
theorem yO (Z:Zs mg):DT P w K mg base tN "inverse_of" j0 0 kJ:=λhr=>
 (aB (bV 2 gY.nd aC) (aB (eR PassesOwn.never rfl (fB rfl Z.z6 (aA (aG cR (aM 1) aC) a7)) (bE 3 (aR gY.nd rfl (Or.inl rfl))) (aF (bV 2 gY.nd (aG fS (aG bL (aM 2) (aM 0)) (aM 1))))) (aF (nB 2 (pv 2)))))
theorem aA9 (Z:Zs mg)(d8:j6 P w K mg base)(oQ:tQ P w K mg base)(bS:jT P w K mg base)(i9:l5 P w K mg base):DT P w K mg base xE "split_by" lJ 5 o7:=λhr=>
 (aB (e6 (aW bG5 (aM 1) (bG1 d8 hr (by decide) rfl) rfl) (aF aQ7) bU) (aB (aY3 (d7 oQ hr (aA (d7 bS hr (aJ 0 (aJ 1 a7))) (aJ 1 a7))) (vC rfl (dC 2 (aR oN.nd rfl (Or.inl rfl)) (dC 3 (aR oN.nd rfl (Or.inl rfl)) pU)) (cB (cB lY)))) (aF (aU (aG bZ (aM 2) (d7 i9 hr (aJ 3 (aJ 1 a7))))))))
theorem a05 (Z:Zs mg)(iH:qZ P w K mg base)(mV:rV P w K mg base):DT P w K mg base uW "lines_out" jS 4 mE:=λhr=>
 (aB (bV 2 dF.nd (dO a7)) (aB (bV 3 dF.nd (aM 0)) (aB (eR PassesOwn.never rfl (fB rfl Z.z6 (aJ 1 a7)) (bE 4 (aR dF.nd rfl (Or.inl rfl))) (aB (bV 5 dF.nd aC) (aB (a38 PassesOwn.never (aW iE (aG fS (d7 iH hr (aJ 3 (bI8 (pX (aM 4)) a7))) (aM 1)) aC (b5 _)) (aB (bV 3 dF.nd (cU (a35 (d7 mV hr (aJ 3 (sL (cQ (aJ 4 (cO a7))) (aJ 1 a7))))) aC)) (aF (us_g 5 dF.nd aC aY5)))) (aF (e6 (aW aR0 (aM 5) aC (b5 _)) (aF (lN 2 (pv 2) (cQ (sL (cQ (aJ 4 (cO a7))) (aJ 5 a7))))) bU))))) (aF (aU (cQ (aJ 2 (aJ 3 a7))))))))
theorem tV (Z:Zs mg)(gA:jE P w K mg base):DT P w K mg base i6 "rootless_parts" dD 1 gH:=λhr=>
 (aB (e6 (aW iE (cH (bC 0) rfl Z.z0) aC (b5 _)) (aF (aU (dO a7))) bU) (aB (bV 2 kZ.nd (bF0 (aW iE (cH (bC 0) rfl Z.z0) aC (b5 _)) (d7 gA hr (aJ 0 (aJ 1 a7))) (dO a7))) (aB (e6 (aW iE (cH (bC 2) rfl Z.z0) aC (b5 _)) (aF (aU (dO (sL (cQ (aJ 0 (cO a7))) a7)))) bU) (aB (e6 (aW (bH2 hr.units) (cU (bC 2) aC) (cU (bC 2) aC) (b5 _)) (aF (aU (dO (sL (cQ (aA (cU (bC 2) aC) (cO a7))) a7)))) bU) (aF (aU (eY (js:=[]) (N:=["g",".acc"]) (cap:=[none,none]) (last:=1) (esc:=(a8 dD).names) (XN:=i6) rfl rfl (by decide +kernel) (by decide) (by decide) rfl (gF (dB bI7 rfl Z.z11 bA9 (aJ 2 a7))) (λ_ _ _ _ _ _=>(bE 0 (aR (show Nodup (["g",".acc"]:List Str)by decide +kernel) rfl (Or.inl rfl)))) (λ_ _ _ _ _ _=>gR) (λ_ _ _ _ _ _=>(cQ (aJ 0 (cO a7)))))))))))
theorem rA (Z:Zs mg):DT P w K mg base kE "two_by_two" dY 0 jC:=λhr=>
 (aB (eR PassesOwn.never rfl (fB rfl Z.z6 (aJ 1 a7)) (bE 2 (aR bI.nd rfl (Or.inl rfl))) (aB (bV 3 bI.nd (aG fS (aG cR (cU (bC 0) aC) (aM 2)) (aM 1))) (aB (bV 4 bI.nd (aG cR (cU (bC 0) aC) (aG bL (aM 2) (aM 3)))) (aF (eR PassesOwn.never rfl (fB rfl Z.z6 (aJ 1 a7)) (bE 5 (aR bI.nd rfl (Or.inl rfl))) (aB (bV 6 bI.nd (aG fS (aG cR (aM 4) (aM 5)) (aM 1))) (aF (e6 (PUW.pt (wG (aW iE (aG fS (aG bL (aM 5) (aM 6)) (aM 1)) (cU (bC 0) aC) (b5 _)) (sE (aW iE (aG fS (aG bZ (aG bL (aM 2) (aM 6)) (aG bL (aM 5) (aM 3))) (aM 1)) (cU (bC 0) aC) (b5 _))))) (aF (aU (dO (sL (cQ (aJ 5 (aJ 2 (cO a7)))) (sL (cQ (aJ 6 (aJ 3 (cO a7)))) a7))))) bU)))))))) (aF (aU (dO a7))))
theorem a06 (Z:Zs mg)(d8:j6 P w K mg base)(rE:uZ P w K mg base):DT P w K mg base oH "papers_of" gP 7 mF:=λhr=>
 (aF (aU (eY (js:=[0,1]) (N:=["p","poly","size",".acc"]) (cap:=[none,some 0,some 1,none]) (last:=3) (esc:=(a8 gP).names) (XN:=oH) rfl rfl (by decide +kernel) (by decide) (by decide) rfl (gF (bG1 d8 hr (by decide) rfl)) (λ_ _ _ _ _ _=>(bE 0 (aR (show Nodup (["p","poly","size",".acc"]:List Str)by decide +kernel) rfl (Or.inl rfl)))) (λ_ _ _ _ _ _=>(bT5 (aW iE (aG fS (aM 2) (aG bL (aM 0) (aM 0))) aC (b5 _)))) (λ_ _ _ _ _ _=>(cQ (aJ 0 (aA (d7 rE hr (aJ 1 (aJ 0 a7))) a7)))))))
theorem aB0 (Z:Zs mg)(rF:uY P w K mg base)(aZ:eK P w K mg base):DT P w K mg base qW "parts_at" j2 6 o8:=λhr=>
 (aF (aU (eY (js:=[0]) (N:=["g","often","poly",".acc"]) (cap:=[none,none,some 0,none]) (last:=3) (esc:=(a8 j2).names) (XN:=qW) rfl rfl (by decide +kernel) (by decide) (by decide) rfl (gF (d7 rF hr (aJ 0 (aJ 1 a7)))) (λ_ _ _ _ _ _=>(vC rfl (dC 0 (aR (show Nodup (["g","often","poly",".acc"]:List Str)by decide +kernel) rfl (Or.inl rfl)) (dC 1 (aR (show Nodup (["g","often","poly",".acc"]:List Str)by decide +kernel) rfl (Or.inl rfl)) pU)) (cB (cB lY)))) (λ_ _ _ _ _ _=>gR) (λ_ _ _ _ _ _=>(cQ (aJ 0 (aJ 1 (aA (cU (a35 (d7 aZ hr (aJ 2 (aJ 0 a7)))) aC) a7))))))))
theorem yP (Z:Zs mg)(aZ:eK P w K mg base):DT P w K mg base mM "outside_of" fX 2 kM:=λhr=>
 (aB (eR PassesOwn.never rfl (gF (aM 1)) (vC rfl (dC 2 (aR dQ.nd rfl (Or.inr rfl)) (dC 3 (aR dQ.nd rfl (Or.inl rfl)) pU)) (cB (cB lY))) (aF (eR PassesOwn.never rfl (gF (aM 3)) (vC rfl (dC 4 (aR dQ.nd rfl (Or.inl rfl)) (dC 5 (aR dQ.nd rfl (Or.inl rfl)) (dC 6 (aR dQ.nd rfl (Or.inl rfl)) pU))) (cB (cB (cB lY)))) (aF (e6 (PUW.pt (wG (aW c04 (aM 5) aC (b5 _)) (sE (zA (dB (aZ2 rfl) rfl Z.z1 aZ3 (aA (eY (js:=[2]) (N:=["c","p",".acc"]) (cap:=[none,some 2,none]) (last:=2) (esc:=(a8 fX).names) (XN:=mM) rfl rfl (by decide +kernel) (by decide) (by decide) rfl (gF (aM 6)) (λ_ _ _ _ _ _=>(bE 0 (aR (show Nodup (["c","p",".acc"]:List Str)by decide +kernel) rfl (Or.inl rfl)))) (λ_ _ _ _ _ _=>gR) (λ_ _ _ _ _ _=>(aK0 iE (aG fS (aM 0) (aG bL (aM 1) (aM 1))) aC (b5 _)))) a7)))))) (aF (aU (cQ (aJ 2 (aA (cU (a35 (d7 aZ hr (aJ 0 (aJ 4 a7)))) aC) a7))))) bU))))) (aF (aU aY1)))
theorem tW (Z:Zs mg){aD:Addr}(cG:mg "FallsApart"=some (.ref aD)){bJ:Addr}{oR:FuncData}(cV:nJ K aD bJ [.type "ValueError",.type "Exception",.type "BaseException",.type "object"] "ValueError.__new__"=true)(j8:aC2 K aD bJ oR "left" "right")(lU:vY P w K mg base){f:Addr}{cdv:Value}{A:Around}{outer:List Env}{s:Shared}{H:Hp}{E:XK}(hr:dA 4 (A.deeper (envOfC "need_together" (a8 cP) s.heap.objs.size f cdv))) :
  sO (nU (CXr P w base) P w K mg base nQ "need_together" (a8 cP) f cdv A outer s H E) E (bK cP) gI:=
 (aL6 (wP (pV 1 mQ.nd rfl (Or.inl rfl) (wJ lU hr (by decide) rfl (aA (bX 0 (pv 0)) a7)) (hl:=il (n:=2) rfl (by decide)))) (a52 (bJ5 (aS0 (bX 1 (pv 1))) (a52 (aH0 (k:=0) PySem.F.excBase_ValueError cV j8 (hr.mono (by decide)) rfl cG rfl (aA (zB (pS 1 (pv 1)) aC (λ_ _=>rfl)) (aA (zB (pS 1 (pv 1)) aC (λ_ _=>rfl)) a7)) b03 rfl (by decide))) b05)))
theorem xM (Z:Zs mg){bB:Addr}(dI:mg "NotWhole"=some (.ref bB)){cK:Addr}{tX:FuncData}(eU:nJ K bB cK [.type "ValueError",.type "Exception",.type "BaseException",.type "object"] "ValueError.__new__"=true)(mW:aC2 K bB cK tX "prime" "number")(mX:rX P w K mg base)(oS:tT P w K mg base)(w6:zN P w K mg base){f:Addr}{cdv:Value}{A:Around}{outer:List Env}{s:Shared}{H:Hp}{E:XK}(hr:dA 8 (A.deeper (envOfC "need_whole" (a8 dE) s.heap.objs.size f cdv))) :
  sO (nU (CXr P w base) P w K mg base mO "need_whole" (a8 dE) f cdv A outer s H E) E (bK dE) jI:=
 (aL6 (wP (pV 2 gZ.nd rfl (Or.inl rfl) (wJ mX hr (by decide) rfl (aA (bX 0 (pv 0)) (aA (wJ oS hr (by decide) rfl (aA (bX 0 (pv 0)) (aA (bX 1 (pv 1)) a7))) a7))) (hl:=il (n:=5) rfl (by decide)))) (a52 (bJ5 (aS0 (bX 2 (pv 2))) (aL6 (wP (aY3 (bX 2 (pv 2)) (vC rfl (dC 3 (aR gZ.nd rfl (Or.inr rfl)) (dC 4 (aR gZ.nd rfl (Or.inl rfl)) pU)) (cB (cB lY))))) (a52 (aH0 (k:=0) PySem.F.excBase_ValueError eU mW (hr.mono (by decide)) rfl dI rfl (aA (bX 3 (pv 3)) (aA (wJ w6 hr (by decide) rfl (aA (d6 fT rfl Z.z8 eE (aA (eY (js:=[3]) (N:=["c","p",".acc"]) (cap:=[none,some 3,none]) (last:=2) (esc:=(a8 dE).names) (XN:=mO) rfl rfl (by decide +kernel) (by decide) (by decide) rfl (gF (bX 4 (pv 4))) (λ_ _ _ _ _ _=>(bE 0 (aR (show Nodup (["c","p",".acc"]:List Str)by decide +kernel) rfl (Or.inl rfl)))) (λ_ _ _ _ _ _=>gR) (λ_ _ _ _ _ _=>(aG fS (bX 0 (pv 0)) (bX 1 (pv 1))))) a7)) (aA (aG cR (cH (pS 0 (pv 0)) rfl Z.z0) aC) a7))) a7)) b03 rfl (by decide)))) b05)))
theorem bP0 (Z:Zs mg):DT P w K mg base bO5 "_law_cell" aN6 0 aM3:=λhr=>
 (aB (e6 (aW iE (cH (bC 0) rfl Z.z0) aC (b5 _)) (aF (aU (aG bL aC (aG bZ (aM 1) aC)))) bU) (aB (e6 (aW aQ9 (aM 1) (cH (bC 0) rfl Z.z0) (b5 _)) (aF (aU (cU (bC 0) (aM 1)))) bU) (aF (aU (aG bZ (cU (bC 0) (aG fS (aM 1) (cH (bC 0) rfl Z.z0))) (aG bL aC (aM 1)))))))
theorem bB1 (Z:Zs mg):DT P w K mg base b58 "_law_mixed" a25 0 a57:=λhr=>
 (aB (bV 3 aA3.nd (aG fS (aG bL (aG bZ (aG bZ (aG bZ (aM 0) (aG bL (aG bL aC (aM 1)) (aM 1))) (aG bL aC (aM 1))) aC) aC) aC)) (aB (bV 3 aA3.nd (aG fS (aG bL (aM 3) (aM 3)) aC)) (aF (aU (aG fS (aG bL (aM 3) aC) (aM 2))))))
theorem bB2 (Z:Zs mg)(aO7:aV4 P w K mg base):DT P w K mg base b59 "_law_draws" a26 1 a58:=λhr=>
 (aB (bV 3 pP.nd aC) (aB (e6 (aW c04 (aM 0) (aG bF7 aC aC) (b5 _)) (aF (bV 3 pP.nd (aG cR (aM 0) (aG bF7 aC aC)))) bU) (aB (bV 4 pP.nd (dO a7)) (aB (eR PassesOwn.never rfl (fB rfl Z.z6 (aA (cH (bC 1) rfl Z.z0) a7)) (bE 5 (aR pP.nd rfl (Or.inl rfl))) (aF (e6 (aW aR0 (aM 3) aC (b5 _)) (aB (lN 4 (pv 4) (aG fS (aM 3) (cU (bC 1) (aM 5)))) (aF (bV 3 pP.nd (aG vD (aM 3) (cU (bC 1) (aM 5)))))) (aF (lN 4 (pv 4) (aG fS (d7 aO7 hr (aJ 0 (aJ 5 (aJ 2 a7)))) (cU (bC 1) (aM 5)))))))) (aF (nB 4 (pv 4)))))))
theorem bB3 (Z:Zs mg):DT P w K mg base b60 "_law_whole" a27 0 a60:=λhr=>
 (aF (aU (vB (dB aK5 rfl Z.z12 jO (aJ 0 (aA (aR1 rfl Z.z13 bt_int) a7))) (a36 (aK2 (dB aK5 rfl Z.z12 jO (aJ 0 (aA (aR1 rfl Z.z14 bW6) a7))))))))
theorem aE0 (Z:Zs mg):DT P w K mg base zM "_law_times_out" nR 0 qO:=λhr=>
 (aB (bV 2 lL.nd (aG bL (dO (cO a7)) (aG cR (aG bZ (cH (bC 0) rfl Z.z0) (cH (bC 1) rfl Z.z0)) aC))) (aB (eR PassesOwn.never rfl (fB rfl Z.z6 (aA (cH (bC 0) rfl Z.z0) a7)) (bE 3 (aR lL.nd rfl (Or.inl rfl))) (aF (eR PassesOwn.never rfl (fB rfl Z.z6 (aA (cH (bC 1) rfl Z.z0) a7)) (bE 4 (aR lL.nd rfl (Or.inl rfl))) (aF (a41 2 (pv 2) (aG bZ (cU (bC 2) (aG bZ (aM 3) (aM 4))) (aG bL (cU (bC 0) (aM 3)) (cU (bC 1) (aM 4)))) (aG bZ (aM 3) (aM 4))))))) (aF (aU (d6 fT rfl Z.z8 eE (aJ 2 a7))))))
theorem bB4 (Z:Zs mg)(aO8:aV6 P w K mg base):DT P w K mg base aN8 "_law_monic" xF 1 a84:=λhr=>
 (aB (e6 (PUW.pt (xU (pT (zA (dB aK5 rfl Z.z12 jO (aJ 0 (aA (aR1 rfl Z.z8 eE) a7))))) (wF (aW aQ9 (cH (bC 0) rfl Z.z0) aC (b5 _))))) (aF (aU yY)) bU) (aF (aU (vB (dB (aZ2 rfl) rfl Z.z1 aZ3 (aA (eY (js:=[]) (N:=["_law_place",".acc"]) (cap:=[none,none]) (last:=1) (esc:=(a8 xF).names) (XN:=aN8) rfl rfl (by decide +kernel) (by decide) (by decide) rfl (gF (aM 0)) (λ_ _ _ _ _ _=>(bE 0 (aR (show Nodup (["_law_place",".acc"]:List Str)by decide +kernel) rfl (Or.inl rfl)))) (λ_ _ _ _ _ _=>gR) (λ_ _ _ _ _ _=>(d7 aO8 hr (aJ 0 a7)))) a7)) (a36 (aK0 iE (cU (bC 0) (pX aC)) aC (b5 _)))))))
theorem bP1 (Z:Zs mg)(a28:aV7 P w K mg base)(iJ:r6 P w K mg base):DT P w K mg base bO6 "_law_pair" aN9 2 aN4:=λhr=>
 (aB (e6 (PUW.pt (xU (pT (zA (d7 a28 hr (aJ 0 a7)))) (wF (pT (zA (d7 a28 hr (aJ 1 a7))))))) (aF (aU yY)) bU) (aF (aU (aK0 (bH2 hr.units) (d7 iJ hr (aJ 0 (aJ 1 a7))) (aM 2) (b5 _)))))
theorem bB5 (Z:Zs mg)(a29:aV5 P w K mg base)(iJ:r6 P w K mg base):DT P w K mg base aO1 "_law_drawn" xG 2 a88:=λhr=>
 (aB (bV 1 j4.nd (d7 a29 hr (aJ 0 (aA (dO (cO (cO (cO a7)))) (cO a7))))) (aB (e6 (aW iE (cU (bC 1) aC) aC (b5 _)) (by refine WS.out ?_;exact ws_lw (zW (hX (hX (hX iN))) (zW (bV3 (hX (hX iN))) (zW (hX (hX (hX iN))) (zW (hX (hX (hX (hX (hX iN))))) (zW (bV3 (hX (bV3 (hX iN)))) (zW (hX (hX (bV3 (hX (hX iN))))) iN)))))) (c06 (aF (aU (cU (bC 2) (cU (bC 1) aC))))) j4.nd) bU) (by refine WS.out ?_;exact ws_lx (zW (hX (hX iN)) (zW (hX (hX iN)) (zW (hX (hX iN)) (zW (hX (hX iN)) (zW (hX (hX iN)) (zW (hX (hX iN)) iN)))))) (cU (bC 1) aC) (c06 (aB (bV 4 j4.nd (d7 a29 hr (aJ 0 (aA (dO (cO (cO (cO (cO (cO (cO (cO a7)))))))) (cO a7))))) (aB (aR4 (js:=[]) (N:=["_law_place",".acc"]) (cap:=[none,none]) (last:=1) (esc:=(a8 xG).names) (XN:=aO1) 5 rfl rfl (by decide +kernel) (by decide) (by decide) rfl (gF (lW (bC 4) (gL aC) pC)) (λ_ _ _ _ _ _=>(bE 0 (aR (show Nodup (["_law_place",".acc"]:List Str)by decide +kernel) rfl (Or.inl rfl)))) (λ_ _ _ _ _ _=>gR) (λ_ _ _ _ _ _=>(aG cR (aM 0) aC)) (aR j4.nd rfl (Or.inl rfl)) (il (n:=8) rfl (by decide))) (aB (bV 6 j4.nd (d6 fT rfl Z.z8 eE (aA (aG bZ (lW (bC 5) pC (gL (cU (bC 3) aC))) (dO (cO a7))) a7))) (aB (bV 7 j4.nd (d6 fT rfl Z.z8 eE (aA (aG bZ (lW (bC 5) (gL (cU (bC 3) aC)) (gL (aG bZ (cU (bC 3) aC) (cU (bC 3) aC)))) (dO (cO a7))) a7))) (aB (e6 (PUW.pt (wG (aW iE (cU (bC 1) aC) aC (b5 _)) (sE (aW iE (cU (bC 3) aC) (cU (bC 3) aC) (b5 _))))) (aF (bV 7 j4.nd (aM 6))) bU) (aF (aU (d7 iJ hr (aJ 6 (aJ 7 a7))))))))))) j4.nd)))
theorem aW0 (Z:Zs mg){aD:Addr}(cG:mg "FallsApart"=some (.ref aD)){bJ:Addr}{oR:FuncData}(cV:nJ K aD bJ [.type "ValueError",.type "Exception",.type "BaseException",.type "object"] "ValueError.__new__"=true)(j8:aC2 K aD bJ oR "left" "right"){cL:Addr}(eQ:mg "RingError"=some (.ref cL))(kF:excIn K cL [.type "ValueError",.type "Exception",.type "BaseException",.type "object"] "ValueError.__new__"=true){cM:Addr}(dJ:mg "NoPolynomial"=some (.ref cM))(j9:excIn K cM [.type "ValueError",.type "Exception",.type "BaseException",.type "object"] "ValueError.__new__"=true){bB:Addr}(dI:mg "NotWhole"=some (.ref bB)){cK:Addr}{tX:FuncData}(eU:nJ K bB cK [.type "ValueError",.type "Exception",.type "BaseException",.type "object"] "ValueError.__new__"=true)(mW:aC2 K bB cK tX "prime" "number"){dL:Addr}(dM:mg "TooGreat"=some (.ref dL))(eV:excIn K dL [.type "ValueError",.type "Exception",.type "BaseException",.type "object"] "ValueError.__new__"=true)(KX_FallsApart:bJ9 K aD ["left","right"])(U1_FallsApart:qE K aD aD [.type "ValueError",.type "Exception",.type "BaseException",.type "object"] "ValueError.__new__")(U2_FallsApart: ∀n∈(["TooGreat","NotWhole"]:List Str),∀C,mg n=some (.ref C)->qF K aD C [.type "ValueError",.type "Exception",.type "BaseException",.type "object"] "ValueError.__new__" false/\qE K cL C [.type "ValueError",.type "Exception",.type "BaseException",.type "object"] "ValueError.__new__")(ki_RingError:kitOne K (.ref aD) (.ref cL)=some true)(ki_ValueError:kitOne K (.ref aD) (.type "ValueError")=some true)(ki_NoPolynomial:kitOne K (.ref aD) (.ref cM)=some false)(ki_NotWhole:kitOne K (.ref aD) (.ref bB)=some false)(ki_TooGreat:kitOne K (.ref aD) (.ref dL)=some false)(aO9:MkX P w K mg base "Ring" 10 ["poly","degree","measure"] tG)(yQ:aO4 P w K mg base):DT P w K mg base aI5 "_law_refused" uH 11 vS:=λhr=>
 (aB (bV 1 fY.nd (cQ (sL (cQ a7) (sL (cQ a7) a7)))) (aB (bV 2 fY.nd yY) (aB (bW4 3 ["TooGreat","NotWhole"] (.inr ⟨by decide,rfl⟩) PySem.F.excBase_ValueError rfl rfl rfl rfl (bW3 aO9 hr (by decide) rfl (λ_=>(aJ 0 a7))) (λa oe x ho hx=>(aB (bV 1 fY.nd (cQ (aA (b43 3 KX_FallsApart (mem_cons_self ..) ho hx (by decide) (pv 3)) (aA (b43 3 KX_FallsApart (mem_cons_self ..) ho hx (by decide) (pv 3)) a7)))) (aB (bV 2 fY.nd (vB (a56 3 KX_FallsApart.toXKit (mem_cons_self ..) ho hx (pv 3) (aM2 rfl eQ) rfl ki_RingError rfl Z.z12) (vB (a56 3 KX_FallsApart.toXKit (mem_cons_self ..) ho hx (pv 3) (aR1 rfl Z.z15 aC3) rfl ki_ValueError rfl Z.z12) (a36 (aK2 (a56 3 KX_FallsApart.toXKit (mem_cons_self ..) ho hx (pv 3) (aM2 rfl dJ) rfl ki_NoPolynomial rfl Z.z12)))))) (aF (bV 2 fY.nd (vB (aM 2) (vB (aK2 (a56 3 KX_FallsApart.toXKit (mem_cons_self ..) ho hx (pv 3) (aM2 rfl dI) rfl ki_NotWhole rfl Z.z12)) (a36 (aK2 (a56 3 KX_FallsApart.toXKit (mem_cons_self ..) ho hx (pv 3) (aM2 rfl dM) rfl ki_TooGreat rfl Z.z12)))))))))) (λ_=>(aF (bV 2 fY.nd yY))) rfl cG (.inr ⟨_,cV⟩) rfl eQ (.inl kF) U1_FallsApart U2_FallsApart fY.nd rfl rfl (il (n:=4) rfl (by decide))) (aF (aU (vB (aM 2) (a36 (d7 yQ hr (aA (cU (bC 1) aC) (aA (cU (bC 1) aC) (aJ 0 a7)))))))))))
theorem bY6 (Z:Zs mg)(aP0:aV8 P w K mg base)(b21:b62 P w K mg base)(lU:vY P w K mg base)(yQ:aO4 P w K mg base)(yR:aA5 P w K mg base):DT P w K mg base c15 "law" aA0 12 aN5:=λhr=>
 (aB (eR PassesOwn.never rfl (fB rfl Z.z6 (cO a7)) (bE 1 (aR aO3.nd rfl (Or.inl rfl))) (aB (bV 2 aO3.nd (d7 aP0 hr (aA (d7 b21 hr (aJ 0 (aJ 1 a7))) a7))) (aB (bV 3 aO3.nd (d7 lU hr (aJ 2 a7))) (aB (e6 (PUW.pt (xU (pT (zA (dB aK5 rfl Z.z12 jO (aJ 3 (aA (aR1 rfl Z.z8 eE) a7))))) (wF (aW bF8 (cH (bC 3) rfl Z.z0) aC (b5 _))))) (aF (aU yY)) bU) (aF (e6 (PUW.pt (xU (pT (zA (d7 yQ hr (aA (cU (bC 3) aC) (aA (cU (bC 3) aC) (aJ 2 a7)))))) (wF (pT (zA (d7 yR hr (aJ 2 a7))))))) (aF (aU yY)) bU)))))) (aF (aU yY)))
theorem bB6 (Z:Zs mg){iA:Tok}(bM:mg "GREATEST_MEASURE"=some (.int 39999 iA)){dL:Addr}(dM:mg "TooGreat"=some (.ref dL))(eV:excIn K dL [.type "ValueError",.type "Exception",.type "BaseException",.type "object"] "ValueError.__new__"=true)(b7:eB P w K mg base)(tY:xK P w K mg base)(iB:FnX P w K mg base "need_together" ["poly"] 5 cT)(kR:FnX P w K mg base "need_whole" ["poly","size"] 9 eG){f:Addr}{cdv:Value}{A:Around}{outer:List Env}{s:Shared}{H:Hp}{E:XK}(hr:dA 9 (A.deeper (envOfC "Ring.__init__" (a8 tO) s.heap.objs.size f cdv))) :
  PSs (nU (CXr P w base) P w K mg base ["self","poly","size"] "Ring.__init__" (a8 tO) f cdv A outer s H E) (bK tO) (λD=>lSX K mg E a79 {D with nx:=tS3 K "poly" "degree" "measure" a80 a81 a82 D}):=
 (a17 (wP (aK9 (wJ b7 hr (by decide) rfl (aA (bX 1 (pv 1)) a7)))) (a17 (b39 iB hr (by decide) c07 rfl (aA (bX 1 (pv 1)) a7)) (a17 (wP (pV 2 b61.nd rfl (Or.inl rfl) (wJ tY hr (by decide) rfl (aA (bX 1 (pv 1)) a7)) (hl:=il (n:=3) rfl (by decide)))) (a17 (bJ5 (aW aR0 (dB aY7 rfl Z.z2 b08 (aA (bX 2 (pv 2)) a7)) (b36 rfl bM) (b5 _)) (a52 (bJ6 PySem.F.excBase_ValueError eV rfl dM rfl (aA pu_str a7) b03 rfl)) b05) (bV9 (b39 kR hr (by decide) c07 rfl (aA (bX 1 (pv 1)) (aA (bX 2 (pv 2)) a7))) (oZ (aX3 (pv 0) (bX 1 (pv 1)) rfl) (oZ (aX3 (pv 0) (aG cR (cH (pS 1 (pv 1)) rfl Z.z0) aC) rfl) (aJ0 (aX3 (pv 0) (bX 2 (pv 2)) rfl)))))))))
end
local macro_rules| `(tactic| walk_at "b0")=> `(tactic| exact λ_ _ _ _ _ _ us hl=>match us,hl with| [],_=>rfl)
local macro_rules| `(tactic| walk_at "b1")=> `(tactic| exact λ_ _ _ _ _ _ us hl=>match us,hl with| [_],_=>rfl)
local macro_rules| `(tactic| walk_at "b2")=> `(tactic| exact λ_ _ _ _ _ _ us hl=>match us,hl with| [_,_],_=>rfl)
local macro_rules| `(tactic| walk_at "b3")=> `(tactic| exact λ_ _ _ _ _ _ us hl=>match us,hl with| [_,_,_],_=>rfl)
structure FD where
 oc:Value
 od:Option Addr
 kV:Value
 dc:Value
 pm:Value
 an:Option Addr
 cd:Value
 ct:Value
 sl:Array (Option Value)
abbrev eM (K:PySem.W.Frag)(x y:Str)(s:Stmt)(f:Addr):Prop:= ∃d:FD,nsIn K mainGlobals y=some (some (.ref f))/\K.lookup f=some ⟨d.oc,d.od,.func (fnOf x x (fL s) (bK s) (a8 s) .none d.kV d.dc d.pm d.an d.cd d.ct),d.sl⟩/\codeIn K d.cd x=true/\keepIn K (.ref f)=true
theorem fnAt {K:PySem.W.Frag}{x y:Str}{s:Stmt}{f:Addr}{oc:Value}{od:Option Addr}{kV dc pm:Value}{an:Option Addr}{cd ct:Value}{sl:Array (Option Value)}(a:nsIn K mainGlobals y=some (some (.ref f)))(b:K.lookup f=some ⟨oc,od,.func (fnOf x x (fL s) (bK s) (a8 s) .none kV dc pm an cd ct),sl⟩)(c:codeIn K cd x=true)(k:keepIn K (.ref f)=true):eM K x y s f:=⟨⟨oc,od,kV,dc,pm,an,cd,ct,sl⟩,a,b,c,k⟩
theorem all_mk {l:PySem.W.OpenLaw}{w:World}{K:PySem.W.Frag}{h:Heap}{mg:Str->Option Value}{fa f1 f2 f3 f4 f5 f6 f7 f8 f9 f10 f11 f12 f13 f14 f15 f16 f17 f18 f19 f20 f21 f22 f23 f24 f25 f26 f27 f28 f29 f30 f31 f32 f33 f34 f35 f36 f37 f38 f39 f40 bJ cK xO aD cL dL bB cM jN eN:Addr}(X:K.In h)(G:h.Ns mainGlobals mg)(hfa:mg "law"=some (.ref fa))
  {aE1 aE2 aW1 aW2 bY7 bY8 a07:Option Addr} {aE3 aW3 bY9 a08:Array (Option Value)} {aE4 aE5 aE6 v8 aE7 aW4 aW5 aW6 zP aW7 bZ0 bZ1 bZ2 b63 bZ3 bZ4:Value} {lM w8 mY aB2:ClassData} {jL iA:Tok} {yS:Array Value} {n_SMALL_PRIMES:Nat}
  (P1:eM K "is_ring_poly" "is_ring_poly" eH f1)
  (P2:eM K "need_ring_poly" "need_ring_poly" eT f2)
  (P3:eM K "cut" "cut" a23 f3)
  (P4:eM K "padded" "padded" qR f4)
  (P5:eM K "poly_parted" "poly_parted" gX f5)
  (P6:eM K "poly_at" "poly_at" nO f6)
  (P7:eM K "root" "root" xB f7)
  (P8:eM K "small_primes" "small_primes" gC f8)
  (P9:eM K "apart" "apart" uG f9)
  (P10:eM K "dividers" "dividers" lF f10)
  (P11:eM K "line_and_rest" "line_and_rest" fP f11)
  (P12:eM K "two_by_two" "two_by_two_apart" dX f12)
  (P13:eM K "two_with" "two_with" lH f13)
  (P14:eM K "det" "det" a24 f14)
  (P15:eM K "without" "without" kC f15)
  (P16:eM K "measure" "measure" kD f16)
  (P17:eM K "root_sums" "root_sums" gO f17)
  (P18:eM K "mod_poly" "mod_poly" iY f18)
  (P19:eM K "mod_parted" "mod_parted" iZ f19)
  (P20:eM K "scaled" "scaled" mJ f20)
  (P21:eM K "inverse_of" "inverse_of" j0 f21)
  (P22:eM K "split_by" "split_by" lJ f22)
  (P23:eM K "lines_out" "lines_out" jS f23)
  (P24:eM K "rootless_parts" "rootless_parts" dD f24)
  (P25:eM K "two_by_two" "two_by_two_split" dY f25)
  (P26:eM K "papers_of" "papers_of" gP f26)
  (P27:eM K "parts_at" "parts_at" j2 f27)
  (P28:eM K "outside_of" "outside_of" fX f28)
  (P29:eM K "need_together" "need_together" cP f29)
  (P30:eM K "need_whole" "need_whole" dE f30)
  (P31:eM K "_law_cell" "_law_cell" aN6 f31)
  (P32:eM K "_law_mixed" "_law_mixed" a25 f32)
  (P33:eM K "_law_draws" "_law_draws" a26 f33)
  (P34:eM K "_law_whole" "_law_whole" a27 f34)
  (P35:eM K "_law_times_out" "_law_times_out" nR f35)
  (P36:eM K "_law_monic" "_law_monic" xF f36)
  (P37:eM K "_law_pair" "_law_pair" aN9 f37)
  (P38:eM K "_law_drawn" "_law_drawn" xG f38)
  (P39:eM K "_law_refused" "_law_refused" uH f39)
  (P40:eM K "law" "law" aA0 f40)
  (cG:nsIn K mainGlobals "FallsApart"=some (some (.ref aD)))
  (eQ:nsIn K mainGlobals "RingError"=some (some (.ref cL)))
  (dM:nsIn K mainGlobals "TooGreat"=some (some (.ref dL)))
  (dI:nsIn K mainGlobals "NotWhole"=some (some (.ref bB)))
  (dJ:nsIn K mainGlobals "NoPolynomial"=some (some (.ref cM)))
  (aB3:nsIn K mainGlobals "Ring"=some (some (.ref jN)))
  (v9:PySem.W.findIn K (.ref aD) "__init__"=some (some (.ref bJ)))
  (zQ:PySem.W.findIn K (.ref bB) "__init__"=some (some (.ref cK)))
  (aP1:PySem.W.findIn K (.ref jN) "__init__"=some (some (.ref xO)))
  (rG:K.lookup bJ=some ⟨.type "function",aE1,.func (fnOf "__init__" "FallsApart.__init__" (fL j5) (bK j5) (a8 j5) .none aE4 aE5 aE6 aE2 v8 aE7),aE3⟩)
  (wA:K.lookup cK=some ⟨.type "function",aW1,.func (fnOf "__init__" "NotWhole.__init__" (fL mR) (bK mR) (a8 mR) .none aW4 aW5 aW6 aW2 zP aW7),aW3⟩)
  (b22:K.lookup xO=some ⟨bZ4,bY7,.func (fnOf "__init__" "Ring.__init__" (fL tO) (bK tO) (a8 tO) .none bZ0 bZ1 bZ2 bY8 b63 bZ3),bY9⟩)
  (oU:codeIn K v8 "FallsApart.__init__"=true)
  (oV:keepIn K (.ref bJ)=true)
  (tZ:codeIn K zP "NotWhole.__init__"=true)
  (u4:keepIn K (.ref cK)=true)
  (aP2:codeIn K b63 "Ring.__init__"=true)
  (aP3:keepIn K (.ref xO)=true)
  (cV:nJ K aD bJ [.type "ValueError",.type "Exception",.type "BaseException",.type "object"] "ValueError.__new__"=true)
  (eU:nJ K bB cK [.type "ValueError",.type "Exception",.type "BaseException",.type "object"] "ValueError.__new__"=true)
  (kF:excIn K cL [.type "ValueError",.type "Exception",.type "BaseException",.type "object"] "ValueError.__new__"=true)
  (eV:excIn K dL [.type "ValueError",.type "Exception",.type "BaseException",.type "object"] "ValueError.__new__"=true)
  (j9:excIn K cM [.type "ValueError",.type "Exception",.type "BaseException",.type "object"] "ValueError.__new__"=true)
  (gQ:PySem.W.clsIn K aD=some lM)
  (nT:PySem.W.clsIn K dL=some w8)
  (kG:PySem.W.clsIn K bB=some mY)
  (rY:PySem.W.clsIn K cM=some aB2)
  (se_FallsApart:(lM).mro.contains (.ref aD)=true)
  (nu_FallsApart_TooGreat:(w8).mro.contains (.ref aD)=false)
  (fJ:(w8).mro.contains (.ref cL)=true)
  (nu_FallsApart_NotWhole:(mY).mro.contains (.ref aD)=false)
  (fK:(mY).mro.contains (.ref cL)=true)
  (kg_FallsApart:PySem.W.findIn K (.ref aD) "__getattribute__"=some (some (.builtin "BaseException.__getattribute__")))
  (kh_FallsApart:PySem.W.findIn K (.ref aD) "__getattr__"=some none)
  (ka_FallsApart:PySem.W.findIn K (.ref aD) "__class__"=some (some (.builtin "object.__class__")))
  (kn_FallsApart:PySem.W.specialIn K (.builtin "object.__class__") "__get__"=some (some (.builtin "getset_descriptor.__get__")))
  (kt_FallsApart:PySem.W.takesIn K (.builtin "object.__class__")=some true)
  (km_FallsApart:PySem.W.mroIn K aD (.type "object")=some true)
  (kb_FallsApart:PySem.W.mroIn K aD (.type "BaseException")=some true)
  (kd_FallsApart:PySem.W.hasDictIn K aD=true)
  (ki_RingError:kitOne K (.ref aD) (.ref cL)=some true)
  (ki_ValueError:kitOne K (.ref aD) (.type "ValueError")=some true)
  (ki_NoPolynomial:kitOne K (.ref aD) (.ref cM)=some false)
  (ki_NotWhole:kitOne K (.ref aD) (.ref bB)=some false)
  (ki_TooGreat:kitOne K (.ref aD) (.ref dL)=some false)
  (oW:m8 (lM).mro=true)
  (oX:(lM).hasDict=true)
  (oY:PySem.W.findIn K (.ref aD) "__setattr__"=some (some (.builtin "object.__setattr__")))
  (jU:PySem.W.findIn K (.ref aD) "left"=some none)
  (jV:PySem.W.findIn K (.ref aD) "right"=some none)
  (u5:m8 (mY).mro=true)
  (u6:(mY).hasDict=true)
  (u7:PySem.W.findIn K (.ref bB) "__setattr__"=some (some (.builtin "object.__setattr__")))
  (u8:PySem.W.findIn K (.ref bB) "prime"=some none)
  (u9:PySem.W.findIn K (.ref bB) "number"=some none)
  (mk_Ring:makesIn K jN=true)
  (fn_Ring:PySem.W.isFn K (.ref xO)=true)
  (kc_Ring:keepIn K (.ref jN)=true)
  (pg_Ring:plainGet K jN Str.empty=true)
  (aP4:PySem.W.hasDictIn K jN=true)
  (po_Ring:plainOver K jN=true)
  (aP5:PySem.W.findIn K (.ref jN) "__setattr__"=some (some (.builtin "object.__setattr__")))
  (aP6:PySem.W.findIn K (.ref jN) "poly"=some none)
  (yT:PySem.W.findIn K (.ref jN) "degree"=some none)
  (wB:PySem.W.findIn K (.ref jN) "measure"=some none)
  (bP2:nsIn K mainGlobals "len"=some none)
  (bP3:nsIn K mainGlobals "all"=some none)
  (bP4:nsIn K mainGlobals "abs"=some none)
  (bP5:nsIn K mainGlobals "max"=some none)
  (b23:nsIn K mainGlobals "list"=some none)
  (wC:nsIn K mainGlobals "reversed"=some none)
  (aP7:nsIn K mainGlobals "range"=some none)
  (uA:nsIn K mainGlobals "enumerate"=some none)
  (aP8:nsIn K mainGlobals "tuple"=some none)
  (bP6:nsIn K mainGlobals "sum"=some none)
  (bP7:nsIn K mainGlobals "min"=some none)
  (aB4:nsIn K mainGlobals "sorted"=some none)
  (rH:nsIn K mainGlobals "isinstance"=some none)
  (bP8:nsIn K mainGlobals "int"=some none)
  (b24:nsIn K mainGlobals "bool"=some none)
  (rJ:nsIn K mainGlobals "ValueError"=some none)
  (cD:nsIn K mainGlobals "GREATEST_PLACE"=some (some (.int 499 jL)))
  (bM:nsIn K mainGlobals "GREATEST_MEASURE"=some (some (.int 39999 iA)))
  (dG:nsIn K mainGlobals "SMALL_PRIMES"=some (some (.ref eN)))
  (kS:K.lookup eN=some ⟨.type "tuple",a07,.seq yS n_SMALL_PRIMES,a08⟩)
  (kT:yS.size<=sizeLine)
  (kU:Vals (T_SMALL_PRIMES.map V.int) yS.toList) :
  ∃fd:FuncData,(∀(s:Shared) (v:Value),BindsTo s fd ⟨[v],[]⟩ [("_law_script",v)])/\ ∀base:Heap,K.In base->base.Ns mainGlobals mg->kI l.prog w K mg base CX0 13 fa fd ["_law_script"] (spP K aF9):=by
 have h1:=P1.choose_spec;have h2:=P2.choose_spec;have h3:=P3.choose_spec;have h4:=P4.choose_spec;have h5:=P5.choose_spec;have h6:=P6.choose_spec;have h7:=P7.choose_spec;have h8:=P8.choose_spec;have h9:=P9.choose_spec;have h10:=P10.choose_spec;have h11:=P11.choose_spec;have h12:=P12.choose_spec;have h13:=P13.choose_spec;have h14:=P14.choose_spec;have h15:=P15.choose_spec;have h16:=P16.choose_spec
 have h17:=P17.choose_spec;have h18:=P18.choose_spec;have h19:=P19.choose_spec;have h20:=P20.choose_spec;have h21:=P21.choose_spec;have h22:=P22.choose_spec;have h23:=P23.choose_spec;have h24:=P24.choose_spec;have h25:=P25.choose_spec;have h26:=P26.choose_spec;have h27:=P27.choose_spec;have h28:=P28.choose_spec;have h29:=P29.choose_spec;have h30:=P30.choose_spec;have h31:=P31.choose_spec
 have h32:=P32.choose_spec;have h33:=P33.choose_spec;have h34:=P34.choose_spec;have h35:=P35.choose_spec;have h36:=P36.choose_spec;have h37:=P37.choose_spec;have h38:=P38.choose_spec;have h39:=P39.choose_spec;have h40:=P40.choose_spec;have e:=hfa.symm.trans (mg_of X G h40.1);cases e
 have Z:Zs mg:=⟨mg_none_of X G bP2,mg_none_of X G bP3,mg_none_of X G bP4,mg_none_of X G bP5,mg_none_of X G b23,mg_none_of X G wC,mg_none_of X G aP7,mg_none_of X G uA,mg_none_of X G aP8,mg_none_of X G bP6,mg_none_of X G bP7,mg_none_of X G aB4,mg_none_of X G rH,mg_none_of X G bP8,mg_none_of X G b24,mg_none_of X G rJ⟩;have cD:=mg_of X G cD;have bM:=mg_of X G bM;have dG:=mg_of X G dG
 have mT:KT K eN (T_SMALL_PRIMES.map V.int):=kt_of kS kT kU;have cG:=mg_of X G cG;have eQ:=mg_of X G eQ;have dM:=mg_of X G dM;have dI:=mg_of X G dI;have dJ:=mg_of X G dJ;have aB3:=mg_of X G aB3
 have j8:aC2 K aD bJ _ "left" "right":=b40 (st:=j5) (x0:="self") (x1:="left") (x2:="right") rG oU oV rfl aD6 rfl rfl rfl (by decide) (by decide) (by decide) (λ_ _ _ _ _ _ us hl=>match us,hl with| [_,_,_],_=>rfl) gQ oW oX oY jU jV
 have mW:aC2 K bB cK _ "prime" "number":=b40 (st:=mR) (x0:="self") (x1:="prime") (x2:="number") wA tZ u4 rfl aV3 rfl rfl rfl (by decide) (by decide) (by decide) (λ_ _ _ _ _ _ us hl=>match us,hl with| [_,_,_],_=>rfl) kG u5 u6 u7 u8 u9
 have KX_FallsApart:bJ9 K aD ["left","right"]:=⟨⟨by rw[gQ];rfl,kg_FallsApart,kh_FallsApart,ka_FallsApart,kn_FallsApart,kt_FallsApart,km_FallsApart,kb_FallsApart⟩,kd_FallsApart,λf hf=>by
  simp only[mem_cons,not_mem_nil,or_false]at hf;rcases hf with rfl|rfl
  ·exact jU
  ·exact jV⟩
 have U1_FallsApart:qE K aD aD [.type "ValueError",.type "Exception",.type "BaseException",.type "object"] "ValueError.__new__":=y9 (.inr ⟨_,cV⟩) gQ se_FallsApart
 have U2_FallsApart: ∀n∈(["TooGreat","NotWhole"]:List Str),∀C,mg n=some (.ref C)->qF K aD C [.type "ValueError",.type "Exception",.type "BaseException",.type "object"] "ValueError.__new__" false/\qE K cL C [.type "ValueError",.type "Exception",.type "BaseException",.type "object"] "ValueError.__new__":=by
  intro n hn C hm;simp only[mem_cons,not_mem_nil,or_false]at hn;rcases hn with rfl|rfl
  ·(have e:=hm.symm.trans dM;cases e;exact⟨⟨(.inl eV),_,nT,nu_FallsApart_TooGreat⟩,y9 (.inl eV) nT fJ⟩)
  ·(have e:=hm.symm.trans dI;cases e;exact⟨⟨(.inr ⟨_,eU⟩),_,kG,nu_FallsApart_NotWhole⟩,y9 (.inr ⟨_,eU⟩) kG fK⟩)
 have U1:=aY (st:=eH) h1.2.1 h1.2.2.1 h1.2.2.2;have U2:=aY (st:=eT) h2.2.1 h2.2.2.1 h2.2.2.2;have U3:=aY (st:=a23) h3.2.1 h3.2.2.1 h3.2.2.2;have U4:=aY (st:=qR) h4.2.1 h4.2.2.1 h4.2.2.2;have U5:=aY (st:=gX) h5.2.1 h5.2.2.1 h5.2.2.2;have U6:=aY (st:=nO) h6.2.1 h6.2.2.1 h6.2.2.2;have U7:=aY (st:=xB) h7.2.1 h7.2.2.1 h7.2.2.2;have U8:=aY (st:=gC) h8.2.1 h8.2.2.1 h8.2.2.2
 have U9:=aY (st:=uG) h9.2.1 h9.2.2.1 h9.2.2.2;have U10:=aY (st:=lF) h10.2.1 h10.2.2.1 h10.2.2.2;have U11:=aY (st:=fP) h11.2.1 h11.2.2.1 h11.2.2.2;have U12:=aY (st:=dX) h12.2.1 h12.2.2.1 h12.2.2.2;have U13:=aY (st:=lH) h13.2.1 h13.2.2.1 h13.2.2.2;have U14:=aY (st:=a24) h14.2.1 h14.2.2.1 h14.2.2.2;have U15:=aY (st:=kC) h15.2.1 h15.2.2.1 h15.2.2.2;have U16:=aY (st:=kD) h16.2.1 h16.2.2.1 h16.2.2.2
 have U17:=aY (st:=gO) h17.2.1 h17.2.2.1 h17.2.2.2;have U18:=aY (st:=iY) h18.2.1 h18.2.2.1 h18.2.2.2;have U19:=aY (st:=iZ) h19.2.1 h19.2.2.1 h19.2.2.2;have U20:=aY (st:=mJ) h20.2.1 h20.2.2.1 h20.2.2.2;have U21:=aY (st:=j0) h21.2.1 h21.2.2.1 h21.2.2.2;have U22:=aY (st:=lJ) h22.2.1 h22.2.2.1 h22.2.2.2;have U23:=aY (st:=jS) h23.2.1 h23.2.2.1 h23.2.2.2
 have U24:=aY (st:=dD) h24.2.1 h24.2.2.1 h24.2.2.2;have U25:=aY (st:=dY) h25.2.1 h25.2.2.1 h25.2.2.2;have U26:=aY (st:=gP) h26.2.1 h26.2.2.1 h26.2.2.2;have U27:=aY (st:=j2) h27.2.1 h27.2.2.1 h27.2.2.2;have U28:=aY (st:=fX) h28.2.1 h28.2.2.1 h28.2.2.2;have U29:=aY (st:=cP) h29.2.1 h29.2.2.1 h29.2.2.2;have U30:=aY (st:=dE) h30.2.1 h30.2.2.1 h30.2.2.2
 have U31:=aY (st:=aN6) h31.2.1 h31.2.2.1 h31.2.2.2;have U32:=aY (st:=a25) h32.2.1 h32.2.2.1 h32.2.2.2;have U33:=aY (st:=a26) h33.2.1 h33.2.2.1 h33.2.2.2;have U34:=aY (st:=a27) h34.2.1 h34.2.2.1 h34.2.2.2;have U35:=aY (st:=nR) h35.2.1 h35.2.2.1 h35.2.2.2;have U36:=aY (st:=xF) h36.2.1 h36.2.2.1 h36.2.2.2;have U37:=aY (st:=aN9) h37.2.1 h37.2.2.1 h37.2.2.2
 have U38:=aY (st:=xG) h38.2.1 h38.2.2.1 h38.2.2.2;have U39:=aY (st:=uH) h39.2.1 h39.2.2.1 h39.2.2.2;have U40:=aY (st:=aA0) h40.2.1 h40.2.2.1 h40.2.2.2;have UR:=aY (st:=tO) b22 aP2 aP3;refine⟨fnOf "law" "law" (fL aA0) (bK aA0) (a8 aA0) .none P40.choose.kV P40.choose.dc P40.choose.pm P40.choose.an P40.choose.cd P40.choose.ct,λs v=> .of_eq rfl,λbase _ _=> ?_⟩
 have jM:nS l.prog w K mg base:=Fn.mkA U1 (mg_of X G h1.1) (U1.binds (ps:=iW) (by walk_at "b1")) xH vI (λcdv A outer s H E hr=>vZ Z cD hr) wS
 have b7:eB l.prog w K mg base:=Fn.mkA U2 (mg_of X G h2.1) (U2.binds (ps:=gJ) (by walk_at "b1")) uN sT (λcdv A outer s H E hr=>tU Z jM hr) uJ
 have rB:aA4 l.prog w K mg base:=Fn.mkA U3 (mg_of X G h3.1) (U3.binds (ps:=a93) (by walk_at "b1")) aA1 b99 (λcdv A outer s H E hr=>bB0 Z hr) bL5
 have w6:zN l.prog w K mg base:=Fn.mkA U4 (mg_of X G h4.1) (U4.binds (ps:=tI) (by walk_at "b2")) aV1 aN2 (λcdv A outer s H E hr=>aO5 Z hr) aU7
 have aZ:eK l.prog w K mg base:=Fn.mkA U5 (mg_of X G h5.1) (U5.binds (ps:=jK) (by walk_at "b2")) bF wU (λcdv A outer s H E hr=>xL Z rB hr) yC
 have iH:qZ l.prog w K mg base:=Fn.mkA U6 (mg_of X G h6.1) (U6.binds (ps:=qS) (by walk_at "b2")) lK aC8 (λcdv A outer s H E hr=>aD7 Z hr) aN1
 have aB1:aI6 l.prog w K mg base:=Fn.mkA U7 (mg_of X G h7.1) (U7.binds (ps:=yM) (by walk_at "b1")) pO b16 (λcdv A outer s H E hr=>b20 Z hr) bA4
 have d8:j6 l.prog w K mg base:=Fn.mkA U8 (mg_of X G h8.1) (U8.binds (ps:=iX) (by walk_at "b0")) xI vJ (λcdv A outer s H E hr=>w4 Z dG mT hr) wW
 have gD:oO l.prog w K mg base:=Fn.mkA U10 (mg_of X G h10.1) (U10.binds (ps:=oB) (by walk_at "b1")) oK a76 (λcdv A outer s H E hr=>aA6 Z hr) aD1
 have j7:mS l.prog w K mg base:=Fn.mkA U11 (mg_of X G h11.1) (U11.binds (ps:=i5) (by walk_at "b1")) i8 uL (λcdv A outer s H E hr=>uO Z gD iH aZ hr) vK
 have rC:uX l.prog w K mg base:=Fn.mkA U13 (mg_of X G h13.1) (U13.binds (ps:=oC) (by walk_at "b2")) oM a77 (λcdv A outer s H E hr=>aA7 Z aB1 hr) aD2
 have fZ:jD l.prog w K mg base:=Fn.mkA U12 (mg_of X G h12.1) (U12.binds (ps:=fG) (by walk_at "b1")) bW qN (λcdv A outer s H E hr=>r8 Z gD rC hr) sB
 have lU:vY l.prog w K mg base:=Fn.mkA U9 (mg_of X G h9.1) (U9.binds (ps:=vU) (by walk_at "b1")) vX aU6 (λcdv A outer s H E hr=>aV9 Z b7 j7 fZ hr) b17
 have iI:xJ l.prog w K mg base:=Fn.mkA U15 (mg_of X G h15.1) (U15.binds (ps:=qT) (by walk_at "b2")) aO2 aC4 (λcdv A outer s H E hr=>aD8 Z hr) aM4
 have bB7:Fn l.prog w K mg base "det" eI 1 (cJ 0):=Fn.void U14 (mg_of X G h14.1) (U14.binds (ps:=eI) (by walk_at "b1")) b10
 have bB8:Fn l.prog w K mg base "det" eI 2 (cJ 1):=Fn.mk' U14 (mg_of X G h14.1) (U14.binds (ps:=eI) (by walk_at "b1")) j3 (uE _) (λcdv A outer s H E hr=>uI Z (by decide) bB7 iI hr) (wR 0 (by decide))
 have bB9:Fn l.prog w K mg base "det" eI 3 (cJ 2):=Fn.mk' U14 (mg_of X G h14.1) (U14.binds (ps:=eI) (by walk_at "b1")) j3 (uE _) (λcdv A outer s H E hr=>uI Z (by decide) bB8 iI hr) (wR 1 (by decide))
 have bC0:Fn l.prog w K mg base "det" eI 4 (cJ 3):=Fn.mk' U14 (mg_of X G h14.1) (U14.binds (ps:=eI) (by walk_at "b1")) j3 (uE _) (λcdv A outer s H E hr=>uI Z (by decide) bB9 iI hr) (wR 2 (by decide))
 have bC1:Fn l.prog w K mg base "det" eI 5 (cJ 4):=Fn.mk' U14 (mg_of X G h14.1) (U14.binds (ps:=eI) (by walk_at "b1")) j3 (uE _) (λcdv A outer s H E hr=>uI Z (by decide) bC0 iI hr) (wR 3 (by decide))
 have xN:=bC1;have oP:tP l.prog w K mg base:=Fn.mkA U17 (mg_of X G h17.1) (U17.binds (ps:=mI) (by walk_at "b2")) eJ zX (λcdv A outer s H E hr=>a04 Z hr) a64
 have tY:xK l.prog w K mg base:=Fn.mkA U16 (mg_of X G h16.1) (U16.binds (ps:=qU) (by walk_at "b1")) qY aC5 (λcdv A outer s H E hr=>aD9 Z b7 oP xN hr) aM5
 have bS:jT l.prog w K mg base:=Fn.mkA U18 (mg_of X G h18.1) (U18.binds (ps:=oF) (by walk_at "b2")) aD4 a69 (λcdv A outer s H E hr=>aA8 Z rB hr) aC7
 have mU:rW l.prog w K mg base:=Fn.mkA U21 (mg_of X G h21.1) (U21.binds (ps:=kO) (by walk_at "b2")) gY yD (λcdv A outer s H E hr=>yO Z hr) zY
 have rD:zO l.prog w K mg base:=Fn.mkA U20 (mg_of X G h20.1) (U20.binds (ps:=tM) (by walk_at "b3")) aV2 aM8 (λcdv A outer s H E hr=>aO6 Z bS hr) aT4
 have mV:rV l.prog w K mg base:=Fn.mkA U19 (mg_of X G h19.1) (U19.binds (ps:=kN) (by walk_at "b3")) fA yE (λcdv A outer s H E hr=>yN Z bS mU aZ rD hr) zZ
 have oQ:tQ l.prog w K mg base:=Fn.mkA U23 (mg_of X G h23.1) (U23.binds (ps:=mK) (by walk_at "b2")) dF a00 (λcdv A outer s H E hr=>a05 Z iH mV hr) a72
 have gA:jE l.prog w K mg base:=Fn.mkA U25 (mg_of X G h25.1) (U25.binds (ps:=fH) (by walk_at "b2")) bI qQ (λcdv A outer s H E hr=>rA Z hr) sC
 have i9:l5 l.prog w K mg base:=Fn.mkA U24 (mg_of X G h24.1) (U24.binds (ps:=gK) (by walk_at "b2")) kZ sY (λcdv A outer s H E hr=>tV Z gA hr) uK
 have rF:uY l.prog w K mg base:=Fn.mkA U22 (mg_of X G h22.1) (U22.binds (ps:=oG) (by walk_at "b2")) oN a73 (λcdv A outer s H E hr=>aA9 Z d8 oQ bS i9 hr) aC9
 have rE:uZ l.prog w K mg base:=Fn.mkA U27 (mg_of X G h27.1) (U27.binds (ps:=oJ) (by walk_at "b2")) aD5 a74 (λcdv A outer s H E hr=>aB0 Z rF aZ hr) aD0
 have oS:tT l.prog w K mg base:=Fn.mkA U26 (mg_of X G h26.1) (U26.binds (ps:=mL) (by walk_at "b2")) aA2 a02 (λcdv A outer s H E hr=>a06 Z d8 rE hr) a75
 have mX:rX l.prog w K mg base:=Fn.mkA U28 (mg_of X G h28.1) (U28.binds (ps:=kP) (by walk_at "b2")) dQ yI (λcdv A outer s H E hr=>yP Z aZ hr) a03
 have iB:FnX l.prog w K mg base "need_together" i7 5 cT:=FnX.mk' U29 (mg_of X G h29.1) (U29.binds (ps:=i7) (by walk_at "b1")) mQ tF (λcdv A outer s H E hr=>tW Z cG cV j8 lU hr) uM
 have kR:FnX l.prog w K mg base "need_whole" kQ 9 eG:=FnX.mk' U30 (mg_of X G h30.1) (U30.binds (ps:=kQ) (by walk_at "b2")) gZ wZ (λcdv A outer s H E hr=>xM Z dI eU mW mX oS w6 hr) yK
 have b21:b62 l.prog w K mg base:=Fn.mkA U31 (mg_of X G h31.1) (U31.binds (ps:=aN7) (by walk_at "b2")) bY4 bK9 (λcdv A outer s H E hr=>bP0 Z hr) bW5
 have aO7:aV4 l.prog w K mg base:=Fn.mkA U32 (mg_of X G h32.1) (U32.binds (ps:=a95) (by walk_at "b3")) aA3 b94 (λcdv A outer s H E hr=>bB1 Z hr) bK3
 have a29:aV5 l.prog w K mg base:=Fn.mkA U33 (mg_of X G h33.1) (U33.binds (ps:=a96) (by walk_at "b3")) pP b95 (λcdv A outer s H E hr=>bB2 Z aO7 hr) bK4
 have aO8:aV6 l.prog w K mg base:=Fn.mkA U34 (mg_of X G h34.1) (U34.binds (ps:=a97) (by walk_at "b1")) bO7 b96 (λcdv A outer s H E hr=>bB3 Z hr) bK8
 have iJ:r6 l.prog w K mg base:=Fn.mkA U35 (mg_of X G h35.1) (U35.binds (ps:=qX) (by walk_at "b2")) lL aD3 (λcdv A outer s H E hr=>aE0 Z hr) aN3
 have a28:aV7 l.prog w K mg base:=Fn.mkA U36 (mg_of X G h36.1) (U36.binds (ps:=a98) (by walk_at "b1")) bO8 bA7 (λcdv A outer s H E hr=>bB4 Z aO8 hr) bN8
 have yQ:aO4 l.prog w K mg base:=Fn.mkA U37 (mg_of X G h37.1) (U37.binds (ps:=aO0) (by walk_at "b3")) bY5 bN9 (λcdv A outer s H E hr=>bP1 Z a28 iJ hr) bY3
 have aP0:aV8 l.prog w K mg base:=Fn.mkA U38 (mg_of X G h38.1) (U38.binds (ps:=a99) (by walk_at "b1")) j4 bA8 (λcdv A outer s H E hr=>bB5 Z a29 iJ hr) bO4
 have okR:OkC K jN ["poly","degree","measure"]:=⟨⟨pg_Ring,aP4,po_Ring,aP5⟩,λf hf=>by
  simp only[mem_cons,not_mem_nil,or_false]at hf;rcases hf with rfl|rfl|rfl
  ·exact aP6
  ·exact yT
  ·exact wB⟩
 have fR:=bJ8 UR b61 okR (by decide) (by decide) (by decide) bA6 (by decide) (λcdv A outer s H E hr=>bB6 Z bM dM eV b7 tY iB kR hr) bN3
 have bR:=UR.binds (ps:=["self","poly"]) λ_ _ _ _ _ _ us hl=>match us,hl with| [_,_],_=>rfl
 have aO9:MkX l.prog w K mg base "Ring" 10 ["poly","degree","measure"] tG:=⟨jN,xO,_,["self","poly"],Mk.mk mk_Ring aP1 fn_Ring kc_Ring,okR,fR,bR,aB3⟩
 have yR:aA5 l.prog w K mg base:=Fn.mkA U39 (mg_of X G h39.1) (U39.binds (ps:=vW) (by walk_at "b1")) fY aU8 (λcdv A outer s H E hr=>aW0 Z cG cV j8 eQ kF dJ j9 dI eU mW dM eV KX_FallsApart U1_FallsApart U2_FallsApart ki_RingError ki_ValueError ki_NoPolynomial ki_NotWhole ki_TooGreat aO9 yQ hr) b19
 exact aK7 U40 aO3 bW7 (λcdv A outer s H E hr=>⟨aN5,bY6 Z aP0 b21 lU yQ yR hr,rd_law⟩)
end M
open PySem PySem.W PyProof.Rows
local macro_rules| `(tactic| walk_at "f")=> `(tactic| (refine' M.fnAt ?x1 ?x2 ?x3 ?x4;(case x1=>k_is);(case x2=>k_is);(case x3=>k_is);(case x4=>k_is)))
namespace PySem.W.Fast
def tw2176929833414403278:=()
def tw5622624504151010426:=()
def tw10306001481051676466:=()
def tw10183292254212390463:=()
def tw1272538620750783512:=()
def tw4219770189293658719:=()
def tw17044379759728872173:=()
def tw12532465558602355408:=()
def tw15282687460773519526:=()
def tw5061754410044499402:=()
def tw2068918978209889533:=()
def tw14296942100015624674:=()
def tw13473136869947305742:=()
def tw879870179358242367:=()
def tw15018688461938063514:=()
def tw18071391080502336124:=()
def tw14887038080307944963:=()
def tw7010675609737701873:=()
def tw12019848552674204027:=()
def tw5398480301531692560:=()
def tw7674172126263821120:=()
def tw8062379132187880134:=()
def tw7125624881491221427:=()
def tw1478660676560070349:=()
def tw17379164626026908985:=()
def tw8406734539159598208:=()
def tw7943579930180160207:=()
def tw1169153280424459111:=()
def tw1970637466246983308:=()
def tw3228293070765883140:=()
def tw7783935238089775907:=()
def tw832582789916619490:=()
def tw12659172512916673848:=()
def tw12142169968049918991:=()
def tw14416441172978671816:=()
def tw12219758646654543523:=()
def tw4312963967374989906:=()
def tw10162797926616259375:=()
def tw17801584263104545086:=()
def tw5290597775276232645:=()
def tw17111984375563028526:=()
def tw13532527643372508016:=()
def tw8231268043671927282:=()
def tw9113426745271860470:=()
def tw11171388569613621717:=()
def tw18116703777742342663:=()
def tw238275935446507844:=()
def tw11004864793385680577:=()
def tw1403005244234529572:=()
def tw2646519797360859043:=()
def tw1357482159815910764:=()
def tw948187189497745273:=()
def tw1032276735632855315:=()
def tw10742038487701291166:=()
def tw8234561049556862402:=()
def tw6884237078714406109:=()
def tw15306166656141606142:=()
def tw3081179830482479375:=()
def tw6394259786860781832:=()
def tw8487482555328785141:=()
def tw10112527123131953319:=()
end PySem.W.Fast
set_option maxRecDepth 100000 in
set_option maxHeartbeats 0 in
theorem PySem.Challenge.cw_ringhouse_k11_apart_told_holds : PySem.Challenge.rw_ringhouse_k11_apart_told.Holds := by
 w_on;o_law;k_head;(case hw=>w_witness2)
 k_fill
 refine M.walkM (l:=PySem.Challenge.rw_ringhouse_k11_apart_told) (k:=13) (x:="_law_script") rfl rfl ⟨rfl,by decide,by decide⟩ (λw h Y=>PySem.W.kIn_of Y) ?F
 case F=>
  intro w mg fa h KX G hmg
  refine' M.all_mk KX G hmg ?P1 ?P2 ?P3 ?P4 ?P5 ?P6 ?P7 ?P8 ?P9 ?P10 ?P11 ?P12 ?P13 ?P14 ?P15 ?P16 ?P17 ?P18 ?P19 ?P20 ?P21 ?P22 ?P23 ?P24 ?P25 ?P26 ?P27 ?P28 ?P29 ?P30 ?P31 ?P32 ?P33 ?P34 ?P35 ?P36 ?P37 ?P38 ?P39 ?P40 ?cG ?eQ ?dM ?dI ?dJ ?aB3 ?v9 ?zQ ?aP1 ?rG ?wA ?b22 ?oU ?oV ?tZ ?u4 ?aP2 ?aP3 ?cV ?eU ?kF ?eV ?j9 ?gQ ?nT ?kG ?rY ?se_FallsApart ?nu_FallsApart_TooGreat ?fJ ?nu_FallsApart_NotWhole ?fK ?kg_FallsApart ?kh_FallsApart ?ka_FallsApart ?kn_FallsApart ?kt_FallsApart ?km_FallsApart ?kb_FallsApart ?kd_FallsApart ?ki_RingError ?ki_ValueError ?ki_NoPolynomial ?ki_NotWhole ?ki_TooGreat ?oW ?oX ?oY ?jU ?jV ?u5 ?u6 ?u7 ?u8 ?u9 ?mk_Ring ?fn_Ring ?kc_Ring ?pg_Ring ?aP4 ?po_Ring ?aP5 ?aP6 ?yT ?wB ?bP2 ?bP3 ?bP4 ?bP5 ?b23 ?wC ?aP7 ?uA ?aP8 ?bP6 ?bP7 ?aB4 ?rH ?bP8 ?b24 ?rJ ?cD ?bM ?dG ?kS ?kT ?kU
  (case P1|P2|P3|P4|P5|P6|P7|P8|P9|P10|P11|P12|P13|P14|P15|P16|P17|P18|P19|P20|P21|P22|P23|P24|P25|P26|P27|P28|P29|P30|P31|P32|P33|P34|P35|P36|P37|P38|P39|P40=>walk_at "f");(case cG|eQ|dM|dI|dJ|aB3|v9|zQ|aP1|rG|wA|b22|oU|oV|tZ|u4|aP2|aP3|gQ|nT|kG|rY|kg_FallsApart|kh_FallsApart|ka_FallsApart|kn_FallsApart|kt_FallsApart|km_FallsApart|kb_FallsApart|kd_FallsApart|oY|jU|jV|u7|u8|u9|mk_Ring|fn_Ring|kc_Ring|pg_Ring|aP4|po_Ring|aP5|aP6|yT|wB|bP2|bP3|bP4|bP5|b23|wC|aP7|uA|aP8|bP6|bP7|aB4|rH|bP8|b24|rJ|cD|bM|dG|kS=>k_is);(case cV|eU=>first|kernel_rfl|rfl);(case kF|eV|j9=>k_exc);(case se_FallsApart|nu_FallsApart_TooGreat|fJ|nu_FallsApart_NotWhole|fK|oW|oX|u5|u6=>first|kernel_rfl|rfl|decide);(case ki_RingError|ki_ValueError|ki_NoPolynomial|ki_NotWhole|ki_TooGreat=>first|k_is|kernel_rfl|rfl);(case kT=>first|decide| (trace_state;decide +kernel));(case kU=>first| (show L2.Vals (List.map _ _) (List.toList _);simp only[M.T_SMALL_PRIMES,List.map];repeat (first|exact .nil|refine .cons (.int _ _) ?_))| (repeat constructor)|trace_state)
